/- The set S of this program's functions that meet no other goroutine, and its closure. -/
import Derived.Test.YtcgabodkegcpgaaDoorMut
import Derived.Test.YtcgabodkegcpgaaDoorProg
import Derived.KernelRfl
import Derived.Test.YtcgabodkegcpgaaDoorKer
import Derived.Deep.RegionHeld3
import Derived.Deep.DrawnRows
import Derived.Deep.OwnRows
import Derived.Deep.MidRow
set_option linter.unusedVariables false
set_option linter.unusedSimpArgs false
set_option maxHeartbeats 20000000
set_option maxRecDepth 100000
namespace Go.Proofs.YtcgabodkegcpgaaDoor.Br
theorem a2B {info:TypeId->Option TypeInfo}{fs:Array Field}{i:TypeInfo}(h:Made.reckonStruct info fs=some i):i.methods=#[]:=by
 unfold Made.reckonStruct at h;simp only [bind,Option.bind_eq_some_iff] at h;obtain ⟨r,_,h⟩:=h;revert h
 repeat' split
 all_goals
  intro h
  first
   | (obtain rfl:=Option.some.inj h;rfl)
   | skip
theorem a7a {info:TypeId->Option TypeInfo}{d:TypeDesc}{i:TypeInfo}(h:Made.reckon info d=some i):i.methods=#[]:=by
 unfold Made.reckon at h;split at h
 ·simp only [bind,Option.bind_eq_some_iff] at h;obtain ⟨j,_,h⟩:=h;split at h
  ·cases h
  ·split at h
   ·cases h
   ·simp only [bind,Option.bind_eq_some_iff] at h;obtain ⟨s,_,h⟩:=h;obtain rfl:=Option.some.inj h;rfl
  ·simp only [bind,Option.bind_eq_some_iff] at h;obtain ⟨s,_,h⟩:=h;obtain rfl:=Option.some.inj h;rfl
 ·simp only [bind,Option.bind_eq_some_iff] at h;obtain ⟨j,_,s,_,h⟩:=h;obtain rfl:=Option.some.inj h;rfl
 ·simp only [bind,Option.bind_eq_some_iff] at h;obtain ⟨j,_,s,_,j',_,s',_,h⟩:=h;obtain rfl:=Option.some.inj h;rfl
 ·simp only [bind,Option.bind_eq_some_iff] at h;obtain ⟨j,_,s,_,h⟩:=h;obtain rfl:=Option.some.inj h;rfl
 ·simp only [bind,Option.bind_eq_some_iff] at h;obtain ⟨s,_,h⟩:=h;obtain rfl:=Option.some.inj h;rfl
 ·simp only [bind,Option.bind_eq_some_iff] at h;obtain ⟨j,_,s,_,h⟩:=h;obtain rfl:=Option.some.inj h;rfl
 ·exact a2B h
 ·cases h
theorem a9c {T:Tables}{t:TypeId}{i:TypeInfo}(ht:T.types.size<=t)(h:T.info? t=some i):i.methods=#[]:=by
 unfold Tables.info? at h;rw [if_neg (Nat.not_lt.2 ht)] at h;unfold Made.depth at h;rw [show (100:Nat)=99+1 from rfl,Made.infoAt,if_neg (Nat.not_lt.2 ht)] at h;simp only [Option.bind_eq_some_iff] at h;obtain ⟨d,_,h⟩:=h;exact a7a h
def c2i:List FuncId:=[10,11,13,24,25,26,27,28,29,30,31,32,34,35,36,45,46,47,48,49,50,51,52,53,54,55,56,57,58,59,60,61,62,64,65,66,67,68,69,70,71,72,73,74,77,16,21,40,78,88,90,9,12,33,14,37,38,39,19,43,22,85,94,96,97,114,115,116,117,118]
def Sg (f:FuncId):Bool:=c2i.contains f
def ms:List String:=["Len", "Less", "Swap", "Push", "Pop"]
def b2Y (P:Program)(S:FuncId->Bool)(meths:List String)(f:FuncId):Bool :=
 match P.funcs[f]? with
 | some fn=>!(fn.name == "runtime.NumGoroutine") && (match fn.body with|some c=>O3 P S meths true c|none=>false)
 | none=>false
def a9d (P:Program)(S:FuncId->Bool)(f:FuncId):Bool :=
 match P.funcs[f]? with
 | some fn=>!(fn.name == "runtime.NumGoroutine") && ((!fn.body.isNone && S f) || (fn.body.isNone && (Extern.findNext fn).isNone && (Extern.find fn).isNone && !(fn.name.endsWith ".init" && !fn.name.startsWith "(" && !fn.name.startsWith "gosem.")))
 | none=>false
def a9e (P:Program)(S:FuncId->Bool)(meths:List String):Bool :=
 P.types.all λi=>i.methods.all λm=>!meths.contains m.name || (match m.func with|some (f,_)=>a9d P S f|none=>true)
theorem b5g {P:Program}{S:FuncId->Bool}{f:FuncId}(h:a9d P S f=true):a2E P (λf=>S f=true) f:=by
 unfold a9d at h;split at h
 ·rename_i fn hf;simp only [Bool.and_eq_true,Bool.or_eq_true,Bool.not_eq_true',Option.isNone_iff_eq_none] at h;obtain ⟨h1,h2⟩:=h;refine ⟨fn,hf,h1,?_⟩;rcases h2 with ⟨a,b⟩|⟨⟨⟨a,b⟩,c⟩,d⟩
  ·exact .inl ⟨a,b⟩
  ·refine .inr ⟨by rw [a];rfl,b,c,?_⟩;exact d
 ·cases h
theorem b5h {P:Program}{S:FuncId->Bool}{meths:List String}(h:a9e P S meths=true):∀ m∈meths,a7h P (a2E P (λf=>S f=true)) m:=by
 intro name hn t i m f b hi hm hf
 by_cases ht:t<P.types.size
 ·have hi':P.types[t]?=some i:=by
   have:P.info? t=_:=hi;unfold Tables.info? at this;rw [if_pos ht] at this;exact this
  unfold a9e at h;rw [Array.all_eq_true_iff_forall_mem] at h;have h1:=h i (Array.mem_of_getElem? hi');rw [Array.all_eq_true_iff_forall_mem] at h1;have hmem:m∈i.methods:=Array.mem_of_find?_eq_some hm;have h2:=h1 m hmem;have hname:(m.name == name)=true:=by
   have:=Array.find?_some hm;exact this
  rw [hf] at h2;have e:m.name=name:=by simpa using hname
  rw [e] at h2;have hc:meths.contains name=true:=by simpa using hn
  rw [hc] at h2;exact b5g (by simpa using h2)
 ·have:=a9c (T:=P.toTables) (Nat.le_of_not_lt ht) hi;rw [this] at hm;simp at hm
theorem c0T:c2i.all (b2Y Tryd.prog Sg ms)=true:=by kernel_rfl
theorem b7W:a9e Tryd.prog Sg ms=true:=by kernel_rfl
theorem a3j:Rules Tryd.prog Sg ms true:=by
 refine ⟨λf hf=>?_,b5h b7W⟩;have h:=List.all_eq_true.1 c0T f (by simpa [Sg] using hf);unfold b2Y at h;split at h
 ·rename_i fn hfn;rw [Bool.and_eq_true] at h;obtain ⟨h1,h2⟩:=h;split at h2
  ·rename_i c hc;exact ⟨fn,c,hfn,by simpa using h1,hc,h2⟩
  ·cases h2
 ·cases h
end Go.Proofs.YtcgabodkegcpgaaDoor.Br
namespace Go.Proofs.YtcgabodkegcpgaaDoor
open Go.RowKit
section
variable {bk bf bs bd:Nat} {K:Ker} {w:World}
theorem Rep.d0 (R:Rep w bk bf bs bd K){i:Nat}(hi:i<K.nD):w.cell? ⟨bd,i*5,none⟩=some (.int .i64 (K.D i 0)):=R.d i 0 hi (by omega)
theorem Rep.d1 (R:Rep w bk bf bs bd K){i:Nat}(hi:i<K.nD):w.cell? ⟨bd,i*5+1,none⟩=some (.int .i64 (K.D i 1)):=R.d i 1 hi (by omega)
theorem Rep.d2 (R:Rep w bk bf bs bd K){i:Nat}(hi:i<K.nD):w.cell? ⟨bd,i*5+2,none⟩=some (.int .i64 (K.D i 2)):=R.d i 2 hi (by omega)
theorem Rep.d3 (R:Rep w bk bf bs bd K){i:Nat}(hi:i<K.nD):w.cell? ⟨bd,i*5+3,none⟩=some (.int .i64 (K.D i 3)):=R.d i 3 hi (by omega)
theorem Rep.d4 (R:Rep w bk bf bs bd K){i:Nat}(hi:i<K.nD):w.cell? ⟨bd,i*5+4,none⟩=some (.int .i64 (K.D i 4)):=R.d i 4 hi (by omega)
theorem Rep.noDuct (R:Rep w bk bf bs bd K){d:Nat}(hd:d<K.nD)(f:Int) :
  Rep (((((w.setCell ⟨bd,d*5,none⟩ (.int .i64 f)).setCell ⟨bd,d*5+1,none⟩ (.int .i64 0)).setCell ⟨bd,d*5+2,none⟩ (.int .i64 0)).setCell ⟨bd,d*5+3,none⟩ (.int .i64 0)).setCell ⟨bd,d*5+4,none⟩ (.int .i64 0)) bk bf bs bd (K.noDuct d f):=by
 have Ra:=R.setD (c:=0) (o:=d*5) hd (by omega) rfl f;have ha:d<(K.setD d 0 f).nD:=hd;have Rb:=Ra.setD (c:=1) (o:=d*5+1) ha (by omega) rfl 0;have hb:d<((K.setD d 0 f).setD d 1 0).nD:=ha;have Rc:=Rb.setD (c:=2) (o:=d*5+2) hb (by omega) rfl 0;have hc:d<(((K.setD d 0 f).setD d 1 0).setD d 2 0).nD:=hb;have Rd:=Rc.setD (c:=3) (o:=d*5+3) hc (by omega) rfl 0;have he:d<((((K.setD d 0 f).setD d 1 0).setD d 2 0).setD d 3 0).nD:=hc;exact Rd.setD (c:=4) (o:=d*5+4) he (by omega) rfl 0
theorem a4x (R:Rep w bk bf bs bd K){d:Nat}(b:Bool)(m:Int)(hd:d<K.nD)(hm:-1<=m/\m<=1)(h3:0<=K.D d 3/\K.D d 3<=24)(h4:0<=K.D d 4/\K.D d 4<=24) :
  Calls Tryd.prog 77 #[.pointer (some ⟨bk,0,none⟩),.agg #[.int .i64 d,.bool b],.int .i64 m] w λe w'=>e=.returned (.tuple #[])/\Rep w' bk bf bs bd (K.count d b m)/\Keeps bf bs bd w w':=by
 have HR:Hid (Rep w bk bf bs bd K):=R;have hn:=R.hD;have k2:=λo=>(HR.out.alloc o).k2;have c3:=λo=>(HR.out.alloc o).d3 hd;have c4:=λo=>(HR.out.alloc o).d4 hd;have z:=λo=>(HR.out.alloc o).zd;clear R;obtain ⟨hm1,hm2⟩:=hm;obtain ⟨h31,h32⟩:=h3;obtain ⟨h41,h42⟩:=h4;cases b
 ·go_enter Tryd.func77,Tryd.ntmps77
  go_wp2
  go_region
  all_goals
   go_wp2
   go_end0
   exact ⟨rfl,(HR.out.alloc _).drew.setD hd (by omega) rfl _,((Keeps.refl w).alloc _).drew.setD _ _⟩
 ·go_enter Tryd.func77,Tryd.ntmps77
  go_wp2
  go_region
  all_goals
   go_wp2
   go_end0
   exact ⟨rfl,(HR.out.alloc _).drew.setD hd (by omega) rfl _,((Keeps.refl w).alloc _).drew.setD _ _⟩
theorem a0w (R:Rep w bk bf bs bd K){s x d:Nat}(b:Bool)(hs:s<K.nS)(hx:x<4)(hd:d<K.nD)(h3:0<=K.D d 3/\K.D d 3<=24)(h4:0<=K.D d 4/\K.D d 4<=24) :
  Calls Tryd.prog 71 #[.pointer (some ⟨bk,0,none⟩),.int .i64 s,.int .i64 x,.agg #[.int .i64 d,.bool b]] w λe w'=>e=.returned (.tuple #[])/\Rep w' bk bf bs bd (K.openFile s x d b)/\Keeps bf bs bd w w':=by
 have HR:Hid (Rep w bk bf bs bd K):=R;have hn:=R.hS;have k1:=λo=>(HR.out.alloc o).k1;have c3:=λo=>(HR.out.alloc o).ff hs hx;have c4:=λo=>(HR.out.alloc o).fe hs hx;have z:=λo=>(HR.out.alloc o).zs;have ne:bs≠w.heap.size:=Nat.ne_of_lt R.ls;have ne':w.heap.size≠bs:=λe=>ne e.symm;have H3:=h3;have H4:=h4;clear R
 go_enter Tryd.func71,Tryd.ntmps71
 go_wp2
 go_region
 all_goals
  go_wp2_with fail
  refine (a4x (K:=K.setFile s x d b) (((HR.out.alloc _).setS (c:=11+x*2) hs (by omega) (a6f x) (by omega) _).setB (c:=12+x*2) hs (c0y x hx) (by omega) _).drew b 1 hd (by omega) H3 H4).mono ?_;rintro e w1 ⟨rfl,R1,q1⟩
  go_wp2
  go_end0
  exact ⟨rfl,R1,((((Keeps.refl w).alloc _).setS _ _).setS _ _).drew.trans q1⟩
theorem a8r (R:Rep w bk bf bs bd K){i p:Nat}{q:Int}(hi:i<K.nS)(hq:q=p)(hp:p<4) :
  Calls Tryd.prog 70 #[.pointer (some ⟨bk,0,none⟩),.int .i64 i,.int .i64 q] w λe w'=>e=.returned (.bool (K.S i (11+p*2) != -1))/\w'=w:=by
 subst hq;exact z7 R hi hp
theorem b0J (R:Rep w bk bf bs bd K){s x d:Nat}{q:Int}(b:Bool)(hs:s<K.nS)(hq:q=x)(hx:x<4)(hd:d<K.nD)(h3:0<=K.D d 3/\K.D d 3<=24)(h4:0<=K.D d 4/\K.D d 4<=24) :
  Calls Tryd.prog 71 #[.pointer (some ⟨bk,0,none⟩),.int .i64 s,.int .i64 q,.agg #[.int .i64 d,.bool b]] w λe w'=>e=.returned (.tuple #[])/\Rep w' bk bf bs bd (K.openFile s x d b)/\Keeps bf bs bd w w':=by
 subst hq;exact a0w R b hs hx hd h3 h4
theorem a7C (K:Ker)(n:Nat)(f:Int):(0<=(K.noDuct n f).D n 3/\(K.noDuct n f).D n 3<=24)/\(0<=(K.noDuct n f).D n 4/\(K.noDuct n f).D n 4<=24):=by
 simp [Ker.noDuct,Ker.setD,upd]
theorem a7b (K:Ker)(n:Nat)(f:Int)(s x:Nat):(0<=((K.noDuct n f).openFile s x n false).D n 3/\((K.noDuct n f).openFile s x n false).D n 3<=24)/\(0<=((K.noDuct n f).openFile s x n false).D n 4/\((K.noDuct n f).openFile s x n false).D n 4<=24):=by
 simp [Ker.noDuct,Ker.openFile,Ker.count,Ker.setFile,Ker.setS,Ker.setB,Ker.setD,upd]
theorem b7X (R:Rep w bk bf bs bd K)(G:Good K){s n f x:Nat}(hs:s<K.nS)(hn:n<K.nD)(hf:f<K.nF)(hx:x<4) :
  Calls Tryd.prog 56 #[.pointer (some ⟨bk,0,none⟩),.int .i64 s,.agg #[.int .i64 n,.int .i64 f,.int .i64 x]] w (Ends bk bf bs bd w (G3 K s n f x)):=by
 have HR:Hid (Rep w bk bf bs bd K):=R;have m1:=R.hF;have m2:=R.hS;have m3:=R.hD;have k2:=λo=>(HR.out.alloc o).k2;have c0:=λo=>(HR.out.alloc o).d0 hn;clear R
 by_cases h1:K.D n 0=-1
 ·have e1:(K.D n 0 != -1)=false:=by simpa using h1
  by_cases h2:K.F f 0=0
  ·have e2:(K.F f 0 == 0)=true:=by simpa using h2
   by_cases h3:x=3
   ·subst h3;have E:Hid (G3 K s n f 3=⟨K,0,8⟩):=by unfold G3;simp [h1,h2,Hid]
    clear h1 h2
    go_enter Tryd.func56,Tryd.ntmps56
    go_wp2
    go_quiet (fail)
    go_wp2_with fail
    refine (G4 ((HR.out.alloc _).drewN _) hf).mono ?_;rintro e w1 ⟨rfl,rfl⟩
    go_wp2
    go_ret2
    exact Ends.mk E ((HR.out.alloc _).drewN _) (((Keeps.refl w).alloc _).drewN _)
   ·have e3:((x:Int)+1 == 4)=false:=by rw [beq_eq_false_iff_ne];omega
    by_cases h4:K.file s x=-1
    ·have e4:(K.S s (11+x*2) != -1)=false:=by simpa [Ker.file] using h4
     by_cases h5:K.file s (x+1)=-1
     ·have e5:(K.S s (11+(x+1)*2) != -1)=false:=by simpa [Ker.file] using h5
      have E:Hid (G3 K s n f x=⟨(((K.become f 3 (-1)).noDuct n f).openFile s x n false).openFile s (x+1) n true,0,0⟩):=by unfold G3;simp [h1,h2,h3,h4,h5,Hid]
      clear h1 h2 h4 h5
      go_enter Tryd.func56,Tryd.ntmps56
      go_wp2
      go_quiet (fail)
      go_wp2_with fail
      refine (G4 ((HR.out.alloc _).drewN _) hf).mono ?_;rintro e w1 ⟨rfl,rfl⟩
      go_wp2_with fail
      refine (z7 ((HR.out.alloc _).drewN _) hs hx).mono ?_;rintro e w1 ⟨rfl,rfl⟩
      go_wp2_with fail
      refine (a8r (p:=x+1) ((HR.out.alloc _).drewN _) hs (by omega) (by omega)).mono ?_;rintro e w1 ⟨rfl,rfl⟩
      go_wp2_with fail
      refine (P1 ((HR.out.alloc _).drewN _) _ _ hf).mono ?_;rintro e w1 ⟨rfl,R1,q1⟩;have r0:=R1.k2;have r1:=R1.d0 hn;have r2:=R1.d1 hn;have r3:=R1.d2 hn;have r4:=R1.d3 hn;have r5:=R1.d4 hn;have r6:=R1.zd;have r7:n<(K.become f 3 (-1)).nD:=hn;have r8:(K.become f 3 (-1)).nD<=4:=m3;have r9:s<(K.become f 3 (-1)).nS:=hs;generalize K.become f 3 (-1)=K1 at *;have t1:n<(K1.noDuct n f).nD:=r7;have t2:s<(K1.noDuct n f).nS:=r9;have T1:=a7C K1 n f;have T2:=a7b K1 n f s x;have R2:=R1.noDuct r7 f;have HR2:Hid _:=R2;clear R2;have t3:n<((K1.noDuct n f).openFile s x n false).nD:=t1;have t4:s<((K1.noDuct n f).openFile s x n false).nS:=t2;have HT1:Hid _:=T1;have HT2:Hid _:=T2;clear T1 T2;have HK1:Hid _:=q1;have HR1:Hid _:=R1;clear q1 R1
      go_wp2_with fail
      refine (a0w HR2.out false t2 hx t1 HT1.out.1 HT1.out.2).mono ?_;rintro e w2 ⟨rfl,R3,q3⟩;have HR3:Hid _:=R3;have HK3:Hid _:=q3;clear R3 q3
      go_wp2_with fail
      refine (b0J (x:=x+1) HR3.out true t4 (by omega) (by omega) t3 HT2.out.1 HT2.out.2).mono ?_;rintro e w3 ⟨rfl,R4,q4⟩;have HR4:Hid _:=R4;have HK4:Hid _:=q4;clear R4 q4
      go_wp2
      go_ret2
      exact Ends.mk E HR4.out (((((((((((Keeps.refl w).alloc _).drewN _).trans HK1.out).setD _ _).setD _ _).setD _ _).setD _ _).setD _ _).trans HK3.out).trans HK4.out)
     ·have e5:(K.S s (11+(x+1)*2) != -1)=true:=by simpa [Ker.file] using h5
      have E:Hid (G3 K s n f x=⟨K,0,8⟩):=by unfold G3;simp [h1,h2,h3,h4,h5,Hid]
      clear h1 h2 h4 h5
      go_enter Tryd.func56,Tryd.ntmps56
      go_wp2
      go_quiet (fail)
      go_wp2_with fail
      refine (G4 ((HR.out.alloc _).drewN _) hf).mono ?_;rintro e w1 ⟨rfl,rfl⟩
      go_wp2_with fail
      refine (z7 ((HR.out.alloc _).drewN _) hs hx).mono ?_;rintro e w1 ⟨rfl,rfl⟩
      go_wp2_with fail
      refine (a8r (p:=x+1) ((HR.out.alloc _).drewN _) hs (by omega) (by omega)).mono ?_;rintro e w1 ⟨rfl,rfl⟩
      go_wp2
      go_ret2
      exact Ends.mk E ((HR.out.alloc _).drewN _) (((Keeps.refl w).alloc _).drewN _)
    ·have e4:(K.S s (11+x*2) != -1)=true:=by simpa [Ker.file] using h4
     have E:Hid (G3 K s n f x=⟨K,0,8⟩):=by unfold G3;simp [h1,h2,h3,h4,Hid]
     clear h1 h2 h4
     go_enter Tryd.func56,Tryd.ntmps56
     go_wp2
     go_quiet (fail)
     go_wp2_with fail
     refine (G4 ((HR.out.alloc _).drewN _) hf).mono ?_;rintro e w1 ⟨rfl,rfl⟩
     go_wp2_with fail
     refine (z7 ((HR.out.alloc _).drewN _) hs hx).mono ?_;rintro e w1 ⟨rfl,rfl⟩
     go_wp2
     go_ret2
     exact Ends.mk E ((HR.out.alloc _).drewN _) (((Keeps.refl w).alloc _).drewN _)
  ·have e2:(K.F f 0 == 0)=false:=by simpa using h2
   have E:Hid (G3 K s n f x=⟨K,0,5⟩):=by unfold G3;simp [h1,h2,Hid]
   clear h1 h2
   go_enter Tryd.func56,Tryd.ntmps56
   go_wp2
   go_quiet (fail)
   go_wp2_with fail
   refine (G4 ((HR.out.alloc _).drewN _) hf).mono ?_;rintro e w1 ⟨rfl,rfl⟩
   go_wp2
   go_ret2
   exact Ends.mk E ((HR.out.alloc _).drewN _) (((Keeps.refl w).alloc _).drewN _)
 ·have e1:(K.D n 0 != -1)=true:=by simpa using h1
  have E:Hid (G3 K s n f x=⟨K,0,9⟩):=by unfold G3;simp [h1,Hid]
  clear h1
  go_enter Tryd.func56,Tryd.ntmps56
  go_wp2
  go_quiet (fail)
  go_wp2
  go_ret2
  exact Ends.mk E ((HR.out.alloc _).drewN _) (((Keeps.refl w).alloc _).drewN _)
end
attribute [local go_sem ↓] Go.wp_at_zero Go.wp_at_succ
section
variable {bk bf bs bd:Nat} {K:Ker} {w:World}
theorem a5e {W:World}{a b:Addr}{v:Value}(h:W.cell? a=some v):(W.setCell b v).cell? a=some v:=by
 by_cases e:a=b
 ·subst e;exact World.cell?_setCell_same W _ v h
 ·rw [World.cell?_setCell_other W b a v (λh=>e h.symm)];exact h
theorem b7Y (R:Rep w bk bf bs bd K){s x p j d g h c q r:Nat}(hs:s<K.nS)(hx:x<4)(hp:p<4)(hj:j<4)
  (Hd:Hid (K.S s (11+x*2)=d))(hd:d<K.nD)(he:K.B s (12+x*2)=true)(Hg:Hid (K.S s (3+p*2)=g))(hg:g<K.nF)
  (Hr:Hid (K.D d 0=h))(hh:h<K.nF)(Hq:Hid (K.D d 1=q))(hq:q<4)(Hc:Hid (K.D d 2=c))(hc:c<4)(H3:(K.D d 3 == 0)=false)(Hm:Hid (r=(q+c) % 4)) :
  Calls Tryd.prog 59 #[.pointer (some ⟨bk,0,none⟩),.int .i64 s,.agg #[.int .i64 x,.int .i64 p,.int .i64 j]] w
   (Ends bk bf bs bd w ⟨(K.setF h (2+r) (K.F g (2+j))).setD d 2 (c+1),0,0⟩):=by
 have HR:Hid (Rep w bk bf bs bd K):=R;have m1:=R.hF;have m2:=R.hS;have m3:=R.hD;have k0:=λo o'=>((HR.out.alloc o).alloc o').k0;have k1:=λo=>(HR.out.alloc o).k1;have k2:=λo o'=>((HR.out.alloc o).alloc o').k2;have c1:∀ o,(w.alloc o).cell? ⟨bs,s*20+11+x*2,none⟩=some (.int .i64 d):=λo=>by rw [(HR.out.alloc o).ff hs hx,Hd.out]
 have c2:∀ o,(w.alloc o).cell? ⟨bs,s*20+11+x*2+1,none⟩=some (.bool true):=λo=>by rw [(HR.out.alloc o).fe hs hx,he]
 have c3:∀ o o',((w.alloc o).alloc o').cell? ⟨bd,d*5,none⟩=some (.int .i64 h):=λo o'=>by rw [((HR.out.alloc o).alloc o').d0 hd,Hr.out]
 have c4:∀ o o',((w.alloc o).alloc o').cell? ⟨bd,d*5+1,none⟩=some (.int .i64 q):=λo o'=>by rw [((HR.out.alloc o).alloc o').d1 hd,Hq.out]
 have c5:∀ o o',((w.alloc o).alloc o').cell? ⟨bd,d*5+2,none⟩=some (.int .i64 c):=λo o'=>by rw [((HR.out.alloc o).alloc o').d2 hd,Hc.out]
 have c6:=λo o'=>((HR.out.alloc o).alloc o').d3 hd;have c7:=λo o'=>((HR.out.alloc o).alloc o').fw hg hj;have c8:=λo o'=>((HR.out.alloc o).alloc o').fw (j:=r) hh (by have:=Hm.out;omega);have z1:=λo o'=>((HR.out.alloc o).alloc o').zf;have z2:=λo o'=>((HR.out.alloc o).alloc o').zd;have n1:=R.fd;have n2:=R.kf;have n3:bf≠bk:=λe=>n2 e.symm;have n4:bd≠bf:=λe=>n1 e.symm;clear R;have b1:(0:Int)<=(j:Int):=by omega
 have b2:(j:Int)<4:=by omega
 have b3:(0:Int)<=(h:Int):=by omega
 have b4:(h:Int)<(K.nF:Int):=by omega
 have b5:(0:Int)<=(r:Int):=by omega
 have b6:(r:Int)<4:=by have:=Hm.out;omega
 have a1:IntKind.i64.wrap ((q:Int)+(c:Int))=(q:Int)+(c:Int):=IntWalk.i64_in _ (by omega);have a2:((q:Int)+(c:Int)).tmod 4=(r:Int):=by rw [Int.tmod_eq_emod_of_nonneg (by omega)];have:=Hm.out;omega
 have a3:((q:Int)+(c:Int)) % 4=(r:Int):=by have:=Hm.out;omega
 have e1:((d:Int) == -1)=false:=by rw [beq_eq_false_iff_ne];omega
 have e2:((c:Int) == 4)=false:=by rw [beq_eq_false_iff_ne];omega
 have e3:(K.S s (3+p*2) != -1)=true:=by rw [Hg.out,bne_iff_ne];omega
 go_enter Tryd.func59,Tryd.ntmps59
 go_wp2
 go_quiet (fail)
 go_wp2_with fail
 refine (s8 (((HR.out.alloc _).alloc _).drewN _) hs hp).mono ?_;rintro e w1 ⟨rfl,rfl⟩
 go_wp2
 go_quiet (fail)
 go_wp2_with fail
 go_region_held3 (λw'=>w'.cell? ⟨bk,0,none⟩=some (.slice (some ⟨bf,0,none⟩) K.nF K.nF)/\w'.cell? ⟨bd,d*5,none⟩=some (.int .i64 h)/\w'.cell? ⟨bd,d*5+1,none⟩=some (.int .i64 q)/\w'.cell? ⟨bd,d*5+2,none⟩=some (.int .i64 c)/\w'.cell? ⟨bf,g*6+2+j,none⟩=some (.int .i64 (K.F g (2+j)))) ((repeat' apply And.intro)<;>(first|(go_keep;done)|(refine a5e ?_;go_keep)))
  (first|(go_at_call 69;refine (a0z (((HR.out.alloc _).alloc _).drewN _) hs hp Hg.out hg).mono ?_;rintro e w1 ⟨rfl,nq',rfl⟩))
 all_goals go_wp2
 all_goals
  go_ret2
  exact Ends.mk (show Hid _ from rfl) (((((HR.out.alloc _).alloc _).drewN _).setF hh (by have:=Hm.out;omega) (by omega) _).setD hd (by omega) (by omega) _) ((((((Keeps.refl w).alloc _).alloc _).drewN _).setF _ _).setD _ _)
theorem b7Z (R:Rep w bk bf bs bd K){s x p j:Nat}(hs:s<K.nS)(hx:x<4)(Hd:Hid (K.S s (11+x*2)=-1)) :
  Calls Tryd.prog 59 #[.pointer (some ⟨bk,0,none⟩),.int .i64 s,.agg #[.int .i64 x,.int .i64 p,.int .i64 j]] w (Ends bk bf bs bd w ⟨K,0,8⟩):=by
 have HR:Hid (Rep w bk bf bs bd K):=R;have m2:=R.hS;have k1:=λo=>(HR.out.alloc o).k1;have c1:∀ o,(w.alloc o).cell? ⟨bs,s*20+11+x*2,none⟩=some (.int .i64 (-1)):=λo=>by rw [(HR.out.alloc o).ff hs hx,Hd.out]
 have c2:=λo=>(HR.out.alloc o).fe hs hx;clear R
 go_enter Tryd.func59,Tryd.ntmps59
 go_wp2
 go_quiet (fail)
 go_wp2
 go_ret2
 exact Ends.mk (show Hid _ from rfl) (((HR.out.alloc _).alloc _).drewN _) ((((Keeps.refl w).alloc _).alloc _).drewN _)
theorem b8a (R:Rep w bk bf bs bd K){s x p j d:Nat}(hs:s<K.nS)(hx:x<4)(Hd:Hid (K.S s (11+x*2)=d))(he:K.B s (12+x*2)=false) :
  Calls Tryd.prog 59 #[.pointer (some ⟨bk,0,none⟩),.int .i64 s,.agg #[.int .i64 x,.int .i64 p,.int .i64 j]] w (Ends bk bf bs bd w ⟨K,0,8⟩):=by
 have HR:Hid (Rep w bk bf bs bd K):=R;have m2:=R.hS;have k1:=λo=>(HR.out.alloc o).k1;have c1:∀ o,(w.alloc o).cell? ⟨bs,s*20+11+x*2,none⟩=some (.int .i64 d):=λo=>by rw [(HR.out.alloc o).ff hs hx,Hd.out]
 have c2:∀ o,(w.alloc o).cell? ⟨bs,s*20+11+x*2+1,none⟩=some (.bool false):=λo=>by rw [(HR.out.alloc o).fe hs hx,he]
 have e1:((d:Int) == -1)=false:=by rw [beq_eq_false_iff_ne];omega
 clear R
 go_enter Tryd.func59,Tryd.ntmps59
 go_wp2
 go_quiet (fail)
 go_wp2
 go_ret2
 exact Ends.mk (show Hid _ from rfl) (((HR.out.alloc _).alloc _).drewN _) ((((Keeps.refl w).alloc _).alloc _).drewN _)
theorem b8b (R:Rep w bk bf bs bd K){s x p j d:Nat}(hs:s<K.nS)(hx:x<4)(hp:p<4)(Hd:Hid (K.S s (11+x*2)=d))(he:K.B s (12+x*2)=true)(Hg:Hid (K.S s (3+p*2)=-1)) :
  Calls Tryd.prog 59 #[.pointer (some ⟨bk,0,none⟩),.int .i64 s,.agg #[.int .i64 x,.int .i64 p,.int .i64 j]] w (Ends bk bf bs bd w ⟨K,0,6⟩):=by
 have HR:Hid (Rep w bk bf bs bd K):=R;have m2:=R.hS;have k1:=λo=>(HR.out.alloc o).k1;have c1:∀ o,(w.alloc o).cell? ⟨bs,s*20+11+x*2,none⟩=some (.int .i64 d):=λo=>by rw [(HR.out.alloc o).ff hs hx,Hd.out]
 have c2:∀ o,(w.alloc o).cell? ⟨bs,s*20+11+x*2+1,none⟩=some (.bool true):=λo=>by rw [(HR.out.alloc o).fe hs hx,he]
 have e1:((d:Int) == -1)=false:=by rw [beq_eq_false_iff_ne];omega
 have e3:(K.S s (3+p*2) != -1)=false:=by rw [Hg.out];rfl
 clear R
 go_enter Tryd.func59,Tryd.ntmps59
 go_wp2
 go_quiet (fail)
 go_wp2_with fail
 refine (s8 (((HR.out.alloc _).alloc _).drewN _) hs hp).mono ?_;rintro e w1 ⟨rfl,rfl⟩
 go_wp2
 go_ret2
 exact Ends.mk (show Hid _ from rfl) (((HR.out.alloc _).alloc _).drewN _) ((((Keeps.refl w).alloc _).alloc _).drewN _)
theorem b0K (R:Rep w bk bf bs bd K){s x p j d:Nat}(er:Int)(hs:s<K.nS)(hx:x<4)(hp:p<4)(Hd:Hid (K.S s (11+x*2)=d))(hd:d<K.nD)(he:K.B s (12+x*2)=true)(Hg:Hid (K.S s (3+p*2)≠-1))
  (hq:(Hid (K.D d 3=0)/\Hid (er=13))\/(Hid (K.D d 3≠0)/\Hid (K.D d 2=4)/\Hid (er=11))) :
  Calls Tryd.prog 59 #[.pointer (some ⟨bk,0,none⟩),.int .i64 s,.agg #[.int .i64 x,.int .i64 p,.int .i64 j]] w (Ends bk bf bs bd w ⟨K,0,er⟩):=by
 have HR:Hid (Rep w bk bf bs bd K):=R;have m2:=R.hS;have m3:=R.hD;have k1:=λo=>(HR.out.alloc o).k1;have k2:=λo o'=>((HR.out.alloc o).alloc o').k2;have c1:∀ o,(w.alloc o).cell? ⟨bs,s*20+11+x*2,none⟩=some (.int .i64 d):=λo=>by rw [(HR.out.alloc o).ff hs hx,Hd.out]
 have c2:∀ o,(w.alloc o).cell? ⟨bs,s*20+11+x*2+1,none⟩=some (.bool true):=λo=>by rw [(HR.out.alloc o).fe hs hx,he]
 have c5:=λo o'=>((HR.out.alloc o).alloc o').d2 hd;have c6:=λo o'=>((HR.out.alloc o).alloc o').d3 hd;have e1:((d:Int) == -1)=false:=by rw [beq_eq_false_iff_ne];omega
 have e3:(K.S s (3+p*2) != -1)=true:=by rw [bne_iff_ne];exact Hg.out
 clear R;rcases hq with ⟨h1,h2⟩|⟨h1,h3,h2⟩
 ·have e4:(K.D d 3 == 0)=true:=by rw [h1.out];rfl
  go_enter Tryd.func59,Tryd.ntmps59
  go_wp2
  go_quiet (fail)
  go_wp2_with fail
  refine (s8 (((HR.out.alloc _).alloc _).drewN _) hs hp).mono ?_;rintro e w1 ⟨rfl,rfl⟩
  go_wp2
  go_quiet (fail)
  go_wp2
  go_ret2
  rw [h2.out];exact Ends.mk (show Hid _ from rfl) (((HR.out.alloc _).alloc _).drewN _) ((((Keeps.refl w).alloc _).alloc _).drewN _)
 ·have e4:(K.D d 3 == 0)=false:=by rw [beq_eq_false_iff_ne];exact h1.out
  have e5:(K.D d 2 == 4)=true:=by rw [h3.out];rfl
  go_enter Tryd.func59,Tryd.ntmps59
  go_wp2
  go_quiet (fail)
  go_wp2_with fail
  refine (s8 (((HR.out.alloc _).alloc _).drewN _) hs hp).mono ?_;rintro e w1 ⟨rfl,rfl⟩
  go_wp2
  go_quiet (fail)
  go_wp2
  go_ret2
  rw [h2.out];exact Ends.mk (show Hid _ from rfl) (((HR.out.alloc _).alloc _).drewN _) ((((Keeps.refl w).alloc _).alloc _).drewN _)
theorem b5i (R:Rep w bk bf bs bd K)(G:Good K){s x p j:Nat}(hs:s<K.nS)(hx:x<4)(hp:p<4)(hj:j<4) :
  Calls Tryd.prog 59 #[.pointer (some ⟨bk,0,none⟩),.int .i64 s,.agg #[.int .i64 x,.int .i64 p,.int .i64 j]] w (Ends bk bf bs bd w (a0l K s x p j)):=by
 unfold a0l;rcases G.file s x hs hx with h1|⟨h1,h2,h3⟩
 ·rw [if_pos (Or.inl h1)];exact b7Z R hs hx h1
 obtain ⟨d,hd⟩:∃ d:Nat,K.file s x=d:=⟨(K.file s x).toNat,by omega⟩;have hdn:d<K.nD:=by omega
 rw [hd] at h3 ⊢;simp only [Int.toNat_natCast] at h3 ⊢
 by_cases h4:K.end s x=true
 ·rw [if_neg (by rw [h4];simp)]
  by_cases h5:K.page s p=-1
  ·rw [if_pos h5];exact b8b R hs hx hp hd h4 h5
  rw [if_neg h5]
  by_cases h6:K.D d 3=0
  ·rw [if_pos h6];exact b0K R 13 hs hx hp hd hdn h4 h5 (Or.inl ⟨h6,rfl⟩)
  rw [if_neg h6]
  by_cases h7:K.D d 2=4
  ·rw [if_pos h7];exact b0K R 11 hs hx hp hd hdn h4 h5 (Or.inr ⟨h6,h7,rfl⟩)
  rw [if_neg h7];have h8:=G.head d hdn;have h9:=G.cnt d hdn;obtain ⟨g,hg⟩:∃ g:Nat,K.page s p=g:=by rcases G.page s p hs hp with h|h;exact absurd h h5;exact ⟨(K.page s p).toNat,by omega⟩
  have hgl:g<K.nF:=by rcases G.page s p hs hp with h|h;exact absurd h h5;omega
  obtain ⟨h,hh⟩:∃ h:Nat,K.D d 0=h:=⟨(K.D d 0).toNat,by omega⟩;have hhl:h<K.nF:=by rcases G.duct d hdn with k|k<;>omega
  obtain ⟨q,hq⟩:∃ q:Nat,K.D d 1=q:=⟨(K.D d 1).toNat,by omega⟩;obtain ⟨c,hc⟩:∃ c:Nat,K.D d 2=c:=⟨(K.D d 2).toNat,by omega⟩;have:=b7Y (r:=(q+c) % 4) R hs hx hp hj hd hdn h4 hg hgl hh hhl hq (by omega) hc (by omega) (by rw [beq_eq_false_iff_ne];exact h6) rfl;rw [hg,hh,hq,hc];have e:(((q:Int)+(c:Int)) % 4).toNat=(q+c) % 4:=by omega
  simp only [Int.toNat_natCast,e];exact this
 ·rw [if_pos (Or.inr (by simpa using h4))];exact b8a R hs hx hd (by simpa [Ker.end] using h4)
end
attribute [local go_sem ↓] Go.wp_at_zero Go.wp_at_succ
section
variable {bk bf bs bd:Nat} {K:Ker} {w:World}
theorem b9H (R:Rep w bk bf bs bd K){s x p j d g h c q r:Nat}(hs:s<K.nS)(hx:x<4)(hp:p<4)(hj:j<4)
  (Hd:Hid (K.S s (11+x*2)=d))(hd:d<K.nD)(he:K.B s (12+x*2)=false)(hw:K.B s (4+p*2)=true)(Hg:Hid (K.S s (3+p*2)=g))(hg:g<K.nF)
  (Hr:Hid (K.D d 0=h))(hh:h<K.nF)(Hq:Hid (K.D d 1=q))(hq:q<4)(Hc:Hid (K.D d 2=(c+1:Nat)))(hc:c<4)(Hm:Hid (r=(q+1) % 4)) :
  Calls Tryd.prog 60 #[.pointer (some ⟨bk,0,none⟩),.int .i64 s,.agg #[.int .i64 x,.int .i64 p,.int .i64 j]] w
   (Ends bk bf bs bd w ⟨((K.setF g (2+j) (K.F h (2+q))).setD d 1 r).setD d 2 c,0,0⟩):=by
 have HR:Hid (Rep w bk bf bs bd K):=R;have m1:=R.hF;have m2:=R.hS;have m3:=R.hD;have k0:=λo o'=>((HR.out.alloc o).alloc o').k0;have k1:=λo=>(HR.out.alloc o).k1;have k2:=λo o'=>((HR.out.alloc o).alloc o').k2;have c1:∀ o,(w.alloc o).cell? ⟨bs,s*20+11+x*2,none⟩=some (.int .i64 d):=λo=>by rw [(HR.out.alloc o).ff hs hx,Hd.out]
 have c2:∀ o,(w.alloc o).cell? ⟨bs,s*20+11+x*2+1,none⟩=some (.bool false):=λo=>by rw [(HR.out.alloc o).fe hs hx,he]
 have c3:∀ o o',((w.alloc o).alloc o').cell? ⟨bd,d*5,none⟩=some (.int .i64 h):=λo o'=>by rw [((HR.out.alloc o).alloc o').d0 hd,Hr.out]
 have c4:∀ o o',((w.alloc o).alloc o').cell? ⟨bd,d*5+1,none⟩=some (.int .i64 q):=λo o'=>by rw [((HR.out.alloc o).alloc o').d1 hd,Hq.out]
 have c5:∀ o o',((w.alloc o).alloc o').cell? ⟨bd,d*5+2,none⟩=some (.int .i64 (c+1:Int)):=λo o'=>by rw [((HR.out.alloc o).alloc o').d2 hd,Hc.out];rfl
 have c7:=λo o'=>((HR.out.alloc o).alloc o').fw hg hj;have c8:=λo o'=>((HR.out.alloc o).alloc o').fw (j:=q) hh hq;have z1:=λo o'=>((HR.out.alloc o).alloc o').zf;have z2:=λo o'=>((HR.out.alloc o).alloc o').zd;have n1:=R.fd;have n2:=R.kf;have n3:bf≠bk:=λe=>n2 e.symm;have n4:bd≠bf:=λe=>n1 e.symm;clear R;have b1:(0:Int)<=(j:Int):=by omega
 have b2:(j:Int)<4:=by omega
 have b3:(0:Int)<=(h:Int):=by omega
 have b4:(h:Int)<(K.nF:Int):=by omega
 have b5:(0:Int)<=(q:Int):=by omega
 have b6:(q:Int)<4:=by omega
 have a3:((q:Int)+1) % 4=(r:Int):=by have:=Hm.out;omega
 have e1:((d:Int) == -1)=false:=by rw [beq_eq_false_iff_ne];omega
 have e2:((c:Int)+1 == 0)=false:=by rw [beq_eq_false_iff_ne];omega
 go_enter Tryd.func60,Tryd.ntmps60
 go_wp2
 go_quiet (fail)
 go_wp2_with fail
 refine (M7 (((HR.out.alloc _).alloc _).drewN _) hs hp).mono ?_;rintro e w1 ⟨rfl,rfl⟩
 go_wp2
 go_quiet (fail)
 go_wp2_with fail
 go_region_held3 (λw'=>w'.cell? ⟨bk,0,none⟩=some (.slice (some ⟨bf,0,none⟩) K.nF K.nF)/\w'.cell? ⟨bd,d*5,none⟩=some (.int .i64 h)/\w'.cell? ⟨bd,d*5+1,none⟩=some (.int .i64 q)/\w'.cell? ⟨bf,h*6+2+q,none⟩=some (.int .i64 (K.F h (2+q)))) ((repeat' apply And.intro)<;>(first|(go_keep;done)|(refine a5e ?_;go_keep)))
  (first|(go_at_call 69;refine (a0z (((HR.out.alloc _).alloc _).drewN _) hs hp Hg.out hg).mono ?_;rintro e w1 ⟨rfl,nq',rfl⟩))
 all_goals go_wp2
 all_goals
  go_ret2
  exact Ends.mk (show Hid _ from rfl) ((((((HR.out.alloc _).alloc _).drewN _).setF hg (by omega) (by omega) _).setD hd (by omega) (by omega) _).setD hd (by omega) (by omega) _) (((((((Keeps.refl w).alloc _).alloc _).drewN _).setF _ _).setD _ _).setD _ _)
theorem b9I (R:Rep w bk bf bs bd K){s x p j:Nat}(hs:s<K.nS)(hx:x<4)(Hd:Hid (K.S s (11+x*2)=-1)) :
  Calls Tryd.prog 60 #[.pointer (some ⟨bk,0,none⟩),.int .i64 s,.agg #[.int .i64 x,.int .i64 p,.int .i64 j]] w (Ends bk bf bs bd w ⟨K,0,8⟩):=by
 have HR:Hid (Rep w bk bf bs bd K):=R;have m2:=R.hS;have k1:=λo=>(HR.out.alloc o).k1;have c1:∀ o,(w.alloc o).cell? ⟨bs,s*20+11+x*2,none⟩=some (.int .i64 (-1)):=λo=>by rw [(HR.out.alloc o).ff hs hx,Hd.out]
 have c2:=λo=>(HR.out.alloc o).fe hs hx;clear R
 go_enter Tryd.func60,Tryd.ntmps60
 go_wp2
 go_quiet (fail)
 go_wp2
 go_ret2
 exact Ends.mk (show Hid _ from rfl) (((HR.out.alloc _).alloc _).drewN _) ((((Keeps.refl w).alloc _).alloc _).drewN _)
theorem b9J (R:Rep w bk bf bs bd K){s x p j d:Nat}(hs:s<K.nS)(hx:x<4)(Hd:Hid (K.S s (11+x*2)=d))(he:K.B s (12+x*2)=true) :
  Calls Tryd.prog 60 #[.pointer (some ⟨bk,0,none⟩),.int .i64 s,.agg #[.int .i64 x,.int .i64 p,.int .i64 j]] w (Ends bk bf bs bd w ⟨K,0,8⟩):=by
 have HR:Hid (Rep w bk bf bs bd K):=R;have m2:=R.hS;have k1:=λo=>(HR.out.alloc o).k1;have c1:∀ o,(w.alloc o).cell? ⟨bs,s*20+11+x*2,none⟩=some (.int .i64 d):=λo=>by rw [(HR.out.alloc o).ff hs hx,Hd.out]
 have c2:∀ o,(w.alloc o).cell? ⟨bs,s*20+11+x*2+1,none⟩=some (.bool true):=λo=>by rw [(HR.out.alloc o).fe hs hx,he]
 have e1:((d:Int) == -1)=false:=by rw [beq_eq_false_iff_ne];omega
 clear R
 go_enter Tryd.func60,Tryd.ntmps60
 go_wp2
 go_quiet (fail)
 go_wp2
 go_ret2
 exact Ends.mk (show Hid _ from rfl) (((HR.out.alloc _).alloc _).drewN _) ((((Keeps.refl w).alloc _).alloc _).drewN _)
theorem b9K (R:Rep w bk bf bs bd K){s x p j d:Nat}(hs:s<K.nS)(hx:x<4)(hp:p<4)(Hd:Hid (K.S s (11+x*2)=d))(he:K.B s (12+x*2)=false)(hw:K.B s (4+p*2)=false) :
  Calls Tryd.prog 60 #[.pointer (some ⟨bk,0,none⟩),.int .i64 s,.agg #[.int .i64 x,.int .i64 p,.int .i64 j]] w (Ends bk bf bs bd w ⟨K,0,6⟩):=by
 have HR:Hid (Rep w bk bf bs bd K):=R;have m2:=R.hS;have k1:=λo=>(HR.out.alloc o).k1;have c1:∀ o,(w.alloc o).cell? ⟨bs,s*20+11+x*2,none⟩=some (.int .i64 d):=λo=>by rw [(HR.out.alloc o).ff hs hx,Hd.out]
 have c2:∀ o,(w.alloc o).cell? ⟨bs,s*20+11+x*2+1,none⟩=some (.bool false):=λo=>by rw [(HR.out.alloc o).fe hs hx,he]
 have e1:((d:Int) == -1)=false:=by rw [beq_eq_false_iff_ne];omega
 clear R
 go_enter Tryd.func60,Tryd.ntmps60
 go_wp2
 go_quiet (fail)
 go_wp2_with fail
 refine (M7 (((HR.out.alloc _).alloc _).drewN _) hs hp).mono ?_;rintro e w1 ⟨rfl,rfl⟩
 go_wp2
 go_ret2
 exact Ends.mk (show Hid _ from rfl) (((HR.out.alloc _).alloc _).drewN _) ((((Keeps.refl w).alloc _).alloc _).drewN _)
theorem b2Z (R:Rep w bk bf bs bd K){s x p j d:Nat}(er:Int)(hs:s<K.nS)(hx:x<4)(hp:p<4)(Hd:Hid (K.S s (11+x*2)=d))(hd:d<K.nD)(he:K.B s (12+x*2)=false)(hw:K.B s (4+p*2)=true)(Hc:Hid (K.D d 2=0))
  (hq:(Hid (K.D d 4=0)/\Hid (er=12))\/(Hid (K.D d 4≠0)/\Hid (er=11))) :
  Calls Tryd.prog 60 #[.pointer (some ⟨bk,0,none⟩),.int .i64 s,.agg #[.int .i64 x,.int .i64 p,.int .i64 j]] w (Ends bk bf bs bd w ⟨K,0,er⟩):=by
 have HR:Hid (Rep w bk bf bs bd K):=R;have m2:=R.hS;have m3:=R.hD;have k1:=λo=>(HR.out.alloc o).k1;have k2:=λo o'=>((HR.out.alloc o).alloc o').k2;have c1:∀ o,(w.alloc o).cell? ⟨bs,s*20+11+x*2,none⟩=some (.int .i64 d):=λo=>by rw [(HR.out.alloc o).ff hs hx,Hd.out]
 have c2:∀ o,(w.alloc o).cell? ⟨bs,s*20+11+x*2+1,none⟩=some (.bool false):=λo=>by rw [(HR.out.alloc o).fe hs hx,he]
 have c5:∀ o o',((w.alloc o).alloc o').cell? ⟨bd,d*5+2,none⟩=some (.int .i64 0):=λo o'=>by rw [((HR.out.alloc o).alloc o').d2 hd,Hc.out]
 have c6:=λo o'=>((HR.out.alloc o).alloc o').d4 hd;have e1:((d:Int) == -1)=false:=by rw [beq_eq_false_iff_ne];omega
 clear R;rcases hq with ⟨h1,h2⟩|⟨h1,h2⟩
 ·have e4:(K.D d 4 == 0)=true:=by rw [h1.out];rfl
  go_enter Tryd.func60,Tryd.ntmps60
  go_wp2
  go_quiet (fail)
  go_wp2_with fail
  refine (M7 (((HR.out.alloc _).alloc _).drewN _) hs hp).mono ?_;rintro e w1 ⟨rfl,rfl⟩
  go_wp2
  go_quiet (fail)
  go_wp2
  go_ret2
  rw [h2.out];exact Ends.mk (show Hid _ from rfl) (((HR.out.alloc _).alloc _).drewN _) ((((Keeps.refl w).alloc _).alloc _).drewN _)
 ·have e4:(K.D d 4 == 0)=false:=by rw [beq_eq_false_iff_ne];exact h1.out
  go_enter Tryd.func60,Tryd.ntmps60
  go_wp2
  go_quiet (fail)
  go_wp2_with fail
  refine (M7 (((HR.out.alloc _).alloc _).drewN _) hs hp).mono ?_;rintro e w1 ⟨rfl,rfl⟩
  go_wp2
  go_quiet (fail)
  go_wp2
  go_ret2
  rw [h2.out];exact Ends.mk (show Hid _ from rfl) (((HR.out.alloc _).alloc _).drewN _) ((((Keeps.refl w).alloc _).alloc _).drewN _)
theorem b8c (R:Rep w bk bf bs bd K)(G:Good K){s x p j:Nat}(hs:s<K.nS)(hx:x<4)(hp:p<4)(hj:j<4) :
  Calls Tryd.prog 60 #[.pointer (some ⟨bk,0,none⟩),.int .i64 s,.agg #[.int .i64 x,.int .i64 p,.int .i64 j]] w (Ends bk bf bs bd w (a1S K s x p j)):=by
 unfold a1S;rcases G.file s x hs hx with h1|⟨h1,h2,h3⟩
 ·rw [if_pos (Or.inl h1)];exact b9I R hs hx h1
 obtain ⟨d,hd⟩:∃ d:Nat,K.file s x=d:=⟨(K.file s x).toNat,by omega⟩;have hdn:d<K.nD:=by omega
 rw [hd] at h3 ⊢;simp only [Int.toNat_natCast] at h3 ⊢
 by_cases h4:K.end s x=true
 ·rw [if_pos (Or.inr h4)];exact b9J R hs hx hd h4
 have h4':K.end s x=false:=by simpa using h4
 rw [if_neg (by rw [h4'];simp)]
 by_cases h5:K.wr s p=true
 ·rw [if_neg (by rw [h5];simp)];have h8:=G.head d hdn;have h9:=G.cnt d hdn
  by_cases h6:K.D d 2=0
  ·by_cases h7:K.D d 4=0
   ·rw [if_pos ⟨h6,h7⟩];exact b2Z R 12 hs hx hp hd hdn h4' h5 h6 (Or.inl ⟨h7,rfl⟩)
   ·rw [if_neg (λh=>h7 h.2),if_pos h6];exact b2Z R 11 hs hx hp hd hdn h4' h5 h6 (Or.inr ⟨h7,rfl⟩)
  ·rw [if_neg (λh=>h6 h.1),if_neg h6];have h10:=G.wr s p hs hp h5;obtain ⟨g,hg⟩:∃ g:Nat,K.page s p=g:=by rcases G.page s p hs hp with h|h;exact absurd h h10;exact ⟨(K.page s p).toNat,by omega⟩
   have hgl:g<K.nF:=by rcases G.page s p hs hp with h|h;exact absurd h h10;omega
   obtain ⟨h,hh⟩:∃ h:Nat,K.D d 0=h:=⟨(K.D d 0).toNat,by omega⟩;have hhl:h<K.nF:=by rcases G.duct d hdn with k|k<;>omega
   obtain ⟨q,hq⟩:∃ q:Nat,K.D d 1=q:=⟨(K.D d 1).toNat,by omega⟩;obtain ⟨c,hc⟩:∃ c:Nat,K.D d 2=(c+1:Nat):=⟨(K.D d 2 - 1).toNat,by omega⟩;have:=b9H (r:=(q+1) % 4) R hs hx hp hj hd hdn h4' h5 hg hgl hh hhl hq (by omega) hc (by omega) rfl;rw [hg,hh,hq,hc];have e:((q:Int)+1) % 4=((q+1) % 4:Nat):=by omega
   have e':((c+1:Nat):Int) - 1=c:=by omega
   simp only [Int.toNat_natCast,e,e'];exact this
 ·have h5':K.wr s p=false:=by simpa using h5
  rw [if_pos h5'];exact b9K R hs hx hp hd h4' h5'
end
section
variable {bk bf bs bd:Nat} {K:Ker} {w:World} {s:Nat}
theorem c0U (R:Rep w bk bf bs bd K){a b:Nat}(c:Int)(hs:s<K.nS)(ha:a<4)(hb:b<K.nF) :
  Calls Tryd.prog 32 #[.pointer (some ⟨bk,0,none⟩),.int .i64 s,.int .i64 2,.agg #[.int .i64 a,.int .i64 b,.int .i64 c]] w (Ends bk bf bs bd w (a0s K s a b)):=by
 have HR:Hid (Rep w bk bf bs bd K):=R;clear R
 go_enter Tryd.func32,Tryd.ntmps32
 go_wp2_with fail
 refine (b8R (HR.out.alloc _) c hs ha hb).mono ?_;rintro e w1 ⟨rfl,R1,q1⟩
 go_wp2
 go_ret2
 exact ⟨rfl,R1,((Keeps.refl w).alloc _).trans q1⟩
theorem b9L (R:Rep w bk bf bs bd K)(G:Good K){a b c:Nat}(hs:s<K.nS)(ha:a<K.nD)(hb:b<K.nF)(hc:c<4) :
  Calls Tryd.prog 32 #[.pointer (some ⟨bk,0,none⟩),.int .i64 s,.int .i64 13,.agg #[.int .i64 a,.int .i64 b,.int .i64 c]] w (Ends bk bf bs bd w (G3 K s a b c)):=by
 have HR:Hid (Rep w bk bf bs bd K):=R;clear R
 go_enter Tryd.func32,Tryd.ntmps32
 go_wp2_with fail
 refine (b7X (HR.out.alloc _) G hs ha hb hc).mono ?_;rintro e w1 ⟨rfl,R1,q1⟩
 go_wp2
 go_ret2
 exact ⟨rfl,R1,((Keeps.refl w).alloc _).trans q1⟩
theorem b8d (R:Rep w bk bf bs bd K)(G:Good K){a b c:Nat}(hs:s<K.nS)(ha:a<4)(hb:b<4)(hc:c<4) :
  Calls Tryd.prog 32 #[.pointer (some ⟨bk,0,none⟩),.int .i64 s,.int .i64 16,.agg #[.int .i64 a,.int .i64 b,.int .i64 c]] w (Ends bk bf bs bd w (a0l K s a b c)):=by
 have HR:Hid (Rep w bk bf bs bd K):=R;clear R
 go_enter Tryd.func32,Tryd.ntmps32
 go_wp2_with fail
 refine (b5i (HR.out.alloc _) G hs ha hb hc).mono ?_;rintro e w1 ⟨rfl,R1,q1⟩
 go_wp2
 go_ret2
 exact ⟨rfl,R1,((Keeps.refl w).alloc _).trans q1⟩
theorem b9M (R:Rep w bk bf bs bd K)(G:Good K){a b c:Nat}(hs:s<K.nS)(ha:a<4)(hb:b<4)(hc:c<4) :
  Calls Tryd.prog 32 #[.pointer (some ⟨bk,0,none⟩),.int .i64 s,.int .i64 17,.agg #[.int .i64 a,.int .i64 b,.int .i64 c]] w (Ends bk bf bs bd w (a1S K s a b c)):=by
 have HR:Hid (Rep w bk bf bs bd K):=R;clear R
 go_enter Tryd.func32,Tryd.ntmps32
 go_wp2_with fail
 refine (b8c (HR.out.alloc _) G hs ha hb hc).mono ?_;rintro e w1 ⟨rfl,R1,q1⟩
 go_wp2
 go_ret2
 exact ⟨rfl,R1,((Keeps.refl w).alloc _).trans q1⟩
theorem b9N (R:Rep w bk bf bs bd K)(G:Good K){a b:Nat}(c:Int)(hs:s<K.nS)(ha:a<4)(hb:b<4) :
  Calls Tryd.prog 32 #[.pointer (some ⟨bk,0,none⟩),.int .i64 s,.int .i64 18,.agg #[.int .i64 a,.int .i64 b,.int .i64 c]] w (Ends bk bf bs bd w (a0J K s a b)):=by
 have HR:Hid (Rep w bk bf bs bd K):=R;clear R
 go_enter Tryd.func32,Tryd.ntmps32
 go_wp2_with fail
 refine (b6k (HR.out.alloc _) G c hs ha hb).mono ?_;rintro e w1 ⟨rfl,R1,q1⟩
 go_wp2
 go_ret2
 exact ⟨rfl,R1,((Keeps.refl w).alloc _).trans q1⟩
theorem b8e (R:Rep w bk bf bs bd K)(G:Good K){a b:Nat}(c:Int)(hs:s<K.nS)(ha:a<4)(hb:b<4) :
  Calls Tryd.prog 32 #[.pointer (some ⟨bk,0,none⟩),.int .i64 s,.int .i64 19,.agg #[.int .i64 a,.int .i64 b,.int .i64 c]] w (Ends bk bf bs bd w (J4 K s a b c)):=by
 have HR:Hid (Rep w bk bf bs bd K):=R;clear R
 go_enter Tryd.func32,Tryd.ntmps32
 go_wp2_with fail
 refine (b3y (HR.out.alloc _) G c hs ha hb).mono ?_;rintro e w1 ⟨rfl,R1,q1⟩
 go_wp2
 go_ret2
 exact ⟨rfl,R1,((Keeps.refl w).alloc _).trans q1⟩
end
theorem B8 {b t n:Nat}:∀ (vs:List Value) (o:Nat) {w:World} {f:Nat->Value} (h:w.rowIs b t n f),(w.setCells b o vs).rowIs b t n (λj=>if o<=j/\j<o+vs.length then vs.getD (j - o) (.bool false) else f j)
 | [],o,w,f,h=>by
  show w.rowIs b t n _;refine h.congr λj hj=>?_;rw [if_neg (by simp)]
 | v::r,o,w,f,h=>by
  show ((w.setCell ⟨b,o,none⟩ v).setCells b (o+1) r).rowIs b t n _;refine (B8 r (o+1) (h.set o v)).congr λj hj=>?_
  by_cases e:j=o
  ·subst e;rw [if_neg (by omega)];simp
  ·by_cases e2:o+1<=j/\j<o+1+r.length
   ·rw [if_pos e2,if_pos (by simp;omega)];obtain ⟨m,hm⟩:∃ m,j=o+1+m:=⟨j - (o+1),by omega⟩;subst hm;rw [show o+1+m - (o+1)=m by omega,show o+1+m - o=m+1 by omega];rfl
   ·rw [if_neg e2,if_neg e,if_neg (by simp only [List.length_cons];omega)]
theorem u9 {b:Nat}:∀ (vs:List Value) (o:Nat) (w:World),(w.setCells b o vs).heap.size=w.heap.size
 | [],_,_=>rfl
 | v::r,o,w=>by show ((w.setCell ⟨b,o,none⟩ v).setCells b (o+1) r).heap.size=_;rw [u9 r];exact t9 _ _ _
theorem A0 {B b:Nat}{a:World}(hb:B<=b):∀ (vs:List Value) (o:Nat) {w:World} (h:Below B a w),Below B a (w.setCells b o vs)
 | [],_,_,h=>h
 | v::r,o,w,h=>A0 hb r (o+1) (h.setCell hb v)
theorem E7 {b k:Nat}(hk:k≠b):∀ (vs:List Value) (o:Nat) (w:World),(w.setCells b o vs).heap[k]?=w.heap[k]?
 | [],_,_=>rfl
 | v::r,o,w=>by show ((w.setCell ⟨b,o,none⟩ v).setCells b (o+1) r).heap[k]?=_;rw [E7 hk r];exact Below.heap_setCell _ _ _ _ hk
theorem B5 {w:World}{b t n:Nat}{f:Nat->Value}(h:w.rowIs b t n f){o m:Nat}(hm:o+m<=n):w.there b o m:=λj hj =>
 ⟨by rw [h.cell (by omega)];rfl,h.frozen _⟩
theorem y7 {w:World}{b t n:Nat}{f:Nat->Value}(h:w.rowIs b t n f){o m:Nat}(hm:o+m<=n):w.rangeAt b o ((List.range m).map λj=>f (o+j)):=λj v hv=>by
 have hj:j<m:=by have:=(List.getElem?_eq_some_iff.1 hv).1;simpa using this
 rw [List.getElem?_map,List.getElem?_range hj] at hv;rw [h.cell (by omega)];exact hv
theorem U5 (w:World)(c:Array Value)(t:TypeId):(w.alloc (.cells c t)).rowIs w.heap.size t c.size (λj=>c.getD j (.bool false)) :=
 World.rowIs_alloc w c t _ (λi hi=>by simp [hi])
theorem Y0 (w:World)(o:Obj)(c:Array Value)(t:TypeId):((w.alloc o).alloc (.cells c t)).rowIs (w.heap.size+1) t c.size (λj=>c.getD j (.bool false)):=by
 have h:=U5 (w.alloc o) c t;have e:(w.alloc o).heap.size=w.heap.size+1:=by simp
 rw [e] at h;exact h
theorem T5 {P:Program}{fn:Func}{p:Tmp}{ty:TypeId}(h:fn.results=#[.cell p ty])(tmps:Array Value)(w:World)(b:Nat)(cs:List Value)(d:TypeDesc)
  (hp:tmps.getD p undef=.pointer (some ⟨b,0,none⟩))(hc:w.rangeAt b 0 cs)(hu:P.underlying ty=some d)(hd:d.isRow=true)(hi:(P.info? ty).map (·.size)=some cs.length) :
  (results fn tmps).run P w=.ok (.agg cs.toArray) w:=by
 have hp':tmps[p]?.getD undef=.pointer (some ⟨b,0,none⟩):=by simpa using hp
 simp [results,h,hp',asAddr,run_loadVar_mid w b 0 ty cs d hc hu hd hi]
end Go.Proofs.YtcgabodkegcpgaaDoor
