/- Done, alone. -/
import Derived.Test.YtcgabodkegcpgaaDoorMcq
import Derived.Laws.CopyRow
import Derived.Test.YtcgabodkegcpgaaDoorOpr
import Derived.Test.YtcgabodkegcpgaaDoorRpp
import Derived.Test.YtcgabodkegcpgaaDoorNew1
import Derived.Test.YtcgabodkegcpgaaDoorInv3
set_option linter.unusedVariables false
set_option linter.unusedSimpArgs false
set_option maxHeartbeats 20000000
set_option maxRecDepth 100000
namespace Go.Proofs.YtcgabodkegcpgaaDoor
open Go.Conc Go.RowKit
attribute [local go_sem ↓] Go.wp_at_zero Go.wp_at_succ
theorem infoDn:(Tryd.prog.info? 70).map (fun i=>(i.zero.isSome,i.size,i.bytes))=some (true,5,40):=by kernel_rfl
theorem makeDn (n:Nat)(hn:n≤4398046511104)(w:World):∃ C:Array Value,C.size=n*5∧(Instr.makeSlice 65 (.int .i64 n) (.int .i64 n)).run Tryd.prog w=.ok (.slice (some ⟨w.heap.size,0,none⟩) n n) (w.alloc (.cells C 70)):=by
 have hinfo:=infoDn
 cases hq:Tryd.prog.info? 70 with
 | none=>rw [hq] at hinfo;cases hinfo
 | some i =>
  rw [hq] at hinfo
  simp only [Option.map_some,Option.some.injEq,Prod.mk.injEq] at hinfo
  obtain ⟨hz,hs,hb⟩:=hinfo
  obtain ⟨z,hz⟩:=Option.isSome_iff_exists.1 hz
  have:=run_make (P:=Tryd.prog) w 65 70 i z Tryd.underlying65 hq hz .i64 .i64 n n (by omega) (by omega) (by rw [hb];omega) (by omega)
  rw [hs] at this
  exact ⟨_,size_madeCells _ _,this⟩
theorem run_copy_c {P:Program}(w:World)(dT ty elem:TypeId)(b g n m cap:Nat)(cs:List Value)(hu:P.underlying dT=some (.slice elem))(hs:(P.info? elem).map (·.size)=some m)(hn:cs.length=n*m)
  (hsrc:∀ j v,cs[j]?=some v→w.cell? ((⟨g,0,none⟩:Addr).add j)=some v)(ht:w.there b 0 cs.length)(h1:∀ v∈cs,v.oneCell'=true) :
  (Builtin.copy_ #[dT,dT] ty #[.slice (some ⟨b,0,none⟩) n n,.slice (some ⟨g,0,none⟩) n cap]).run P w=.ok (goInt n) (w.setCells b 0 cs):=by
 have hl:=run_loadCells_list (P:=P) w ⟨g,0,none⟩ cs hsrc
 have hst:=run_storeCells_cells (P:=P) b 0 cs 0 w (fun j hj=>by simpa using (ht j hj).1) (fun j hj=>by simpa using (ht j hj).2) h1
 cases hq:P.info? elem with
 | none=>simp [hq] at hs
 | some i =>
  have hi:i.size=m:=by simpa [hq] using hs
  rw [hn] at hl
  simp only [Nat.add_zero] at hst
  simp [Builtin.copy_,run_underlying hu,Builtin.lenOf,Builtin.firstCells,sizeOf,typeInfo,hq,hi,hl,hst]
structure DoneL (v v':World) (N:Nat) (Xs:List Value):Prop where
 bel:Below v.heap.size v v'
 size:v'.heap.size=v.heap.size+1
 row:v'.rowIs v.heap.size 70 (N*5) (fun j=>Xs.getD j (.bool false))
theorem done_any (v:World)(bl bu bn n B0 p N:Nat)(Vp:Value)(Xs:List Value)(h1:v.cell? ⟨bl,1,none⟩=some (.slice (some ⟨bu,0,none⟩) n n))(h2:v.cell? ⟨bl,2,none⟩=some (.slice (some ⟨bn,0,none⟩) n n))(hp:p<n)
  (hc:v.cell? ⟨bn,p,none⟩=some Vp)(own:v.ownsRow B0 70 5 Vp N Xs)(hN:N≤4398046511104)(hx1:∀ x∈Xs,x.oneCell'=true) :
  Calls Tryd.prog 21 #[.pointer (some ⟨bl,0,none⟩),.int .i64 p] v fun e v'=>e=.returned (.tuple #[.slice (some ⟨v.heap.size,0,none⟩) N N,.int .i64 0])∧DoneL v v' N Xs:=by
 have i0:(0:Int)≤(p:Int):=by omega
 have i1:(p:Int)<(n:Int):=by omega
 have ed:(decide (0≤(p:Int)) && decide ((p:Int)<n))=true:=by simp [hp]
 obtain ⟨C,hC,hmk⟩:=makeDn N hN v
 have hrow:=rowIs_new v C 70
 rw [hC] at hrow
 have lbl:bl<v.heap.size:=cell_lt h2
 have lbn:bn<v.heap.size:=cell_lt hc
 have a2:(v.alloc (.cells C 70)).cell? ⟨bl,2,none⟩=some (.slice (some ⟨bn,0,none⟩) n n):=by rw [World.cell?_of_block (w:=v) (a:=⟨bl,2,none⟩) (Below.heap_alloc _ _ _ lbl)];exact h2
 have a3:(v.alloc (.cells C 70)).cell? ⟨bn,p,none⟩=some Vp:=by rw [World.cell?_of_block (w:=v) (a:=⟨bn,p,none⟩) (Below.heap_alloc _ _ _ lbn)];exact hc
 have hcp:∃ W,(∀ ty,(Builtin.copy_ #[65,65] ty #[.slice (some ⟨v.heap.size,0,none⟩) N N,Vp]).run Tryd.prog (v.alloc (.cells C 70))=.ok (goInt N) W)∧DoneL v W N Xs:=by
  obtain ⟨hl,⟨rfl,rfl⟩|⟨g,cap,cur,rfl,a1,a4,a5,a6,a7,a8⟩⟩:=own
  ·refine ⟨_,fun ty=>run_copy_nil _ _ _ _ _ _ _ _ _ Tryd.underlying65 (by kernel_rfl),(Below.refl _ _).alloc (Nat.le_refl _) _,by simp,hrow.congr fun j hj=>by omega⟩
  ·have hg:g<v.heap.size:=(Array.getElem?_eq_some_iff.1 a4).1
   refine ⟨_,fun ty=>run_copy_c _ _ _ 70 _ _ N 5 cap Xs Tryd.underlying65 (by kernel_rfl) hl (fun j x hx=>?_) (by rw [hl];exact rowIs_there hrow (by omega)) hx1,below_setCells (Nat.le_refl _) _ _ ((Below.refl _ _).alloc (Nat.le_refl _) _),by rw [size_setCells];simp,(rowIs_setCells _ 0 hrow).congr fun j hj=>?_⟩
   ·rw [Addr.add_mid,Nat.zero_add,World.cell?_of_block (w:=v) (a:=⟨g,j,none⟩) (Below.heap_alloc _ _ _ hg)]
    simp only [World.cell?,a4]
    have hj:j<N*5:=by have:=(List.getElem?_eq_some_iff.1 hx).1;omega
    rw [← a8,List.getElem?_take_of_lt hj] at hx
    simpa using hx
   ·rw [if_pos (by omega),Nat.sub_zero]
 obtain ⟨W,hW,hD⟩:=hcp
 have HW:Hid (∀ ty,_):=hW
 have HD:Hid (DoneL v W N Xs):=hD
 have hlen:∃ cap a,Vp=.slice a N cap:=by
  obtain ⟨hl,⟨rfl,rfl⟩|⟨g,cap,cur,rfl,_⟩⟩:=own
  ·exact ⟨0,none,rfl⟩
  ·exact ⟨cap,some ⟨g,0,none⟩,rfl⟩
 obtain ⟨cap,a,rfl⟩:=hlen
 clear own hrow hC hx1 hD hW
 go_enter Tryd.func21,Tryd.ntmps21
 go_wp2_with fail
 refine (isProcess_any v bl bu n p h1).mono ?_
 rintro e w1 ⟨rfl,rfl⟩
 rw [ed]
 go_wp2_with (refine wpList_copy_run rfl _ _ 65 rfl (.slice (some ⟨w1.heap.size,0,none⟩) N N) (.slice a N cap) (goInt N) rfl rfl (HW.out _) ?_)
 go_ret2
 exact ⟨rfl,HD.out⟩
end Go.Proofs.YtcgabodkegcpgaaDoor
namespace Go.Proofs.YtcgabodkegcpgaaDoor
open Go.RowKit
attribute [local go_sem ↓] Go.wp_at_zero Go.wp_at_succ
end Go.Proofs.YtcgabodkegcpgaaDoor
namespace Go.Proofs.YtcgabodkegcpgaaDoor
open Go.Conc Go.RowKit
open Br (X OpD KO SO SP sfO Lk Fit Must DL Liv Clear)
section
variable {kb:Kb} {l:List OpD} {K:Ker} {L:Nat→Option Lv} {r:Nat} {Inb:Nat→Option Seat} {nG:Nat} {w w':World} {b:Lb} {n B0:Nat} {U:Nat→Option OpD} {V:Nat→Value} {N:Nat→Nat} {Xs:Nat→List Value}
theorem must_below (hft:Fit (sfO l) w)(hko:KO l w)(main:Bool){f:FuncId}(hf:Br.Sg f=true){args:Array Value}{R R':Value→World→Prop}{d:Nat}
  (hspec:∀ v,Lk (sfO l) v (w.at d)→Calls Tryd.prog f args v (fun e v'=>∃ x,e=.returned x∧Below v.heap.size v v'∧R x v'))
  (hR:∀ x v' w',v'.heap.size=w'.heap.size→(∀ k,w.heap.size≤k→w'.heap[k]?=v'.heap[k]?)→R x v'→R' x w')(fr:Frame)(cs:List Frame) :
  Must Tryd.prog main (DL true (sfO l)) (fun g w'=>∃ x,g=G (fr.finish x) cs∧Grown w w'∧R' x w') (G (Frame.enter Tryd.prog f args .normal) (fr::cs)) (w.at d):=by
 refine (Br.must_calls Br.rules (sft:=sfO l) (w0:=w.at d) hf ⟨hft.soft,hft.clear⟩ main (Q:=fun x v'=>∃ v,Lk (sfO l) v (w.at d)∧Below v.heap.size v v'∧R x v') (fun v hv=>(hspec v hv).mono fun e v' he=>by
   obtain ⟨x,rfl,h1,h2⟩:=he
   exact ⟨v,hv,h1,h2⟩) fr cs).keep.mono (fun _ _ _ h=>h) ?_
 rintro g w' ⟨⟨x,v',rfl,hl',v,hv,hb,hr⟩,hkp⟩
 have e1:v.heap.size=w.heap.size:=hv.size
 have e2:v'.heap.size=w'.heap.size:=hl'.size
 refine ⟨x,rfl,⟨by have:=hb.size;omega,fun k hk=>same_block (w:=w.at d) hkp hv hl' (hb.block k (by omega)),hl'.fit.clear⟩,hR x v' w' e2 (fun k hk=>?_) hr⟩
 have hz:sfO l k=0:=Br.sfO_zero fun o ho=>by have:=Br.KO.lt hko ho;omega
 rw [hl'.heap,hz]
 cases e:w'.heap[k]? with
 | none=>rfl
 | some o=>rw [Option.map_some,Br.fz_sight (hkp.new k o hk e)]
theorem rowIs_of {w w':World}{b t n:Nat}{f:Nat→Value}(h:w.rowIs b t n f)(e:w'.heap[b]?=w.heap[b]?):w'.rowIs b t n f:=h.of_block e
theorem must_done (co:Co kb l K L r Inb nG w)(lm:LibM0 kb l L w b n B0 U V N Xs){p:Nat}(hp:p<n)(hN:N p≤4398046511104)(hx:∀ x∈Xs p,x.oneCell'=true)(fr:Frame)(cs:List Frame)(d:Nat) :
  Must Tryd.prog true (DL true (sfO l)) (fun g w'=>∃ x,g=G (fr.finish x) cs∧Grown w w'∧x=.tuple #[.slice (some ⟨w.heap.size,0,none⟩) (N p) (N p),.int .i64 0]∧w'.rowIs w.heap.size 70 (N p*5) (fun j=>(Xs p).getD j (.bool false)))
   (G (Frame.enter Tryd.prog 21 #[.pointer (some ⟨b.bl,0,none⟩),.int .i64 p] .normal) (fr::cs)) (w.at d):=by
 refine must_below co.env.fit co.env.ko true (by kernel_rfl) (R:=fun x v'=>x=.tuple #[.slice (some ⟨w.heap.size,0,none⟩) (N p) (N p),.int .i64 0]∧v'.rowIs w.heap.size 70 (N p*5) (fun j=>(Xs p).getD j (.bool false))) (fun v hv=>?_) (fun x v' w' hs hk h=>⟨h.1,rowIs_of h.2 (hk _ (Nat.le_refl _))⟩) fr cs
 have sv:v.heap.size=w.heap.size:=hv.size
 refine (done_any v b.bl b.bu b.bn n B0 p (N p) (V p) (Xs p) (by rw [hv.cell];exact lm.is.k1) (by rw [hv.cell];exact lm.is.k2) hp (by rw [hv.cell];exact lm.is.d.cell hp) (owns_same (lm.is.own p hp) (fun x hx=>lk_same hv (lm.mls p hp x hx).sf (.inl (owns_cells (lm.is.own p hp) hx)))) hN hx).mono ?_
 rintro e v' ⟨rfl,h⟩
 have hrow:=h.row
 rw [sv] at hrow
 exact ⟨_,rfl,h.bel,by rw [sv],hrow⟩
theorem must_lnew (co:Co kb l K L r Inb nG w)(fr:Frame)(cs:List Frame)(d:Nat) :
  Must Tryd.prog true (DL true (sfO l)) (fun g w'=>∃ x,g=G (fr.finish x) cs∧Grown w w'∧∃ b:Lb,x=.pointer (some ⟨b.bl,0,none⟩)∧(w.heap.size≤b.bu∧w.heap.size≤b.bn)∧LibM kb l L w' b K.nS (b.bl+1) (fun _=>none) (fun _=>.slice none 0 0) (fun _=>0) (fun _=>[]))
   (G (Frame.enter Tryd.prog 16 #[.pointer (some ⟨kb.bk,0,none⟩)] .normal) (fr::cs)) (w.at d):=by
 obtain ⟨z1,z2,z3⟩:=co.env.zero
 have h6:K.nS≤6:=co.env.rep.hS
 refine (must_below co.env.fit co.env.ko true (by kernel_rfl) (R:=fun x v'=>∃ bl bu bn,x=.pointer (some ⟨bl,0,none⟩)∧w.heap.size≤bu∧w.heap.size≤bn∧bu<bl∧bn<bl∧bu≠bn∧v'.heap[bl]?=some (.cells (nlA kb.bk K.nS bu bn) 104 (0,0))∧RowU v' bu K.nS (fun _=>.pointer none)∧RowU v' bn K.nS (fun _=>.slice none 0 0))
  (R':=fun x v'=>∃ bl bu bn,x=.pointer (some ⟨bl,0,none⟩)∧w.heap.size≤bu∧w.heap.size≤bn∧bu<bl∧bn<bl∧bu≠bn∧v'.heap[bl]?=some (.cells (nlA kb.bk K.nS bu bn) 104 (0,0))∧RowU v' bu K.nS (fun _=>.pointer none)∧RowU v' bn K.nS (fun _=>.slice none 0 0)) (fun v hv=>?_) (fun x v' w' hs hk h=>?_) fr cs).mono (fun _ _ _ h=>h) ?_
 ·have sv:v.heap.size=w.heap.size:=hv.size
  refine (lnew_any (rep_to (w:=w.at d) hv z1 z2 z3 (co.env.rep.same (Nat.le_refl _) (fun _ _ _=>rfl)))).mono ?_
  rintro e v' ⟨bl,rfl,bu,bn,h⟩
  exact ⟨_,rfl,h.bel,bl,bu,bn,rfl,by rw [← sv];exact h.gu,by rw [← sv];exact h.gn,h.lu,h.ln,h.un,h.l,h.u,h.d⟩
 ·obtain ⟨bl,bu,bn,e,gu,gn,lu,ln,un,h1,h2,h3⟩:=h
  exact ⟨bl,bu,bn,e,gu,gn,lu,ln,un,by rw [hk _ (by omega)];exact h1,h2.of (hk _ gu),h3.of (hk _ gn)⟩
 ·rintro g w' ⟨x,rfl,hG,bl,bu,bn,rfl,gu,gn,lu,ln,un,h1,h2,h3⟩
  have llt:bl<w'.heap.size:=(Array.getElem?_eq_some_iff.1 h1).1
  have m1:=co.new (w':=w') (k:=bl) (by omega) llt
  have m2:=co.new (w':=w') (k:=bu) gu h2.lt
  have m3:=co.new (w':=w') (k:=bn) gn h3.lt
  refine ⟨_,rfl,hG,⟨bl,bu,bn⟩,rfl,⟨gu,gn⟩,⟨⟨by simp [World.cell?,h1,nlA],by simp [World.cell?,h1,nlA],by simp [World.cell?,h1,nlA],h2,h3,fun p hp=>⟨rfl,.inl ⟨rfl,rfl⟩⟩,fun p q _ _ _=>.inl rfl,⟨?_,?_,un,?_,?_,?_⟩,h6⟩,m1,m2,m3,fun p hp g hg=>(by cases hg),Nat.le_refl _⟩,fun p hp o ho=>(by cases ho)⟩<;>simp only<;>omega
end
section
variable {kb:Kb} {l:List OpD} {K:Ker} {L:Nat→Option Lv} {r:Nat} {Inb:Nat→Option Seat} {nG:Nat} {w w':World} {b:Lb} {n B0:Nat} {U:Nat→Option OpD} {V:Nat→Value} {N:Nat→Nat} {Xs:Nat→List Value}
theorem co_alike (co:Co kb l K L r Inb nG w){K':Ker}(hE:EnvK kb l K' w')(hS:K'.nS=K.nS)(hA:Alike (kc kb) w w'):Co kb l K' L r Inb nG w'∧Kp kb L w L w':=by
 have blk:∀ k,k<w.heap.size→k≠kb.bf→k≠kb.bs→k≠kb.bd→w'.heap[k]?=w.heap[k]?:=hA.block
 refine ⟨⟨hE,co.top,co.gid,co.onk,fun g v hv=>?_,fun g v hv=>by rw [hS];exact co.wait g v hv,co.seat,co.none,fun s c h1 h2=>Nat.lt_of_lt_of_le (co.main0 s c h1 h2) hA.size,fun g v hv c hc=>?_,co.chne,co.pvch,co.apart⟩,fun k hk=>⟨⟨Nat.lt_of_lt_of_le hk.lt hA.size,hk.nf,hk.ns,hk.nd,hk.own⟩,blk k hk.lt hk.nf hk.ns hk.nd⟩⟩
 ·obtain ⟨free,un,A⟩:=co.at_ g v hv
  have hO:=co.onk g v hv
  refine ⟨free,un,A.other (hO.env hE) (fun i hi=>?_)⟩
  obtain ⟨_,a1,a2,a3,_⟩:=A.own.ap i hi
  obtain ⟨k1,k2,k3,k4⟩:=hO
  exact blk i (A.lt hi) (by rw [← k2];exact a1) (by rw [← k3];exact a2) (by rw [← k4];exact a3)
 ·obtain ⟨⟨cap,k,h⟩,a0,a1,a2,a3,a4,a5⟩:=co.chan g v hv c hc
  exact ⟨⟨cap,k,by rw [blk c (Array.getElem?_eq_some_iff.1 h).1 a1 a2 a3];exact h⟩,a0,a1,a2,a3,a4,a5⟩
theorem LibM.same (h:LibM kb l L w b n B0 U V N Xs)(hk:Kp kb L w L w'):LibM kb l L w' b n B0 U V N Xs:=⟨h.m.turn hk,h.live⟩
theorem must_mcall (co:Co kb l K L r Inb nG w)(slot num a c e:Int)(fr:Frame)(cs:List Frame)(d:Nat) :
  Must Tryd.prog true (DL true (sfO l)) (fun g w'=>g=G (fr.finish (.tuple #[.int .i64 (kCall K slot num a c e).n,.int .i64 (kCall K slot num a c e).e])) cs∧Co kb l (kCall K slot num a c e).K L r Inb nG w'∧Kp kb L w L w')
   (G (Frame.enter Tryd.prog 11 #[.pointer (some ⟨kb.bk,0,none⟩),.int .i64 slot,.int .i64 num,.agg #[.int .i64 a,.int .i64 c,.int .i64 e]] .normal) (fr::cs)) (w.at d):=by
 have co':=co.at d
 refine (must_kcall (C:=kc kb) co'.env co.top true slot num a c e fr cs).mono (fun _ _ _ h=>h) ?_
 rintro g w' ⟨rfl,hE,hA⟩
 have R:=co'.env.rep
 have hS:=(sizes_of R hE.rep (hA.block _ R.lk R.kf R.ks R.kd)).2.1
 obtain ⟨h1,h2⟩:=co_alike co' hE hS hA
 exact ⟨rfl,h1,fun k hk=>h2 k ⟨hk.lt,hk.nf,hk.ns,hk.nd,hk.own⟩⟩
end
structure Lvs (sz:Nat) (env:List (Nat × Value)) (a:Act):Prop where
 size:a.tmps.size=sz
 defers:a.defers=[]
 has:∀ p∈env,a.tmps[p.1]?=some p.2
theorem lookup_mem {t:Nat}{v:Value}:∀ {env:List (Nat × Value)},env.lookup t=some v→(t,v)∈env
 | [],h=>by cases h
 | (s,x)::env,h=>by
  by_cases e:t=s
  ·subst e
   simp only [List.lookup,beq_self_eq_true,Option.some.injEq] at h
   subst h
   exact List.mem_cons_self ..
  ·have:(t == s)=false:=by simpa using e
   simp only [List.lookup,this] at h
   exact List.mem_cons_of_mem _ (lookup_mem h)
section
variable {sz:Nat} {env:List (Nat × Value)} {a:Act}
theorem Lvs.at (h:Lvs sz env a){t:Nat}{v:Value}(ht:env.lookup t=some v):a.tmps[t]?=some v:=h.has _ (lookup_mem ht)
theorem Lvs.get (h:Lvs sz env a){t:Nat}{v:Value}(ht:env.lookup t=some v):a.eval (.tmp t)=v:=by
 show a.tmps.getD t undef=v
 rw [Array.getD_eq_getD_getElem?,h.at ht]
 rfl
theorem Lvs.put (h:Lvs sz env a){d:Nat}(hd:d<sz)(v:Value):Lvs sz ((d,v)::env.filter (fun p=>p.1 != d)) (a.put (some d) v):=by
 refine ⟨by simp [Act.put,h.size],h.defers,fun p hp=>?_⟩
 rcases List.mem_cons.1 hp with rfl|hp
 ·simp [Act.put,h.size,hd]
 ·obtain ⟨h1,h2⟩:=List.mem_filter.1 hp
  have h2:p.1≠d:=by simpa using h2
  simp only [Act.put]
  rw [Array.getElem?_setIfInBounds_ne (Ne.symm h2)]
  exact h.has p h1
theorem Lvs.sub (h:Lvs sz env a){env':List (Nat × Value)}(hs:∀ p∈env',env.lookup p.1=some p.2):Lvs sz env' a:=⟨h.size,h.defers,fun p hp=>h.at (hs p hp)⟩
theorem Lvs.wanted (h:Lvs sz env a){ops:Array Oper}{o oj:Oper}{j t:Nat}{x y:Bool}(hg:o.guard=some (j,y))(hj:ops[j]?=some oj)(hd:oj.dst=some t)(ht:env.lookup t=some (.bool x)):Region.wanted o (yielded ops a.tmps)=(x == y):=by
 unfold Region.wanted
 rw [hg]
 simp only [yielded,hj,Option.bind_some,hd,h.at ht]
 cases x<;>cases y<;>rfl
end
section
variable {l:List OpD} {main:Bool} {sft:Nat→Nat} {Stop:Goroutine→World→Prop} {b:Frame} {a:Act} {ops:Array Oper} {i:Nat} {o:Oper} {rest:List Nat} {k:List Item} {cs:List Frame} {w:World} {v:Value}
theorem lv_val (ho:ops[i]?=some o)(hw:Region.wanted o (yielded ops a.tmps)=true)(hk:b.kind≠.early)(hop:Br.okOp Tryd.prog (fun _=>false) [] false o.op=true)(hv:∀ d,(execOp a.eval o).run Tryd.prog (w.at d)=.ok (.value v) (w.at d))
  (h:Liv Tryd.prog main true sft Stop (G (b.at (a.put o.dst v) (.inRegion ops rest::k)) cs) w):Liv Tryd.prog main true sft Stop (G (b.at a (.inRegion ops (i::rest)::k)) cs) w:=Br.liv_op ho hw hk hop trivial hv h
theorem wanted_none {ops:Array Oper}{o:Oper}{a:Act}(hg:o.guard=none):Region.wanted o (yielded ops a.tmps)=true:=by unfold Region.wanted;rw [hg]
theorem lv_made {ob:Obj}(ho:ops[i]?=some o)(hg:o.guard=none)(hk:b.kind≠.early)(hv:∀ d,(execOp a.eval o).run Tryd.prog (w.at d)=.ok (.value v) ((w.at d).alloc ob))(he:∀ d,(execOp a.eval o).events Tryd.prog (w.at d) #[]=#[])(hs:Br.Obj.sight ob)
  (h:Liv Tryd.prog main true sft Stop (G (b.at (a.put o.dst v) (.inRegion ops rest::k)) cs) (w.alloc ob)):Liv Tryd.prog main true sft Stop (G (b.at a (.inRegion ops (i::rest)::k)) cs) w:=fun d=>must_made ho hg hk hv he (fun d=>h d) d hs
theorem lv_lone {x:Next}{R:World→World→Prop}(ho:ops[i]?=some o)(hg:o.guard=none)(hk:b.kind≠.early)(hop:Br.okOp Tryd.prog (fun _=>false) [] true o.op=true)(hx:x=.skip∨∃ v,x=.value v)(hft:Fit sft w)
  (hv:∀ d v,Lk sft v (w.at d)→∃ v',(execOp a.eval o).run Tryd.prog v=.ok x v'∧R v v')
  (h:∀ d w' v v',Lk sft v (w.at d)→Lk sft v' w'→Br.Kept sft (w.at d) w'→R v v'→Liv Tryd.prog main true sft Stop (G (b.at (a.put o.dst (match x with|.value v=>v|_=>undef)) (.inRegion ops rest::k)) cs) w') :
  Liv Tryd.prog main true sft Stop (G (b.at a (.inRegion ops (i::rest)::k)) cs) w:=fun d0=>by
 refine Br.must_operW ho (wanted_none hg) hk (fun d K' hK=>?_) d0
 have ht:Br.Tame Tryd.prog (true=true) (Br.Comesto (fun f=>(fun _=>false:FuncId→Bool) f=true)) (execOp a.eval o):=Br.t_execOp (P:=Tryd.prog) (S:=fun _=>false) (meths:=[]) (st:=true) id (fun f hf=>by cases hf) (fun m hm=>by cases hm) (fun v=>rfl) (fun f=>rfl) o hop
 have hl:Lk sft (Br.frz sft (w.at d) (w.at d).tape) (w.at d):=Br.lk_frz (w:=w.at d) hft.soft trivial _
 obtain ⟨v',hr,hR⟩:=hv d { Br.frz sft (w.at d) (w.at d).tape with drawn:=(w.at d).drawn } ⟨hl.heap,hl.soft,hl.sight,hl.os,hl.output⟩
 have hl':Lk sft { Br.frz sft (w.at d) (w.at d).tape with drawn:=(w.at d).drawn } (w.at d):=⟨hl.heap,hl.soft,hl.sight,hl.os,hl.output⟩
 have key:=Br.lk_run (sft:=sft) Tryd.prog (execOp a.eval o) (true=true) _ (v:={ Br.frz sft (w.at d) (w.at d).tape with drawn:=(w.at d).drawn }) (w:=w.at d) #[] ((execOp a.eval o).runT Tryd.prog (w.at d) #[]).1.world.drawn ht hl' (fun _ _ _=>rfl) (by omega)
 have e1:((execOp a.eval o).runT Tryd.prog { Br.frz sft (w.at d) (w.at d).tape with drawn:=(w.at d).drawn } #[]).1=.ok x v':=by rw [Sem.runT_fst];exact hr
 have e2:((execOp a.eval o).runT Tryd.prog (w.at d) #[]).1=(execOp a.eval o).run Tryd.prog (w.at d):=Sem.runT_fst ..
 have e3:∀ e∈listed Tryd.prog b.fn a o (w.at d),e∈((execOp a.eval o).runT Tryd.prog (w.at d) #[]).2:=fun e he=>Br.mem_seen he
 revert key e1 e2 e3
 generalize (execOp a.eval o).runT Tryd.prog { Br.frz sft (w.at d) (w.at d).tape with drawn:=(w.at d).drawn } #[]=rv
 generalize (execOp a.eval o).runT Tryd.prog (w.at d) #[]=rw'
 intro key e1 e2 e3
 cases key with
 | @ok y v2 w2 es' c hp h1 h2 h3 h4 =>
  obtain ⟨rfl,rfl⟩:=Result.ok.inj e1
  have hD:DL true sft (w.at d) w2 (listed Tryd.prog b.fn a o (w.at d)):=⟨h2,fun e he=>(by
   rcases h3 e (e3 e he) with h|h
   ·simp at h
   ·exact h),h4.all⟩
  rw [← e2]
  have hM:=(h d w2 _ _ hl' h1 h2 hR) w2.drawn
  rcases hx with rfl|⟨z,rfl⟩
  ·exact hK _ _ ⟨hD,hM⟩
  ·exact hK _ _ ⟨hD,hM⟩
 | panic _ _ _ _=>cases e1
 | lost _=>cases e1
end
end Go.Proofs.YtcgabodkegcpgaaDoor
namespace Go.Proofs.YtcgabodkegcpgaaDoor
open Go.RowKit
def wK1:Ker:=(kMap (kNew 4 2 1) 0 1 2).K
def wK2:Ker:=(kStore wK1 0 1 3 9).K
theorem wE1:kCall (kNew 4 2 1) 0 2 1 2 0=⟨wK1,0,0⟩:=rfl
theorem wE2:kCall wK1 0 19 1 3 9=⟨wK2,0,0⟩:=rfl
theorem wE3:kCall wK2 0 18 1 3 0=⟨wK2,9,0⟩:=rfl
theorem wE4:kCall wK2 0 2 0 2 0=⟨wK2,0,5⟩:=rfl
theorem wG0:Good (kNew 4 2 1):=good_new 4 2 1 (by omega)
theorem wG1:Good wK1:=good_map wG0 (by omega) (by show 2<4;omega)
theorem wG2:Good wK2:=good_store wG1 0 1 3 9
theorem works_any (w:World)(T:Tab w):Calls Tryd.prog 9 #[] w fun e w'=>e=.returned (.bool true)∧Below w.heap.size w w':=by
 have HT:Hid (Tab w):=T
 clear T
 go_enter Tryd.func9,Tryd.ntmps9
 go_wp2_with fail
 refine (new_any 4 2 1 (by omega) (by omega) (by omega) (by omega) (by omega) _).mono ?_
 rintro e w1 ⟨bk,bf,bs,bd,rfl,R1,b1,g1,g2,g3,g4⟩
 have p0:=HT.out.lt
 have HT1:Hid (Tab w1):=HT.out.same (b1.block 0 p0)
 have HR1:Hid _:=R1
 have Hb1:Hid _:=b1
 have Hg:Hid (w.heap.size≤bf∧w.heap.size≤bs∧w.heap.size≤bd∧0<w.heap.size):=⟨g2,g3,g4,p0⟩
 clear R1 b1 g1 g2 g3 g4 p0
 go_wp2_with fail
 refine (call_six HR1.out HT1.out wG0 0 2 1 2 0 (by unfold Six;omega) wE1).mono ?_
 rintro e w2 ⟨rfl,R2,k2⟩
 have HT2:Hid (Tab w2):=HT1.out.keeps k2 (by have:=Hg.out;omega) (by have:=Hg.out;omega) (by have:=Hg.out;omega)
 have HR2:Hid _:=R2
 have Hk2:Hid _:=k2
 clear R2 k2
 go_wp2_with fail
 refine (call_six HR2.out HT2.out wG1 0 19 1 3 9 (by unfold Six;omega) wE2).mono ?_
 rintro e w3 ⟨rfl,R3,k3⟩
 have HT3:Hid (Tab w3):=HT2.out.keeps k3 (by have:=Hg.out;omega) (by have:=Hg.out;omega) (by have:=Hg.out;omega)
 have HR3:Hid _:=R3
 have Hk3:Hid _:=k3
 clear R3 k3
 go_wp2_with fail
 refine (call_six HR3.out HT3.out wG2 0 18 1 3 0 (by unfold Six;omega) wE3).mono ?_
 rintro e w4 ⟨rfl,R4,k4⟩
 have HT4:Hid (Tab w4):=HT3.out.keeps k4 (by have:=Hg.out;omega) (by have:=Hg.out;omega) (by have:=Hg.out;omega)
 have HR4:Hid _:=R4
 have Hk4:Hid _:=k4
 clear R4 k4
 go_wp2_with fail
 refine (call_six HR4.out HT4.out wG2 0 2 0 2 0 (by unfold Six;omega) wE4).mono ?_
 rintro e w5 ⟨rfl,R5,k5⟩
 have HT5:Hid (Tab w5):=HT4.out.keeps k5 (by have:=Hg.out;omega) (by have:=Hg.out;omega) (by have:=Hg.out;omega)
 have HR5:Hid _:=R5
 have Hk5:Hid _:=k5
 clear R5 k5
 go_wp2
 go_ret
 have g:=Hg.out
 have z1:=Hb1.out.size
 exact ⟨rfl,Hb1.out.trans ((((Hk2.out.trans Hk3.out).trans Hk4.out).trans Hk5.out).below z1 g.1 g.2.1 g.2.2.1)⟩
end Go.Proofs.YtcgabodkegcpgaaDoor
namespace Go.Proofs.YtcgabodkegcpgaaDoor
open Go.Conc Go.RowKit
open Br (X OpD KO SO SP sfO Lk Fit Must DL Liv Clear)
theorem sf_nil (i:Nat):sfO [] i=0:=Br.sfO_zero fun o ho=>by cases ho
theorem fit_nil (w:World):Fit (sfO []) w:=⟨fun i hi=>absurd (sf_nil i) hi,trivial⟩
theorem ko_nil (w:World):KO [] w:=fun o ho=>by cases ho
theorem must_works {w:World}(T:Tab w)(fr:Frame)(cs:List Frame)(d:Nat) :
  Must Tryd.prog true (DL true (sfO [])) (fun g w'=>∃ x,g=G (fr.finish x) cs∧Grown w w'∧x=.bool true) (G (Frame.enter Tryd.prog 9 #[] .normal) (fr::cs)) (w.at d) :=
 must_below (fit_nil w) (ko_nil w) true (by kernel_rfl) (R:=fun x _=>x=.bool true) (fun v hv=>(works_any v (tab_to hv (T.same (w':=w.at d) rfl))).mono fun e v' he=>by
  obtain ⟨rfl,h⟩:=he
  exact ⟨_,rfl,h,rfl⟩) (fun x v' w' _ _ h=>h) fr cs
theorem co_first {kb:Kb}{K:Ker}{w:World}(hR:Rep w kb.bk kb.bf kb.bs kb.bd K)(hT:Tab w)(hI:Invb K)(h0:0≠kb.bf∧0≠kb.bs∧0≠kb.bd)(r:Nat):Co kb [] K (fun _=>none) r (fun _=>none) 1 w :=
 ⟨⟨hR,hT,hI,fit_nil w,ko_nil w,fun o ho=>by cases ho⟩,h0,fun g v h=>(by cases h),fun g v h=>(by cases h),fun g v h=>(by cases h),fun g v h=>(by cases h),fun g v h=>(by cases h),fun g _ _=>rfl,fun s c h=>(by cases h),fun g v h=>(by cases h),fun g v h=>(by cases h),fun g v g' v' h=>(by cases h),fun g v g' v' h=>(by cases h)⟩
theorem must_knew {w:World}(T:Tab w)(nF nS nD:Nat)(h1:2≤nF)(h2:nF≤32)(h3:1≤nS)(h4:nS≤6)(h5:nD≤4)(fr:Frame)(cs:List Frame)(d:Nat) :
  Must Tryd.prog true (DL true (sfO [])) (fun g w'=>∃ kb:Kb,g=G (fr.finish (.tuple #[.pointer (some ⟨kb.bk,0,none⟩),.int .i64 0])) cs∧Grown w w'∧w.heap.size≤kb.bk∧w.heap.size≤kb.bf∧w.heap.size≤kb.bs∧w.heap.size≤kb.bd∧∀ r,Co kb [] (kNew nF nS nD) (fun _=>none) r (fun _=>none) 1 w')
   (G (Frame.enter Tryd.prog 10 #[.agg #[.int .i64 nF,.int .i64 nS,.int .i64 nD]] .normal) (fr::cs)) (w.at d):=by
 refine (Br.must_calls Br.rules (sft:=sfO []) (w0:=w.at d) (by kernel_rfl) (fit_nil _) true (Q:=fun x v'=>∃ v bk bf bs bd,Lk (sfO []) v (w.at d)∧x=.tuple #[.pointer (some ⟨bk,0,none⟩),.int .i64 0]∧Rep v' bk bf bs bd (kNew nF nS nD)∧Below v.heap.size v v'∧w.heap.size≤bk∧w.heap.size≤bf∧w.heap.size≤bs∧w.heap.size≤bd) (fun v hv=>(new_any nF nS nD h1 h2 h3 h4 h5 v).mono fun e v' he=>by
   obtain ⟨bk,bf,bs,bd,rfl,a1,a2,a3,a4,a5,a6⟩:=he
   have sv:v.heap.size=w.heap.size:=hv.size
   rw [sv] at a3 a4 a5 a6
   exact ⟨v,bk,bf,bs,bd,hv,rfl,a1,a2,a3,a4,a5,a6⟩) fr cs).keep.mono (fun _ _ _ h=>h) ?_
 rintro g w' ⟨⟨x,v',rfl,hl',v,bk,bf,bs,bd,hv,rfl,a1,a2,a3,a4,a5,a6⟩,hkp⟩
 have e1:v.heap.size=w.heap.size:=hv.size
 have e2:v'.heap.size=w'.heap.size:=hl'.size
 have hG:Grown w w':=⟨by have:=a2.size;omega,fun k hk=>same_block (w:=w.at d) hkp hv hl' (a2.block k (by omega)),trivial⟩
 have l0:0<w.heap.size:=T.lt
 exact ⟨⟨bk,bf,bs,bd⟩,rfl,hG,a3,a4,a5,a6,fun r=>co_first (kb:=⟨bk,bf,bs,bd⟩) (rep_back hl' (sf_nil _) (sf_nil _) (sf_nil _) a1) (T.same (hG.old 0 l0)) (invb_new nF nS nD h1 h3 h4) ⟨by simp only;omega,by simp only;omega,by simp only;omega⟩ r⟩
section
variable {l:List OpD} {main:Bool} {sft:Nat→Nat} {Stop:Goroutine→World→Prop} {b:Frame} {a:Act} {ops:Array Oper} {i:Nat} {o:Oper} {rest:List Nat} {k:List Item} {cs:List Frame} {w:World} {v:Value}
theorem fin_at (ho:ops[i]?=some o)(x:Value):(b.at a (.inRegion ops (i::rest)::k)).finish x=b.at (a.put o.dst x) (.inRegion ops rest::k):=by rw [Frame.finish_at,ho];rfl
theorem lv_call {f:FuncId}{fn:Func}{c:Code}{args:Array Operand}{ats:Array TypeId}{vs:Array Value}{R:Value→World→Prop}(ho:ops[i]?=some o)(hg:o.guard=none)(hk:b.kind≠.early)(hop:o.op=.call { callee:=.value (.func f),args,argTypes:=ats })
  (hf:Tryd.prog.funcs[f]?=some fn)(hname:(fn.name == "runtime.NumGoroutine")=false)(hb:fn.body=some c)(hargs:args.map a.eval=vs)
  (hm:∀ fr cs d,Must Tryd.prog main (DL true sft) (fun g w'=>∃ x,g=G (fr.finish x) cs∧R x w') (G (Frame.enter Tryd.prog f vs .normal) (fr::cs)) (w.at d))
  (hn:∀ x w',R x w'→Liv Tryd.prog main true sft Stop (G (b.at (a.put o.dst x) (.inRegion ops rest::k)) cs) w'):Liv Tryd.prog main true sft Stop (G (b.at a (.inRegion ops (i::rest)::k)) cs) w:=by
 refine Br.liv_call ho (wanted_none hg) hk hop hf hname hb ?_
 rw [hargs]
 refine Br.liv_of (fun d=>hm _ _ d) ?_
 rintro g' w' ⟨x,rfl,hR⟩
 rw [fin_at ho]
 exact hn x w' hR
theorem lv_enter {f:FuncId}{fn:Func}{c:Code}{args:Array Operand}{ats:Array TypeId}{vs:Array Value}(ho:ops[i]?=some o)(hg:o.guard=none)(hk:b.kind≠.early)(hop:o.op=.call { callee:=.value (.func f),args,argTypes:=ats })
  (hf:Tryd.prog.funcs[f]?=some fn)(hname:(fn.name == "runtime.NumGoroutine")=false)(hb:fn.body=some c)(hargs:args.map a.eval=vs)
  (hn:∀ d,Stop (G (Frame.enter Tryd.prog f vs .normal) (b.at a (.inRegion ops (i::rest)::k)::cs)) (w.at d)):Liv Tryd.prog main true sft Stop (G (b.at a (.inRegion ops (i::rest)::k)) cs) w:=by
 refine Br.liv_call ho (wanted_none hg) hk hop hf hname hb ?_
 rw [hargs]
 exact fun d=>.stop (hn d)
theorem x_liv {Final:Machine→Trace→Prop}{Inb:Nat→Option Seat}{nG:Nat}{g:Goroutine}(h:Liv Tryd.prog true true (sfO l) (X Tryd.prog Final l Inb nG 0) g w):X Tryd.prog Final l Inb nG 0 g w:=Br.x_must (st:=true) (h w.drawn)
end
def regionOf (n:Nat):Code→Option (Array Oper)
 | .region m ops _=>if m=n then some ops else none
 | .seq x y=>(regionOf n x).or (regionOf n y)
 | .cond _ x y=>(regionOf n x).or (regionOf n y)
 | .block _ x=>regionOf n x
 | .loop x=>regionOf n x
 | _=>none
section
variable {sz:Nat} {env:List (Nat × Value)} {l:List OpD} {main:Bool} {sft:Nat→Nat} {Stop:Goroutine→World→Prop} {b:Frame} {a:Act} {ops:Array Oper} {i D:Nat} {o:Oper} {rest:List Nat} {k:List Item} {cs:List Frame} {w:World} {v:Value}
theorem lw_val (hA:Lvs sz env a)(ho:ops[i]?=some o)(hw:Region.wanted o (yielded ops a.tmps)=true)(hk:b.kind≠.early)(hop:Br.okOp Tryd.prog (fun _=>false) [] false o.op=true)(hd:o.dst=some D)(hD:D<sz)(hv:∀ d,(execOp a.eval o).run Tryd.prog (w.at d)=.ok (.value v) (w.at d))
  (h:∀ a',Lvs sz ((D,v)::env.filter (fun p=>p.1 != D)) a'→Liv Tryd.prog main true sft Stop (G (b.at a' (.inRegion ops rest::k)) cs) w):Liv Tryd.prog main true sft Stop (G (b.at a (.inRegion ops (i::rest)::k)) cs) w :=
 lv_val ho hw hk hop hv (h _ (by rw [hd];exact hA.put hD v))
theorem lw_skip (hA:Lvs sz env a)(ho:ops[i]?=some o)(hw:Region.wanted o (yielded ops a.tmps)=false)(hd:o.dst=some D)(hD:D<sz)
  (h:∀ a',Lvs sz ((D,undef)::env.filter (fun p=>p.1 != D)) a'→Liv Tryd.prog main true sft Stop (G (b.at a' (.inRegion ops rest::k)) cs) w):Liv Tryd.prog main true sft Stop (G (b.at a (.inRegion ops (i::rest)::k)) cs) w :=
 Br.liv_unwanted ho hw (h _ (by rw [hd];exact hA.put hD undef))
theorem lw_made {ob:Obj}(hA:Lvs sz env a)(ho:ops[i]?=some o)(hg:o.guard=none)(hk:b.kind≠.early)(hd:o.dst=some D)(hD:D<sz)(hv:∀ d,(execOp a.eval o).run Tryd.prog (w.at d)=.ok (.value v) ((w.at d).alloc ob))(he:∀ d,(execOp a.eval o).events Tryd.prog (w.at d) #[]=#[])(hs:Br.Obj.sight ob)
  (h:∀ a',Lvs sz ((D,v)::env.filter (fun p=>p.1 != D)) a'→Liv Tryd.prog main true sft Stop (G (b.at a' (.inRegion ops rest::k)) cs) (w.alloc ob)):Liv Tryd.prog main true sft Stop (G (b.at a (.inRegion ops (i::rest)::k)) cs) w :=
 lv_made ho hg hk hv he hs (h _ (by rw [hd];exact hA.put hD v))
theorem lw_call {f:FuncId}{fn:Func}{c:Code}{args:Array Operand}{ats:Array TypeId}{vs:Array Value}{R:Value→World→Prop}(hA:Lvs sz env a)(ho:ops[i]?=some o)(hg:o.guard=none)(hk:b.kind≠.early)(hop:o.op=.call { callee:=.value (.func f),args,argTypes:=ats })(hd:o.dst=some D)(hD:D<sz)
  (hf:Tryd.prog.funcs[f]?=some fn)(hname:(fn.name == "runtime.NumGoroutine")=false)(hb:fn.body=some c)(hargs:args.map a.eval=vs)
  (hm:∀ fr cs d,Must Tryd.prog main (DL true sft) (fun g w'=>∃ x,g=G (fr.finish x) cs∧R x w') (G (Frame.enter Tryd.prog f vs .normal) (fr::cs)) (w.at d))
  (hn:∀ x w',R x w'→∀ a',Lvs sz ((D,x)::env.filter (fun p=>p.1 != D)) a'→Liv Tryd.prog main true sft Stop (G (b.at a' (.inRegion ops rest::k)) cs) w'):Liv Tryd.prog main true sft Stop (G (b.at a (.inRegion ops (i::rest)::k)) cs) w :=
 lv_call ho hg hk hop hf hname hb hargs hm fun x w' hR=>hn x w' hR _ (by rw [hd];exact hA.put hD x)
end
theorem lw_skipped {sz:Nat}{env:List (Nat × Value)}{main:Bool}{sft:Nat→Nat}{Stop:Goroutine→World→Prop}{b:Frame}{a:Act}{ops:Array Oper}{i:Nat}{o:Oper}{rest:List Nat}{k:List Item}{cs:List Frame}{w:World}{R:World→World→Prop}(hA:Lvs sz env a)(ho:ops[i]?=some o)(hg:o.guard=none)(hk:b.kind≠.early)(hop:Br.okOp Tryd.prog (fun _=>false) [] true o.op=true)(hd:o.dst=none)(hft:Fit sft w)
  (hv:∀ d v,Lk sft v (w.at d)→∃ v',(execOp a.eval o).run Tryd.prog v=.ok .skip v'∧R v v')
  (h:∀ d w' v v',Lk sft v (w.at d)→Lk sft v' w'→Br.Kept sft (w.at d) w'→R v v'→Liv Tryd.prog main true sft Stop (G (b.at a (.inRegion ops rest::k)) cs) w') :
  Liv Tryd.prog main true sft Stop (G (b.at a (.inRegion ops (i::rest)::k)) cs) w :=
 lv_lone ho hg hk hop (.inl rfl) hft hv fun d w' v v' h1 h2 h3 h4=>by rw [hd];exact h d w' v v' h1 h2 h3 h4
theorem must_knewX {w:World}(T:Tab w)(nF nS nD:Nat)(h1:2≤nF)(h2:nF≤32)(h3:1≤nS)(h4:nS≤6)(h5:nD≤4)(fr:Frame)(cs:List Frame)(d:Nat) :
  Must Tryd.prog true (DL true (sfO [])) (fun g w'=>∃ x,g=G (fr.finish x) cs∧∃ kb:Kb,x=.tuple #[.pointer (some ⟨kb.bk,0,none⟩),.int .i64 0]∧Grown w w'∧w.heap.size≤kb.bk∧w.heap.size≤kb.bf∧w.heap.size≤kb.bs∧w.heap.size≤kb.bd∧∀ r,Co kb [] (kNew nF nS nD) (fun _=>none) r (fun _=>none) 1 w')
   (G (Frame.enter Tryd.prog 10 #[.agg #[.int .i64 nF,.int .i64 nS,.int .i64 nD]] .normal) (fr::cs)) (w.at d) :=
 (must_knew T nF nS nD h1 h2 h3 h4 h5 fr cs d).mono (fun _ _ _ h=>h) fun g w' ⟨kb,h,h'⟩=>⟨_,h,kb,rfl,h'⟩
end Go.Proofs.YtcgabodkegcpgaaDoor
