/- The statement's world: the kernel, the reference, the book of lists; how they keep apart. -/
import Derived.Test.YtcgabodkegcpgaaGreatDoorBk6
import Derived.Test.YtcgabodkegcpgaaGreatDoorBk4
import Derived.Test.YtcgabodkegcpgaaGreatDoorRst
import Derived.Test.YtcgabodkegcpgaaGreatDoorRfe
import Derived.Test.YtcgabodkegcpgaaGreatDoorRn4
namespace Go.Proofs.YtcgabodkegcpgaaGreatDoor
open Go.RowKit
set_option linter.unusedVariables false
set_option linter.unusedSimpArgs false
attribute [local go_sem ↓] Go.wp_at_zero Go.wp_at_succ

section
variable {w : World} {B : RB} {r : Rk} {K : Ker}
/-- Without pipes the rings' blocks may be any. -/
theorem RMem.rings (M : RMem w B r) (h0 : r.nD = 0) (f : Nat → Nat) (hb : ∀ q, q < 3 → B.b ≠ f q) (hw : ∀ q, q < 3 → B.bw ≠ f q) (hp : ∀ q, q < 3 → B.bp ≠ f q) (hq : ∀ q q', q < 3 → q' < 3 → q ≠ q' → f q ≠ f q') : RMem w { B with bq := f } r :=
  ⟨M.k0, M.k1, M.k2, fun q _ h => by omega, M.wd, M.pr, fun d q hd _ => by omega, M.zw, M.zp, fun q o _ h => by omega, M.lb, M.lw, M.lp, fun q _ h => by omega, M.bw, M.bp, hb, M.wp, hw, hp, hq, M.hF, M.hS, M.hD⟩
theorem same_nD {w' : World} {r' : Rk} (M : RMem w B r) (M' : RMem w' B r') (h : w'.heap[B.b]? = w.heap[B.b]?) : r'.nD = r.nD := by
  have e := (World.cell?_of_block (w := w) (w' := w') (a := ⟨B.b, 2, none⟩) h)
  have a := M.k2 0 (by omega)
  have b := M'.k2 0 (by omega)
  rw [show (2 + 0) = 2 from rfl] at a b
  rw [e, a] at b
  injection b with b
  injection b with _ b _
  exact b.symm
def RK (B : RB) (r : Rk) (w : World) (O : Out) (e : Ending) (w' : World) : Prop :=
  e = .returned (.tuple #[.int .i64 O.n, .int .i64 O.e]) ∧ (∃ r', RMem w' B r' ∧ Rel O.K r' ∧ r'.nD = r.nD) ∧ Chg (B.is r) w w'
theorem rcall_keep (M : RMem w B r) (U : Rel K r) (O : Own K) (I : Inv K) (N : Neat K) (E' : Ended K) (slot call a b c : Int) (hl : -9223372036854775808 ≤ call ∧ call < 9223372036854775808) :
    Calls Tryz.prog 17 #[.pointer (some ⟨B.b, 0, none⟩), .int .i64 slot, .int .i64 call, .agg #[.int .i64 a, .int .i64 b, .int .i64 c]] w (RK B r w (kCall K slot call a b c)) := by
  by_cases h0 : 0 < r.nD
  · refine (rcall_any M U O I N E' slot call a b c hl).mono ?_
    rintro e w' ⟨rfl, ⟨r', m1, u1⟩, h2⟩
    exact ⟨rfl, ⟨r', m1, u1, same_nD M m1 (h2.block _ M.lb M.bw M.bp M.bq)⟩, ⟨h2.os, h2.tape, h2.output, h2.size, fun k hk hp => h2.block k hk (fun e => hp (Or.inr (Or.inl e))) (fun e => hp (Or.inr (Or.inr (Or.inl e)))) (fun q hq e => hp (Or.inr (Or.inr (Or.inr ⟨h0, q, hq, e⟩))))⟩⟩
  · have hz : r.nD = 0 := by omega
    have M' := M.rings hz (fun q => w.heap.size + q) (fun q _ => by have := M.lb; show B.b ≠ w.heap.size + q; omega) (fun q _ => by have := M.lw; show B.bw ≠ w.heap.size + q; omega) (fun q _ => by have := M.lp; show B.bp ≠ w.heap.size + q; omega) (fun q q' _ _ h => by show w.heap.size + q ≠ w.heap.size + q'; omega)
    refine (rcall_any M' U O I N E' slot call a b c hl).mono ?_
    rintro e w' ⟨rfl, ⟨r', m1, u1⟩, h2⟩
    have hn : r'.nD = r.nD := same_nD M' m1 (h2.block _ M'.lb M'.bw M'.bp M'.bq)
    have hz' : r'.nD = 0 := hn.trans hz
    refine ⟨rfl, ⟨r', ?_, u1, hn⟩, ⟨h2.os, h2.tape, h2.output, h2.size, fun k hk hp => h2.block k hk (fun e => hp (Or.inr (Or.inl e))) (fun e => hp (Or.inr (Or.inr (Or.inl e)))) (fun q hq e => ?_)⟩⟩
    · exact m1.rings hz' B.bq M.bq M.wq M.pq M.qq
    · have : k = w.heap.size + q := e; omega
end

/-- Where all lies. -/
structure Bl where
  bk : Nat
  bf : Nat
  bs : Nat
  bd : Nat
  B : RB
  bw : Nat
  bb : Nat
  H : Nat
  h1 : Nat
  h2 : Nat
structure Core (w0 w : World) (d : Bl) (K : Ker) (r : Rk) : Prop where
  rep : Rep w d.bk d.bf d.bs d.bd K
  mem : RMem w d.B r
  tab : Tab w
  bel : Below w0.heap.size w0 w
  pos : 0 < w0.heap.size
  kin : ∀ k, k = d.bk ∨ k = d.bf ∨ k = d.bs ∨ k = d.bd → w0.heap.size ≤ k ∧ k < d.h1
  rin : ∀ k, d.B.is r k → d.h1 ≤ k ∧ k < d.h2
  b2 : d.h2 ≤ d.bb ∧ d.h2 ≤ d.bw ∧ d.bw < d.H ∧ d.bb < d.H ∧ d.bb ≠ d.bw ∧ w0.heap.size ≤ d.h1 ∧ d.h1 ≤ d.h2
  hH : d.H ≤ w.heap.size
  x0 : w.cell? ⟨d.bw, 0, none⟩ = some (.pointer (some ⟨d.bk, 0, none⟩))
  x1 : w.cell? ⟨d.bw, 1, none⟩ = some (.pointer (some ⟨d.B.b, 0, none⟩))
  x2 : w.cell? ⟨d.bw, 2, none⟩ = some (.slice none 0 0)
  x4 : w.cell? ⟨d.bw, 4, none⟩ = some (.pointer (some ⟨d.bb, 0, none⟩))
section
variable {w0 w w' : World} {d : Bl} {K K' : Ker} {r r' : Rk}
theorem Core.cellw (C : Core w0 w d K r) (h : w'.heap[d.bw]? = w.heap[d.bw]?) (o : Nat) : w'.cell? ⟨d.bw, o, none⟩ = w.cell? ⟨d.bw, o, none⟩ := World.cell?_of_block (w := w) (a := ⟨d.bw, o, none⟩) h
theorem Core.chg (C : Core w0 w d K r) {P : Nat → Prop} (c : Chg P w w') (hp : ∀ k, k < d.H → k ≠ d.bb → ¬ P k) : Core w0 w' d K r := by
  have b := C.b2
  have hH := C.hH
  have sm : ∀ k, k < d.H → k ≠ d.bb → w'.heap[k]? = w.heap[k]? := fun k h1 h2 => c.block k (by omega) (hp k h1 h2)
  have cw := C.cellw (sm d.bw b.2.2.1 (fun e => b.2.2.2.2.1 e.symm))
  refine ⟨C.rep.same c.size fun k hk e => ?_, C.mem.same c.size fun k hk e => ?_, C.tab.same (sm 0 (by have := C.pos; omega) (by have := C.pos; omega)), ?_, C.pos, C.kin, C.rin, C.b2, Nat.le_trans C.hH c.size, (cw 0).trans C.x0, (cw 1).trans C.x1, (cw 2).trans C.x2, (cw 4).trans C.x4⟩
  · have := C.kin k e; exact sm k (by omega) (by omega)
  · have := C.rin k e; exact sm k (by omega) (by omega)
  · have hb := C.bel.size
    exact ⟨c.os.trans C.bel.os, c.tape.trans C.bel.tape, c.output.trans C.bel.output, Nat.le_trans hb c.size, fun k hk => (sm k (by omega) (by omega)).trans (C.bel.block k hk)⟩
theorem Core.kcall (C : Core w0 w d K r) (R : Rep w' d.bk d.bf d.bs d.bd K') (k : Keeps d.bf d.bs d.bd w w') : Core w0 w' d K' r := by
  have b := C.b2
  have hH := C.hH
  have k1 := C.kin d.bf (by simp); have k2 := C.kin d.bs (by simp); have k3 := C.kin d.bd (by simp)
  have sm : ∀ q, q < w.heap.size → (q < w0.heap.size ∨ d.h1 ≤ q) → w'.heap[q]? = w.heap[q]? := fun q h1 h2 => k.block q h1 (by omega) (by omega) (by omega)
  have cw := C.cellw (sm d.bw (by omega) (by omega))
  have hb := C.bel.size
  refine ⟨R, C.mem.same k.size fun q hq e => ?_, C.tab.same (sm 0 (by have := C.pos; omega) (by have := C.pos; omega)), ?_, C.pos, C.kin, C.rin, C.b2, Nat.le_trans C.hH k.size, (cw 0).trans C.x0, (cw 1).trans C.x1, (cw 2).trans C.x2, (cw 4).trans C.x4⟩
  · have := C.rin q e; exact sm q hq (by omega)
  · exact ⟨k.os.trans C.bel.os, k.tape.trans C.bel.tape, k.output.trans C.bel.output, Nat.le_trans hb k.size, fun q hq => (sm q (by omega) (by omega)).trans (C.bel.block q hq)⟩
theorem Core.rcall (C : Core w0 w d K r) (M : RMem w' d.B r') (hn : r'.nD = r.nD) (k : Chg (d.B.is r) w w') : Core w0 w' d K r' := by
  have b := C.b2
  have hH := C.hH
  have sm : ∀ q, q < w.heap.size → (q < d.h1 ∨ d.h2 ≤ q) → w'.heap[q]? = w.heap[q]? := fun q h1 h2 => k.block q h1 (fun e => by have := C.rin q e; omega)
  have cw := C.cellw (sm d.bw (by omega) (by omega))
  have hb := C.bel.size
  refine ⟨C.rep.same k.size fun q hq e => ?_, M, C.tab.same (sm 0 (by have := C.pos; omega) (by have := C.pos; omega)), ?_, C.pos, C.kin, fun q e => C.rin q ?_, C.b2, Nat.le_trans C.hH k.size, (cw 0).trans C.x0, (cw 1).trans C.x1, (cw 2).trans C.x2, (cw 4).trans C.x4⟩
  · have := C.kin q e; exact sm q hq (by omega)
  · exact ⟨k.os.trans C.bel.os, k.tape.trans C.bel.tape, k.output.trans C.bel.output, Nat.le_trans hb k.size, fun q hq => (sm q (by omega) (by omega)).trans (C.bel.block q hq)⟩
  · unfold RB.is at e ⊢; rw [hn] at e; exact e
end
/-- What holds between two acts. -/
structure AllOk (w0 w : World) (d : Bl) (K : Ker) (r : Rk) (V : Nat → Value) (N : Nat → Nat) (X : Nat → List Value) (A : Nat → Option (Nat × Nat × Nat)) : Prop where
  core : Core w0 w d K r
  rel : Rel K r
  inv : Inv K
  own : Own K
  neat : Neat K
  ended : Ended K
  book : BookOk w d.bb d.H V N X A
section
variable {w0 w w' : World} {d : Bl} {K : Ker} {r : Rk} {V : Nat → Value} {N : Nat → Nat} {X : Nat → List Value} {A : Nat → Option (Nat × Nat × Nat)}
theorem AllOk.below (Z : AllOk w0 w d K r V N X A) (b : Below w.heap.size w w') : AllOk w0 w' d K r V N X A :=
  ⟨Z.core.chg (P := fun _ => False) (Chg.of_below b) (fun _ _ _ h => h), Z.rel, Z.inv, Z.own, Z.neat, Z.ended, Z.book.same b.size fun k hk _ => b.block k hk⟩
end

/-- Three lists, new to the book. -/
structure New3 (w : World) (H : Nat) (V : Nat → Value) (A : Nat → Option (Nat × Nat × Nat)) (g : Nat) : Prop where
  h : H ≤ g
  a : A g = none
  v : ∀ d, d < 4 → (V d).ownBlock ≠ some g
  lt : g < w.heap.size
section
variable {w : World} {bb H : Nat} {V : Nat → Value} {N : Nat → Nat} {X : Nat → List Value} {A : Nat → Option (Nat × Nat × Nat)}
theorem New3.owned {w' : World} {c g q : Nat} {V' : Nat → Value} {N' : Nat → Nat} {A' : Nat → Option (Nat × Nat × Nat)} (n : New3 w H V A q) (o : Owned w w' bb c g V V' N N' A A') (hne : q ≠ g) : New3 w' H V' A' q :=
  ⟨n.h, (o.un q n.lt hne n.a n.v).1, (o.un q n.lt hne n.a n.v).2, Nat.lt_of_lt_of_le n.lt o.chg.size⟩
theorem New3.alloc {q : Nat} (n : New3 w H V A q) (o : Obj) : New3 (w.alloc o) H V A q := ⟨n.h, n.a, n.v, by have := n.lt; simp; omega⟩
theorem Owned.far {w w' : World} {c g : Nat} {V V' : Nat → Value} {N N' : Nat → Nat} {A A' : Nat → Option (Nat × Nat × Nat)} (B : BookOk w bb H V N X A) (hc : c < 4) (hg : H ≤ g) (o : Owned w w' bb c g V V' N N' A A') : Chg (fun x => x = bb ∨ H ≤ x) w w' :=
  o.chg.weak fun x _ e => by
    rcases e with e | e | e
    · exact Or.inl e
    · exact Or.inr (by omega)
    · exact Or.inr ((B.lists.own c hc).lt x e).1
theorem Owned.keep {w w' : World} {c g q : Nat} {V V' : Nat → Value} {N N' : Nat → Nat} {A A' : Nat → Option (Nat × Nat × Nat)} (o : Owned w w' bb c g V V' N N' A A') (nw : New3 w H V A q) (hb : bb < H) (hc : c < 4) (hne : q ≠ g) : w'.heap[q]? = w.heap[q]? :=
  o.chg.block q nw.lt (by
    have := nw.h
    rintro (e | e | e)
    · omega
    · exact hne e
    · exact nw.v c hc e)
theorem Owned.row {w w' : World} {c g q t n : Nat} {f : Nat → Value} {V V' : Nat → Value} {N N' : Nat → Nat} {A A' : Nat → Option (Nat × Nat × Nat)} (o : Owned w w' bb c g V V' N N' A A') (nw : New3 w H V A q) (hb : bb < H) (hc : c < 4) (hne : q ≠ g) (h : w.rowIs q t n f) : w'.rowIs q t n f :=
  h.of_block (o.chg.block q nw.lt (by
    have := nw.h
    rintro (e | e | e)
    · omega
    · exact hne e
    · exact nw.v c hc e))
set_option maxRecDepth 100000 in
set_option maxHeartbeats 4000000 in
theorem ownState_any {K : Ker} (B : BookOk w bb H V N X A) (hF : K.nF ≤ 32) (hS : K.nS ≤ 32) (hD : K.nD ≤ 32) (hN : ∀ c, c < 3 → N c ≤ 7036874417564) {gF gS gD : Nat} (S : Snap w gF gS gD K) (n1 : New3 w H V A gF) (n2 : New3 w H V A gS) (n3 : New3 w H V A gD) (e1 : gF ≠ gS) (e2 : gF ≠ gD) (e3 : gS ≠ gD) :
    Calls Tryz.prog 47 #[.pointer (some ⟨bb, 0, none⟩), stVal K gF gS gD] w fun e w' => e = .returned (.tuple #[]) ∧ ∃ V' N' X' A', BookOk w' bb H V' N' X' A' ∧ (∀ c, c < 3 → N' c = N c + 4) ∧ Chg (fun x => x = bb ∨ H ≤ x) w w' ∧ (∀ q, New3 w H V A q → q ≠ gF → q ≠ gS → q ≠ gD → w'.heap[q]? = w.heap[q]?) := by
  unfold stVal
  have bbH : Hid (bb < H ∧ H ≤ w.heap.size) := ⟨B.bbH, B.hH⟩
  obtain ⟨W, eW⟩ : ∃ W, W = w.alloc (.cells #[.slice (some ⟨gF, 0, none⟩) K.nF K.nF, .slice (some ⟨gS, 0, none⟩) K.nS K.nS, .slice (some ⟨gD, 0, none⟩) K.nD K.nD] 109) := ⟨_, rfl⟩
  have HW : Hid (BookOk W bb H V N X A ∧ Snap W gF gS gD K ∧ New3 W H V A gF ∧ New3 W H V A gS ∧ New3 W H V A gD ∧ W.heap.size = w.heap.size + 1) := by
    unfold Hid; rw [eW]
    exact ⟨B.alloc _, S.same (fun k hk => Below.heap_alloc _ _ _ (by rcases hk with rfl | rfl | rfl; exact n1.lt; exact n2.lt; exact n3.lt)), n1.alloc _, n2.alloc _, n3.alloc _, by simp⟩
  have HQ : Hid (∀ q, New3 w H V A q → New3 W H V A q ∧ W.heap[q]? = w.heap[q]?) := fun q nq => by rw [eW]; exact ⟨nq.alloc _, Below.heap_alloc _ _ _ nq.lt⟩
  have HK : Hid (Chg (fun x => x = bb ∨ H ≤ x) w W) := by unfold Hid; rw [eW]; exact (Chg.refl _).alloc _
  have c0 : W.cell? ⟨w.heap.size, 0, none⟩ = some (.slice (some ⟨gF, 0, none⟩) K.nF K.nF) := by rw [eW, World.cell?_alloc_at _ _ _ _ rfl]; rfl
  have c1 : W.cell? ⟨w.heap.size, 1, none⟩ = some (.slice (some ⟨gS, 0, none⟩) K.nS K.nS) := by rw [eW, World.cell?_alloc_at _ _ _ _ rfl]; rfl
  have c2 : W.cell? ⟨w.heap.size, 2, none⟩ = some (.slice (some ⟨gD, 0, none⟩) K.nD K.nD) := by rw [eW, World.cell?_alloc_at _ _ _ _ rfl]; rfl
  have HZ : Hid (New3 W H V A w.heap.size) := ⟨bbH.out.2, by
      cases h : A w.heap.size with
      | none => rfl
      | some t => obtain ⟨c, k, L⟩ := t; have := (B.blk _ _ _ _ h).2.2.1; omega, fun d hd e => by have := ((B.lists.own d hd).lt _ e).2; omega, by have := HW.out.2.2.2.2.2; omega⟩
  have HE : Hid (gF ≠ gS ∧ gF ≠ gD ∧ gS ≠ gD ∧ gF < w.heap.size ∧ gS < w.heap.size ∧ gD < w.heap.size) := ⟨e1, e2, e3, n1.lt, n2.lt, n3.lt⟩
  have HN : Hid (∀ c, c < 3 → N c ≤ 7036874417564) := hN
  clear B S n1 n2 n3 e1 e2 e3 hN
  go_enter Tryz.func47, Tryz.ntmps47
  go_wp2_with fail
  rw [← eW]
  clear eW
  refine (ownFrames_any HW.out.1 hF (HN.out 0 (by omega)) HW.out.2.2.1.h HW.out.2.2.1.a HW.out.2.2.1.v HW.out.2.1.f).mono ?_
  rintro e w1 ⟨rfl, V1, N1, X1, A1, k1, o1⟩
  have HO1 : Hid (BookOk w1 bb H V1 N1 X1 A1 ∧ Owned W w1 bb 0 gF V V1 N N1 A A1) := ⟨k1, o1⟩
  have HZ1 : Hid (New3 w1 H V1 A1 w.heap.size) := HZ.out.owned o1 (by have := HE.out; omega)
  have n2 : New3 w1 H V1 A1 gS := HW.out.2.2.2.1.owned o1 (by have := HE.out; omega)
  have n3 : New3 w1 H V1 A1 gD := HW.out.2.2.2.2.1.owned o1 (by have := HE.out; omega)
  have r2 : w1.rowIs gS 82 (K.nS * 20) (sCell K) := o1.row HW.out.2.2.2.1 bbH.out.1 (by omega) (by have := HE.out; omega) HW.out.2.1.s
  have r3 : w1.rowIs gD 87 (K.nD * 5) (dCell K) := o1.row HW.out.2.2.2.2.1 bbH.out.1 (by omega) (by have := HE.out; omega) HW.out.2.1.d
  have HN2 : Hid (New3 w1 H V1 A1 gS ∧ New3 w1 H V1 A1 gD ∧ w1.rowIs gS 82 (K.nS * 20) (sCell K) ∧ w1.rowIs gD 87 (K.nD * 5) (dCell K)) := ⟨n2, n3, r2, r3⟩
  have zb : w1.heap[w.heap.size]? = W.heap[w.heap.size]? := o1.chg.block _ HZ.out.lt (by
    have := HE.out; have := bbH.out
    rintro (e | e | e)
    · omega
    · omega
    · exact HZ.out.v 0 (by omega) e)
  have d1 : w1.cell? ⟨w.heap.size, 1, none⟩ = some (.slice (some ⟨gS, 0, none⟩) K.nS K.nS) := (World.cell?_of_block (w := W) (a := ⟨w.heap.size, 1, none⟩) zb).trans c1
  have D2 : Hid (w1.cell? ⟨w.heap.size, 2, none⟩ = some (.slice (some ⟨gD, 0, none⟩) K.nD K.nD)) := (World.cell?_of_block (w := W) (a := ⟨w.heap.size, 2, none⟩) zb).trans c2
  have HK1 : Hid (Chg (fun x => x = bb ∨ H ≤ x) w w1) := HK.out.trans (o1.far HW.out.1 (by omega) HW.out.2.2.1.h) (fun _ _ h => h)
  clear k1 o1 n2 n3 r2 r3 zb c0 c1 c2
  go_wp2_with fail
  refine (ownSlots_any HO1.out.1 hS (by rw [HO1.out.2.nd 1 (by omega)]; exact HN.out 1 (by omega)) HN2.out.1.h HN2.out.1.a HN2.out.1.v HN2.out.2.2.1).mono ?_
  rintro e w2 ⟨rfl, V2, N2, X2, A2, k2, o2⟩
  have HO2 : Hid (BookOk w2 bb H V2 N2 X2 A2 ∧ Owned w1 w2 bb 1 gS V1 V2 N1 N2 A1 A2) := ⟨k2, o2⟩
  have n3 : New3 w2 H V2 A2 gD := HN2.out.2.1.owned o2 (by have := HE.out; omega)
  have r3 : w2.rowIs gD 87 (K.nD * 5) (dCell K) := o2.row HN2.out.2.1 bbH.out.1 (by omega) (by have := HE.out; omega) HN2.out.2.2.2
  have HN3 : Hid (New3 w2 H V2 A2 gD ∧ w2.rowIs gD 87 (K.nD * 5) (dCell K)) := ⟨n3, r3⟩
  have zb : w2.heap[w.heap.size]? = w1.heap[w.heap.size]? := o2.chg.block _ HZ1.out.lt (by
    have := HE.out; have := bbH.out
    rintro (e | e | e)
    · omega
    · omega
    · exact HZ1.out.v 1 (by omega) e)
  have d2 : w2.cell? ⟨w.heap.size, 2, none⟩ = some (.slice (some ⟨gD, 0, none⟩) K.nD K.nD) := (World.cell?_of_block (w := w1) (a := ⟨w.heap.size, 2, none⟩) zb).trans D2.out
  have HK2 : Hid (Chg (fun x => x = bb ∨ H ≤ x) w w2) := HK1.out.trans (o2.far HO1.out.1 (by omega) HN2.out.1.h) (fun _ _ h => h)
  clear k2 o2 n3 r3 zb d1
  go_wp2_with fail
  refine (ownDucts_any HO2.out.1 hD (by rw [HO2.out.2.nd 2 (by omega), HO1.out.2.nd 2 (by omega)]; exact HN.out 2 (by omega)) HN3.out.1.h HN3.out.1.a HN3.out.1.v HN3.out.2).mono ?_
  rintro e w3 ⟨rfl, V3, N3, X3, A3, k3, o3⟩
  have HO3 : Hid (BookOk w3 bb H V3 N3 X3 A3 ∧ Owned w2 w3 bb 2 gD V2 V3 N2 N3 A2 A3) := ⟨k3, o3⟩
  have HK3 : Hid (Chg (fun x => x = bb ∨ H ≤ x) w w3) := HK2.out.trans (o3.far HO2.out.1 (by omega) HN3.out.1.h) (fun _ _ h => h)
  clear k3 o3
  go_wp2
  go_end0
  refine ⟨rfl, V3, N3, X3, A3, HO3.out.1, fun c hc => ?_, HK3.out, fun q nq h1 h2 h3 => ?_⟩
  rotate_left
  · obtain ⟨m0, m1⟩ := HQ.out q nq
    have m2 := m0.owned HO1.out.2 h1
    have m3 := m2.owned HO2.out.2 h2
    exact (HO3.out.2.keep m3 bbH.out.1 (by omega) h3).trans ((HO2.out.2.keep m2 bbH.out.1 (by omega) h2).trans ((HO1.out.2.keep m0 bbH.out.1 (by omega) h1).trans m1))
  obtain rfl | rfl | rfl : c = 0 ∨ c = 1 ∨ c = 2 := by omega
  · rw [HO3.out.2.nd 0 (by omega), HO2.out.2.nd 0 (by omega), HO1.out.2.nc]
  · rw [HO3.out.2.nd 1 (by omega), HO2.out.2.nc, HO1.out.2.nd 1 (by omega)]
  · rw [HO3.out.2.nc, HO2.out.2.nd 2 (by omega), HO1.out.2.nd 2 (by omega)]
end
end Go.Proofs.YtcgabodkegcpgaaGreatDoor
namespace Go.Proofs.YtcgabodkegcpgaaGreatDoor
open Go.RowKit
set_option linter.unusedVariables false
set_option linter.unusedSimpArgs false
attribute [local go_sem ↓] Go.wp_at_zero Go.wp_at_succ

theorem stored3 (w : World) (C : Array Value) (t : TypeId) (a b c : Value) (hC : C.size = 3) {W : World} (e : W = (w.alloc (.cells C t)).setCells w.heap.size 0 [a, b, c]) :
    W.cell? ⟨w.heap.size, 0, none⟩ = some a ∧ W.cell? ⟨w.heap.size, 1, none⟩ = some b ∧ W.cell? ⟨w.heap.size, 2, none⟩ = some c ∧ Below w.heap.size w W ∧ W.heap.size = w.heap.size + 1 := by
  subst e
  obtain ⟨h1, h2, h3⟩ := new_stored w C t [a, b, c] 3 hC rfl (fun j => if j = 0 then a else if j = 1 then b else c) (fun j hj => by
    obtain rfl | rfl | rfl : j = 0 ∨ j = 1 ∨ j = 2 := by omega
    all_goals rfl)
  exact ⟨h1.cell (i := 0) (by omega), h1.cell (i := 1) (by omega), h1.cell (i := 2) (by omega), h2, h3⟩
theorem row_ne {w : World} {g q t u n m : Nat} {f h : Nat → Value} (a : w.rowIs g t n f) (b : w.rowIs q u m h) (hne : t ≠ u) : g ≠ q := by
  rintro rfl
  obtain ⟨c1, e1, _⟩ := a
  obtain ⟨c2, e2, _⟩ := b
  rw [e1] at e2
  injection e2 with e2
  injection e2 with _ e2 _
  exact hne e2
theorem Snap.apart {w : World} {gF gS gD : Nat} {K : Ker} (S : Snap w gF gS gD K) : gF ≠ gS ∧ gF ≠ gD ∧ gS ≠ gD := ⟨row_ne S.f S.s (by decide), row_ne S.f S.d (by decide), row_ne S.s S.d (by decide)⟩
theorem Snap.below {w w' : World} {gF gS gD : Nat} {K : Ker} (S : Snap w gF gS gD K) (b : Below w.heap.size w w') : Snap w' gF gS gD K := S.same fun k hk => by
  rcases hk with rfl | rfl | rfl
  · exact b.block _ S.f.lt
  · exact b.block _ S.s.lt
  · exact b.block _ S.d.lt
section
variable {w0 w w' : World} {d : Bl} {K : Ker} {r : Rk} {V : Nat → Value} {N : Nat → Nat} {X : Nat → List Value} {A : Nat → Option (Nat × Nat × Nat)}
theorem AllOk.new3 (Z : AllOk w0 w d K r V N X A) {g : Nat} (hg : w.heap.size ≤ g) (hl : g < w'.heap.size) : New3 w' d.H V A g := by
  refine ⟨by have := Z.core.hH; omega, ?_, fun e he h => ?_, hl⟩
  · cases h : A g with
    | none => rfl
    | some t => obtain ⟨c, k, L⟩ := t; have := (Z.book.blk _ _ _ _ h).2.2.1; omega
  · have := ((Z.book.lists.own e he).lt _ h).2; omega
set_option maxRecDepth 100000 in
set_option maxHeartbeats 10000000 in
theorem wstate_any (Z : AllOk w0 w d K r V N X A) (hN : ∀ c, c < 3 → N c ≤ 7036874417564) :
    Calls Tryz.prog 18 #[.pointer (some ⟨d.bw, 0, none⟩)] w fun e w' => e = .returned (.bool true) ∧ ∃ V' N' X' A', AllOk w0 w' d K r V' N' X' A' ∧ ∀ c, c < 3 → N' c = N c + 4 := by
  have HZ : Hid (AllOk w0 w d K r V N X A) := Z
  have HN : Hid (∀ c, c < 3 → N c ≤ 7036874417564) := hN
  have x0 := Z.core.x0
  clear Z hN
  go_enter Tryz.func18, Tryz.ntmps18
  go_wp2_with fail
  refine (state_rep HZ.out.core.rep).mono ?_
  rintro e w1 ⟨gF, gS, gD, rfl, b1, S1, lF, lS, lD⟩
  unfold stVal
  have HZ1 : Hid (AllOk w0 w1 d K r V N X A) := HZ.out.below b1
  have HB1 : Hid (Below w.heap.size w w1) := b1
  have HL : Hid (w.heap.size ≤ gF ∧ w.heap.size ≤ gS ∧ w.heap.size ≤ gD) := ⟨lF, lS, lD⟩
  have HS1 : Hid (Snap w1 gF gS gD K) := S1
  clear b1 S1 lF lS lD x0
  go_wp2_with (refine wpList_store_world rfl 109 _ _ rfl w1.heap.size 0 #[.slice (some ⟨gF, 0, none⟩) K.nF K.nF, .slice (some ⟨gS, 0, none⟩) K.nS K.nS, .slice (some ⟨gD, 0, none⟩) K.nD K.nD] rfl rfl (there_newm _ _ _ _ (by rfl)) st_info3 (st_one3 _ _ _ _ _ _ _ _ _) ?_; intro W1 eW1; have F1 : Hid (W1.cell? ⟨w1.heap.size, 0, none⟩ = some (.slice (some ⟨gF, 0, none⟩) K.nF K.nF) ∧ W1.cell? ⟨w1.heap.size, 1, none⟩ = some (.slice (some ⟨gS, 0, none⟩) K.nS K.nS) ∧ W1.cell? ⟨w1.heap.size, 2, none⟩ = some (.slice (some ⟨gD, 0, none⟩) K.nD K.nD) ∧ Below w1.heap.size w1 W1 ∧ W1.heap.size = w1.heap.size + 1) := stored3 _ _ _ _ _ _ (by rfl) eW1; have x1 := (HZ1.out.below F1.out.2.2.2.1).core.x1; clear eW1)
  have HZ2 : Hid (AllOk w0 W1 d K r V N X A) := HZ1.out.below F1.out.2.2.2.1
  refine (rstate_rep HZ2.out.core.mem HZ2.out.rel HZ2.out.own HZ2.out.neat HZ2.out.inv.good HZ2.out.inv).mono ?_
  rintro e w2 ⟨bo, g, cb, rfl, T2, b2, l2⟩
  unfold tellVal
  have HZ3 : Hid (AllOk w0 w2 d K r V N X A) := HZ2.out.below b2
  have HB2 : Hid (Below W1.heap.size W1 w2) := b2
  have HT2 : Hid (Tell w2 K bo g) := T2
  clear b2 T2 l2 x1
  go_wp2_with (refine wpList_store_world rfl 109 _ _ rfl w2.heap.size 0 #[.slice (bo 0) K.nF (cb 0), .slice (bo 1) K.nS (cb 1), .slice (bo 2) K.nD (cb 2)] rfl rfl (there_newm _ _ _ _ (by rfl)) st_info3 (st_one3 _ _ _ _ _ _ _ _ _) ?_; intro W2 eW2; have F2 : Hid (W2.cell? ⟨w2.heap.size, 0, none⟩ = some (.slice (bo 0) K.nF (cb 0)) ∧ W2.cell? ⟨w2.heap.size, 1, none⟩ = some (.slice (bo 1) K.nS (cb 1)) ∧ W2.cell? ⟨w2.heap.size, 2, none⟩ = some (.slice (bo 2) K.nD (cb 2)) ∧ Below w2.heap.size w2 W2 ∧ W2.heap.size = w2.heap.size + 1) := stored3 _ _ _ _ _ _ (by rfl) eW2; clear eW2; have HB3 : Hid (Below W1.heap.size W1 W2) := below_then HB2.out F2.out.2.2.2.1 HB2.out.size; have t0 := F2.out.1; have t1 := F2.out.2.1; have t2 := F2.out.2.2.1; have u0 : W2.cell? ⟨w1.heap.size, 0, none⟩ = some (.slice (some ⟨gF, 0, none⟩) K.nF K.nF) := below_cell HB3.out (by have := F1.out.2.2.2.2; omega) F1.out.1; have u1 : W2.cell? ⟨w1.heap.size, 1, none⟩ = some (.slice (some ⟨gS, 0, none⟩) K.nS K.nS) := below_cell HB3.out (by have := F1.out.2.2.2.2; omega) F1.out.2.1; have u2 : W2.cell? ⟨w1.heap.size, 2, none⟩ = some (.slice (some ⟨gD, 0, none⟩) K.nD K.nD) := below_cell HB3.out (by have := F1.out.2.2.2.2; omega) F1.out.2.2.1)
  have HZ4 : Hid (AllOk w0 W2 d K r V N X A) := HZ3.out.below F2.out.2.2.2.1
  have HS2 : Hid (Snap W2 gF gS gD K) := (HS1.out.below F1.out.2.2.2.1).below HB3.out
  have bF := HZ4.out.core.rep.hF
  have bS := HZ4.out.core.rep.hS
  have bD := HZ4.out.core.rep.hD
  have CS := sameState_told W2 K bF (by omega) (by omega) gF gS gD HS2.out bo g cb (HT2.out.below F2.out.2.2.2.1)
  unfold stVal tellVal at CS
  refine CS.mono ?_
  clear CS
  rintro e w3 ⟨rfl, b3⟩
  have HZ5 : Hid (AllOk w0 w3 d K r V N X A) := HZ4.out.below b3
  have HS3 : Hid (Snap w3 gF gS gD K) := HS2.out.below b3
  have HB5 : Hid (Below W2.heap.size W2 w3) := b3
  have v0 := below_cell b3 (by have := F1.out.2.2.2.2; have := HB3.out.size; omega) u0
  have v1 := below_cell b3 (by have := F1.out.2.2.2.2; have := HB3.out.size; omega) u1
  have v2 := below_cell b3 (by have := F1.out.2.2.2.2; have := HB3.out.size; omega) u2
  have x4 := HZ5.out.core.x4
  clear b3 t0 t1 t2 u0 u1 u2
  go_wp2_with fail
  go_region_held3 (fun w' => w'.cell? ⟨d.bw, 4, none⟩ = some (.pointer (some ⟨d.bb, 0, none⟩)) ∧ w'.cell? ⟨w1.heap.size, 0, none⟩ = some (.slice (some ⟨gF, 0, none⟩) K.nF K.nF) ∧ w'.cell? ⟨w1.heap.size, 1, none⟩ = some (.slice (some ⟨gS, 0, none⟩) K.nS K.nS) ∧ w'.cell? ⟨w1.heap.size, 2, none⟩ = some (.slice (some ⟨gD, 0, none⟩) K.nD K.nD)) ((repeat' apply And.intro) <;> (first | assumption | (go_keep; done)))
    (first | (go_at_call 47; have CO := ownState_any (w := w3.drew) (HZ5.out.below (below_drew (Below.refl _ _))).book bF (by omega) (by omega) HN.out (HS3.out.below (below_drew (Below.refl _ _))) (HZ.out.new3 HL.out.1 (HS3.out.f.lt)) (HZ.out.new3 HL.out.2.1 (HS3.out.s.lt)) (HZ.out.new3 HL.out.2.2 (HS3.out.d.lt)) HS3.out.apart.1 HS3.out.apart.2.1 HS3.out.apart.2.2; unfold stVal at CO; refine CO.mono ?_; clear CO; rintro e w4 ⟨rfl, V4, N4, X4, A4, k4, n4, c4, f4⟩; have zz := f4 w1.heap.size (HZ.out.new3 HB1.out.size (by show w1.heap.size < w3.heap.size; have := F1.out.2.2.2.2; have := HB3.out.size; have := HB5.out.size; omega)) (by have := HS1.out.f.lt; omega) (by have := HS1.out.s.lt; omega) (by have := HS1.out.d.lt; omega); have q0 : w4.cell? ⟨w1.heap.size, 0, none⟩ = some (.slice (some ⟨gF, 0, none⟩) K.nF K.nF) := (World.cell?_of_block (w := w3) (a := ⟨w1.heap.size, 0, none⟩) zz).trans v0; have q1 : w4.cell? ⟨w1.heap.size, 1, none⟩ = some (.slice (some ⟨gS, 0, none⟩) K.nS K.nS) := (World.cell?_of_block (w := w3) (a := ⟨w1.heap.size, 1, none⟩) zz).trans v1; have q2 : w4.cell? ⟨w1.heap.size, 2, none⟩ = some (.slice (some ⟨gD, 0, none⟩) K.nD K.nD) := (World.cell?_of_block (w := w3) (a := ⟨w1.heap.size, 2, none⟩) zz).trans v2; have H4 : Hid (BookOk w4 d.bb d.H V4 N4 X4 A4 ∧ (∀ c, c < 3 → N4 c = N c + 4) ∧ Chg (fun x => x = d.bb ∨ d.H ≤ x) w3.drew w4) := ⟨k4, n4, c4⟩; have y4 : w4.cell? ⟨d.bw, 4, none⟩ = some (.pointer (some ⟨d.bb, 0, none⟩)) := ((HZ5.out.below (below_drew (Below.refl _ _))).core.chg c4 (fun k h1 h2 h3 => by rcases h3 with h3 | h3 <;> omega)).x4; clear k4 n4 c4 f4 zz))
  go_wp2
  go_ret
  have CZ : Core w0 w4 d K r := (HZ5.out.below (below_drew (Below.refl _ _))).core.chg H4.out.2.2 (fun k h1 h2 h3 => by rcases h3 with h3 | h3 <;> omega)
  exact ⟨rfl, V4, N4, X4, A4, ⟨CZ, HZ5.out.rel, HZ5.out.inv, HZ5.out.own, HZ5.out.neat, HZ5.out.ended, H4.out.1⟩, H4.out.2.1⟩
end
end Go.Proofs.YtcgabodkegcpgaaGreatDoor
