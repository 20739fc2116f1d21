/- kept answers true of a process whose pages, words and files are the same. -/
import Derived.Test.YtcgabodkegcpgaaDoorKep
namespace Go.Proofs.YtcgabodkegcpgaaDoor
open Go.RowKit
set_option linter.unusedVariables false
set_option linter.unusedSimpArgs false
attribute [local go_sem ↓] Go.wp_at_zero Go.wp_at_succ

/-- A store of many cells: behind it all that is known is laid down, and the world has a name of its own. -/
theorem wpList_store_any {P : Program} {ops : Array Oper} {rest : List Oper} {op : Oper} {a : Act} {w : World} {Q : Exit → Act → World → Prop} (hgd : op.guard = none) (ty : TypeId) (x y : Operand) (ho : op.op = .store ty x y)
    (b o : Nat) (cells : Array Value) (hx : a.eval x = .pointer (some ⟨b, o, none⟩)) (hy : a.eval y = .agg cells)
    (ht : w.there b o cells.size) (hi : (P.info? ty).map (·.size) = some cells.size) (h1 : cells.all (·.oneCell') = true)
    (h : ∀ W, W.rangeAt b o cells.toList → (∀ k, k ≠ b → W.heap[k]? = w.heap[k]?) → W.heap.size = w.heap.size → (∀ B a, Below B a w → B ≤ b → Below B a W) → wpList P ops Q rest (a.put op.dst undef) W) : wpList P ops Q (op :: rest) a w :=
  wpList_store_mid hgd ty x y ho b o cells hx hy ht hi h1 (h _ (World.rangeAt_setCells_same w b o _ (by rw [Array.length_toList]; exact ht)) (fun k hk => heap_setCells hk _ _ _) (size_setCells _ _ _) (fun B a hb hB => below_setCells hB _ _ hb))

theorem pairs_cut (K : Ker) (p o : Nat) (h : o = 3 ∨ o = 11) : Pairs 4 (cut (sCell K) (p * 20 + o) 8).toArray 0 := fun i hi => by
  constructor
  · refine ⟨K.S p (o + i * 2), ?_⟩
    rw [Nat.zero_add, cut_get _ _ _ _ (by omega)]
    unfold sCell
    rw [if_neg (by omega)]
    congr 2
    rw [show (p * 20 + o + i * 2) / 20 = p by omega, show (p * 20 + o + i * 2) % 20 = o + i * 2 by omega]
  · refine ⟨K.B p (o + i * 2 + 1), ?_⟩
    rw [Nat.zero_add, cut_get _ _ _ _ (by omega)]
    unfold sCell
    rw [if_pos (by omega)]
    congr 2
    rw [show (p * 20 + o + (i * 2 + 1)) / 20 = p by omega, show (p * 20 + o + (i * 2 + 1)) % 20 = o + i * 2 + 1 by omega]
theorem cmp_pages (K : Ker) (p : Nat) : Cmp 50 (cut (sCell K) (p * 20 + 3) 8) (cut (sCell K) (p * 20 + 3) 8) true := by
  obtain ⟨r, hr, e⟩ := cmp_of (t := 50) (same_pages (d := 9997) (pairs_cut K p 3 (by omega)) (pairs_cut K p 3 (by omega)))
  obtain rfl := e rfl
  exact hr
theorem cmp_files (K : Ker) (p : Nat) : Cmp 53 (cut (sCell K) (p * 20 + 11) 8) (cut (sCell K) (p * 20 + 11) 8) true := by
  obtain ⟨r, hr, e⟩ := cmp_of (t := 53) (same_files (d := 9997) (pairs_cut K p 11 (by omega)) (pairs_cut K p 11 (by omega)))
  obtain rfl := e rfl
  exact hr
theorem cmp_frame (K : Ker) (n : Nat) : Cmp 75 (cut (fCell K) (n * 6) 6) (cut (fCell K) (n * 6) 6) true := by
  obtain ⟨r, hr, e⟩ := cmpF K K n
  obtain rfl := e rfl
  exact hr
theorem sCell_num (K : Ker) (p j : Nat) (hj : j < 20) (h : ¬ (4 ≤ j ∧ j ≤ 18 ∧ j % 2 = 0)) : sCell K (p * 20 + j) = .int .i64 (K.S p j) := by
  unfold sCell
  rw [if_neg (by omega), show (p * 20 + j) / 20 = p by omega, show (p * 20 + j) % 20 = j by omega]
theorem cut_range {w : World} {b : Nat} {f : Nat → Value} {o m : Nat} (h : w.rangeAt b 0 (cut f o m)) {j n : Nat} (hm : j + n ≤ m) : w.rangeAt b j (cut f (o + j) n) := fun i v hv => by
  have e := h (j + i) v ?_
  · rw [Nat.zero_add] at e; rw [← e]
  · by_cases hi : i < n
    · simp [cut, hi] at hv
      simp [cut, show j + i < m by omega, ← hv, Nat.add_assoc]
    · simp [cut, hi] at hv
theorem cut_cell {w : World} {b : Nat} {f : Nat → Value} {o m : Nat} (h : w.rangeAt b 0 (cut f o m)) {j : Nat} (hj : j < m) : w.cell? ⟨b, j, none⟩ = some (f (o + j)) := by
  have e := h j (f (o + j)) (by simp [cut, hj])
  rw [Nat.zero_add] at e; exact e
theorem cut_one (K : Ker) (o m : Nat) : (cut (sCell K) o m).toArray.all (·.oneCell') = true :=
  all_oneCell_toArray (fun v hv => by
    unfold cut at hv
    obtain ⟨j, _, rfl⟩ := List.mem_map.1 hv
    exact one_s K _)

structure Behind (W : World) (A B X Y : Nat) (gF kF m : Nat) (K : Ker) (p : Nat) : Prop where
  a : W.cell? ⟨A, 0, none⟩ = some (.slice (some ⟨gF, 0, none⟩) m m)
  b : W.cell? ⟨B, 0, none⟩ = some (.slice (some ⟨kF, 0, none⟩) m m)
  x0 : W.cell? ⟨X, 0, none⟩ = some (.int .i64 (K.S p 0))
  y0 : W.cell? ⟨Y, 0, none⟩ = some (.int .i64 (K.S p 0))
  x2 : W.cell? ⟨X, 2, none⟩ = some (.int .i64 (K.S p 2))
  y2 : W.cell? ⟨Y, 2, none⟩ = some (.int .i64 (K.S p 2))
  xp : W.rangeAt X 3 (cut (sCell K) (p * 20 + 3) 8)
  yp : W.rangeAt Y 3 (cut (sCell K) (p * 20 + 3) 8)
  xf : W.rangeAt X 11 (cut (sCell K) (p * 20 + 11) 8)
  yf : W.rangeAt Y 11 (cut (sCell K) (p * 20 + 11) 8)
  pg : ∀ j, j < 4 → W.cell? ⟨X, 3 + j * 2, none⟩ = some (.int .i64 (K.S p (3 + j * 2)))


theorem heap_new (w : World) (o : Obj) : (w.alloc o).heap[w.heap.size]? = some o := by
  show (w.heap.push o)[w.heap.size]? = some o
  simp
theorem heap_alloc3 (w : World) (A B Z : Obj) : (((w.alloc A).alloc B).alloc Z).heap[w.heap.size]? = some A ∧ (((w.alloc A).alloc B).alloc Z).heap[w.heap.size + 1]? = some B := by
  have e : (w.alloc A).heap.size = w.heap.size + 1 := by simp
  have e2 : ((w.alloc A).alloc B).heap.size = w.heap.size + 2 := by simp
  constructor
  · rw [Below.heap_alloc _ _ _ (by omega), Below.heap_alloc _ _ _ (by omega)]; exact heap_new w A
  · rw [Below.heap_alloc _ _ _ (by omega), ← e]; exact heap_new (w.alloc A) B
theorem cell_of_obj {W : World} {b : Nat} {c : Array Value} {t : TypeId} (h : W.heap[b]? = some (.cells c t)) (i : Nat) : W.cell? ⟨b, i, none⟩ = c[i]? := by
  unfold World.cell?
  simp [h]
theorem there_new3 (w : World) (A B : Obj) (c : Array Value) (t : TypeId) (m : Nat) (h : c.size = m) : (((w.alloc A).alloc B).alloc (.cells c t)).there (w.heap.size + 2) 0 m := by
  have := rowIs_there (rowIs_new ((w.alloc A).alloc B) c t) (o := 0) (m := m) (by omega)
  simpa using this
theorem there_new1 (w : World) (c : Array Value) (t : TypeId) (m : Nat) (h : c.size = m) : (w.alloc (.cells c t)).there w.heap.size 0 m :=
  rowIs_there (rowIs_new w c t) (o := 0) (m := m) (by omega)
theorem range_block {W W' : World} {b o : Nat} {cs : List Value} (h : W.rangeAt b o cs) (e : W'.heap[b]? = W.heap[b]?) : W'.rangeAt b o cs := fun j v hv =>
  (World.cell?_of_block (w := W) (a := ⟨b, o + j, none⟩) e).trans (h j v hv)

theorem behind_of {W1 W2 : World} {A B X gF kF m : Nat} {K K' : Ker} {p : Nat} (hk : Kept K K' p) (ya : W1.cell? ⟨A, 0, none⟩ = some (.slice (some ⟨gF, 0, none⟩) m m)) (yb : W1.cell? ⟨B, 0, none⟩ = some (.slice (some ⟨kF, 0, none⟩) m m))
    (hx : W1.rangeAt X 0 (cut (sCell K) (p * 20) 20)) (hA : A < W1.heap.size) (hB : B < W1.heap.size) (hX : X < W1.heap.size) (g1 : W2.rangeAt W1.heap.size 0 (cut (sCell K') (p * 20) 20)) (g2 : ∀ k, k < W1.heap.size → W2.heap[k]? = W1.heap[k]?) : Behind W2 A B X W1.heap.size gF kF m K p := by
  have hx2 : W2.rangeAt X 0 (cut (sCell K) (p * 20) 20) := range_block hx (g2 X hX)
  have e1 : cut (sCell K') (p * 20 + 3) 8 = cut (sCell K) (p * 20 + 3) 8 := cut_eq fun j hj => by rw [Nat.add_assoc]; exact hk.mid (3 + j) (by omega) (by omega)
  have e2 : cut (sCell K') (p * 20 + 11) 8 = cut (sCell K) (p * 20 + 11) 8 := cut_eq fun j hj => by rw [Nat.add_assoc]; exact hk.mid (11 + j) (by omega) (by omega)
  refine ⟨(World.cell?_of_block (w := W1) (a := ⟨A, 0, none⟩) (g2 A hA)).trans ya, (World.cell?_of_block (w := W1) (a := ⟨B, 0, none⟩) (g2 B hB)).trans yb, ?_, ?_, ?_, ?_, ?_, ?_, ?_, ?_, ?_⟩
  · rw [cut_cell hx2 (by omega), sCell_num K p 0 (by omega) (by omega)]
  · rw [cut_cell g1 (by omega), sCell_num K' p 0 (by omega) (by omega), hk.kind]
  · rw [cut_cell hx2 (by omega), sCell_num K p 2 (by omega) (by omega)]
  · rw [cut_cell g1 (by omega), sCell_num K' p 2 (by omega) (by omega), hk.table]
  · exact cut_range hx2 (by omega)
  · rw [← e1]; exact cut_range g1 (by omega)
  · exact cut_range hx2 (by omega)
  · rw [← e2]; exact cut_range g1 (by omega)
  · intro j hj
    rw [cut_cell hx2 (by omega), sCell_num K p (3 + j * 2) (by omega) (by omega)]
theorem below3 (w : World) (A B Z : Obj) : Below w.heap.size w (((w.alloc A).alloc B).alloc Z) := (((Below.refl _ _).alloc (Nat.le_refl _) _).alloc (by simp) _).alloc (by simp; omega) _

set_option maxRecDepth 100000 in
set_option maxHeartbeats 2000000 in
theorem kept_any (w : World) (K K' : Ker) (hF : K.nF ≤ 32) (hS : K.nS ≤ 32) (eF : K'.nF = K.nF) (eS : K'.nS = K.nS) (gF gS gD kF kS kD : Nat) (S1 : Snap w gF gS gD K) (S2 : Snap w kF kS kD K') (p : Nat) (hp : p < K.nS) (hk : Kept K K' p) :
    Calls Tryd.prog 15 #[stVal K gF gS gD, stVal K' kF kS kD, .int .i64 p] w fun e w' => e = .returned (.bool true) ∧ Below w.heap.size w w' := by
  unfold stVal
  have s1f := S1.f
  have s1s := S1.s
  have s2f := S2.f
  have s2s := S2.s
  rw [eF] at s2f ⊢
  rw [eS] at s2s ⊢
  have H1 : Hid (w.rowIs gF 75 (K.nF * 6) (fCell K) ∧ w.rowIs gS 55 (K.nS * 20) (sCell K)) := ⟨s1f, s1s⟩
  have H2 : Hid (w.rowIs kF 75 (K.nF * 6) (fCell K') ∧ w.rowIs kS 55 (K.nS * 20) (sCell K')) := ⟨s2f, s2s⟩
  have HK : Hid (Kept K K' p) := hk
  clear S1 S2 s1f s1s s2f s2s eF eS hk
  obtain ⟨cs, hcs⟩ : ∃ cs, cs = cut (sCell K) (p * 20) 20 := ⟨_, rfl⟩
  obtain ⟨ds, hds⟩ : ∃ ds, ds = cut (sCell K') (p * 20) 20 := ⟨_, rfl⟩
  have Hcs : Hid (cs = cut (sCell K) (p * 20) 20) := hcs
  have Hds : Hid (ds = cut (sCell K') (p * 20) 20) := hds
  have ei : Hid ((Tryd.prog.info? 55).map (·.size) = some cs.length) := by unfold Hid; rw [hcs, cut_len]; kernel_rfl
  have ej : Hid ((Tryd.prog.info? 55).map (·.size) = some ds.length) := by unfold Hid; rw [hds, cut_len]; kernel_rfl
  have ei2 : Hid ((Tryd.prog.info? 55).map (·.size) = some cs.toArray.size) := by unfold Hid; rw [List.size_toArray, hcs, cut_len]; kernel_rfl
  have ej2 : Hid ((Tryd.prog.info? 55).map (·.size) = some ds.toArray.size) := by unfold Hid; rw [List.size_toArray, hds, cut_len]; kernel_rfl
  have o1 : Hid (cs.toArray.all (·.oneCell') = true) := by unfold Hid; rw [hcs]; exact cut_one K _ _
  have o2 : Hid (ds.toArray.all (·.oneCell') = true) := by unfold Hid; rw [hds]; exact cut_one K' _ _
  have z1 : Hid (cs.toArray.size = 20) := by unfold Hid; rw [List.size_toArray, hcs, cut_len]
  have z2 : Hid (ds.toArray.size = 20) := by unfold Hid; rw [List.size_toArray, hds, cut_len]
  have LA : Hid (∀ o o', ((w.alloc o).alloc o').rangeAt gS (p * 20) cs) := fun o o' => by
    rw [hcs]; exact World.rangeAt_alloc (World.rangeAt_alloc (rowIs_range H1.out.2 (o := p * 20) (m := 20) (by omega)) _) _
  clear hcs hds
  have b1 : (0 : Int) ≤ (p : Int) := by omega
  have b2 : (p : Int) < (K.nS : Int) := by omega
  go_enter Tryd.func15, Tryd.ntmps15
  obtain ⟨ps, hps⟩ : ∃ ps, ps = cut (sCell K) (p * 20 + 3) 8 := ⟨_, rfl⟩
  obtain ⟨fs, hfs⟩ : ∃ fs, fs = cut (sCell K) (p * 20 + 11) 8 := ⟨_, rfl⟩
  have Hps : Hid (ps = cut (sCell K) (p * 20 + 3) 8) := hps
  have Hfs : Hid (fs = cut (sCell K) (p * 20 + 11) 8) := hfs
  have ep : Hid ((Tryd.prog.info? 50).map (·.size) = some ps.length) := by unfold Hid; rw [hps, cut_len]; kernel_rfl
  have ef : Hid ((Tryd.prog.info? 53).map (·.size) = some fs.length) := by unfold Hid; rw [hfs, cut_len]; kernel_rfl
  have cp := cmp_pages K p
  have cf := cmp_files K p
  unfold Cmp at cp cf
  rw [← hps] at cp
  rw [← hfs] at cf
  clear hps hfs
  simp only [Bool.not_true] at cp cf
  go_wp2_with (first | (refine wpList_load_mid rfl 55 _ rfl gS (p * 20) rfl cs _ (LA.out _ _) Tryd.underlying55 rfl ei.out ?_) | (refine wpList_store_any rfl 55 _ _ rfl _ 0 cs.toArray rfl rfl (by rw [z1.out]; exact there_new3 _ _ _ _ _ _ (by rfl)) ei2.out o1.out ?_; intro W1 f1 f2 f3 f4; have qa := f2 w.heap.size (by omega); rw [(heap_alloc3 w _ _ _).1] at qa; have qb := f2 (w.heap.size + 1) (by omega); rw [(heap_alloc3 w _ _ _).2] at qb; have YA : Hid (W1.cell? ⟨w.heap.size, 0, none⟩ = some (.slice (some ⟨gF, 0, none⟩) K.nF K.nF)) := cell_of_obj qa 0; have YB : Hid (W1.cell? ⟨w.heap.size + 1, 0, none⟩ = some (.slice (some ⟨kF, 0, none⟩) K.nF K.nF)) := cell_of_obj qb 0; have yb1 : W1.cell? ⟨w.heap.size + 1, 1, none⟩ = some (.slice (some ⟨kS, 0, none⟩) K.nS K.nS) := cell_of_obj qb 1; have HX : Hid (W1.rangeAt (w.heap.size + 1 + 1) 0 cs) := f1; have HB1 : Hid (Below w.heap.size w W1 ∧ W1.heap.size = w.heap.size + 3) := ⟨f4 _ _ (below3 w _ _ _) (by omega), by rw [f3]; simp⟩; have LB : Hid (W1.rangeAt kS (p * 20) ds) := by { unfold Hid; rw [Hds.out]; exact rowIs_range (H2.out.2.of_block (HB1.out.1.block _ (row_lt H2.out.2))) (o := p * 20) (m := 20) (by omega) }; clear f1 f2 f3 f4 qa qb) | (refine wpList_load_mid rfl 55 _ rfl kS (p * 20) rfl ds _ LB.out Tryd.underlying55 rfl ej.out ?_) | (refine wpList_store_any rfl 55 _ _ rfl _ 0 ds.toArray rfl rfl (by rw [z2.out]; exact there_new1 _ _ _ _ (by rfl)) ej2.out o2.out ?_; intro W2 g1 g2 g3 g4; have HB2 : Hid (Below w.heap.size w W2 ∧ W2.heap.size = w.heap.size + 4) := ⟨g4 _ _ (HB1.out.1.alloc (by have := HB1.out.2; omega) _) (by have := HB1.out.2; omega), by rw [g3]; have := HB1.out.2; simp; omega⟩; have HB : Hid (Behind W2 w.heap.size (w.heap.size + 1) (w.heap.size + 1 + 1) W1.heap.size gF kF K.nF K p) := behind_of HK.out YA.out YB.out (by rw [← Hcs.out]; exact HX.out) (by have := HB1.out.2; omega) (by have := HB1.out.2; omega) (by have := HB1.out.2; omega) (by rw [← Hds.out]; exact g1) (fun k hk => (g2 k (by omega)).trans (Below.heap_alloc _ _ k hk)); have x0 := HB.out.x0; have y0 := HB.out.y0; have x2 := HB.out.x2; have y2 := HB.out.y2; have XP : Hid (W2.rangeAt (w.heap.size + 1 + 1) 3 ps) := by { unfold Hid; rw [Hps.out]; exact HB.out.xp }; have YP : Hid (W2.rangeAt W1.heap.size 3 ps) := by { unfold Hid; rw [Hps.out]; exact HB.out.yp }; have XF : Hid (W2.rangeAt (w.heap.size + 1 + 1) 11 fs) := by { unfold Hid; rw [Hfs.out]; exact HB.out.xf }; have YF : Hid (W2.rangeAt W1.heap.size 11 fs) := by { unfold Hid; rw [Hfs.out]; exact HB.out.yf }; clear g1 g2 g3 g4) | (refine wpList_load_want (by rfl) 50 _ rfl _ 3 rfl ps _ XP.out Tryd.underlying50 rfl ep.out ?_) | (refine wpList_load_want (by rfl) 50 _ rfl _ 3 rfl ps _ YP.out Tryd.underlying50 rfl ep.out ?_) | (refine wpList_load_want (by rfl) 53 _ rfl _ 11 rfl fs _ XF.out Tryd.underlying53 rfl ef.out ?_) | (refine wpList_load_want (by rfl) 53 _ rfl _ 11 rfl fs _ YF.out Tryd.underlying53 rfl ef.out ?_))
  clear x0 y0 x2 y2 cp cf yb1 b1 b2 XP YP XF YF LB LA ei ej ei2 ej2 o1 o2 z1 z2 Hcs Hds Hps Hfs ep ef HX YA YB
  go_loopw [9] (fun i w' => ∃ k : Nat, k ≤ 4 ∧ i = .int .i64 k ∧ Below W2.heap.size W2 w') (fun i _ => 4 - (intOf i).toNat)
  case atStart => exact ⟨0, by omega, rfl, Below.refl _ _⟩
  case round =>
    obtain ⟨k, hk, rfl, hb⟩ := hrel
    have Hb : Hid (Below W2.heap.size W2 wr) := hb
    clear hb
    by_cases hlt : k < 4
    · have c1 := below_cell Hb.out (by have := HB2.out.2; omega) (HB.out.pg k hlt)
      have i1 : (0 : Int) ≤ (k : Int) := by omega
      have i2 : (k : Int) < 4 := by omega
      rcases HK.out.words k hlt with hneg | ⟨n, hn, hnF, hw⟩
      · generalize K.S p (3 + k * 2) = v at *
        have hv : ¬ (0 ≤ v) := by omega
        clear hneg
        go_wp2_with fail
        refine wp_region_held_drew (S := fun _ => True) (by kernel_rfl) trivial (fun hS => ?_)
        refine wpAnyH_take (i := 0) (oi := { dst := some 56, op := Op.move (Operand.tmp 10), type := 3, pos := "outright.go:181", after := #[], guard := none }) (v := .int .i64 v) rfl (by kernel_rfl) (by kernel_rfl) (by kernel_rfl) (fun _ _ _ h => h) (Or.inl ⟨by rfl, fun u h => by go_simp⟩) (by first | assumption | trivial) ?_
        try simp only [Act.put, List.setIfInBounds_toArray, List.set_cons_zero, List.set_cons_succ]
        refine wpAnyH_take (i := 1) (oi := { dst := some 57, op := Op.binOp BinOp.geq 3 (Operand.tmp 56) (Operand.const (Value.int IntKind.i64 0)) 3, type := 4, pos := "outright.go:181", after := #[{ on := 0, ground := Ground.data }], guard := none }) (v := .bool false) rfl (by kernel_rfl) (by kernel_rfl) (by kernel_rfl) (fun _ _ _ h => h) (Or.inl ⟨by rfl, fun u h => by go_simp⟩) (by first | assumption | trivial) ?_
        try simp only [Act.put, List.setIfInBounds_toArray, List.set_cons_zero, List.set_cons_succ]
        refine wpAnyH_take (i := 2) (oi := { dst := some 58, op := Op.move (Operand.tmp 57), type := 4, pos := "outright.go:181", after := #[{ on := 1, ground := Ground.data }], guard := none }) (v := .bool false) rfl (by kernel_rfl) (by kernel_rfl) (by kernel_rfl) (fun _ _ _ h => h) (Or.inl ⟨by rfl, fun u h => by go_simp⟩) (by first | assumption | trivial) ?_
        try simp only [Act.put, List.setIfInBounds_toArray, List.set_cons_zero, List.set_cons_succ]
        refine wpAnyH_take (i := 3) (oi := { dst := some 59, op := Op.move (Operand.tmp 10), type := 3, pos := "outright.go:181", after := #[{ on := 2, ground := Ground.guard }], guard := some (2, true) }) (v := undef) rfl (by kernel_rfl) (by kernel_rfl) (by kernel_rfl) (fun _ _ _ h => h) (Or.inr ⟨by rfl, rfl⟩) (by first | assumption | trivial) ?_
        try simp only [Act.put, List.setIfInBounds_toArray, List.set_cons_zero, List.set_cons_succ]
        refine wpAnyH_take (i := 4) (oi := { dst := some 60, op := Op.fieldAddr 45 (Operand.tmp 3) 0, type := 0, pos := "outright.go:181", after := #[{ on := 2, ground := Ground.guard }], guard := some (2, true) }) (v := undef) rfl (by kernel_rfl) (by kernel_rfl) (by kernel_rfl) (fun _ _ _ h => h) (Or.inr ⟨by rfl, rfl⟩) (by first | assumption | trivial) ?_
        try simp only [Act.put, List.setIfInBounds_toArray, List.set_cons_zero, List.set_cons_succ]
        refine wpAnyH_take (i := 5) (oi := { dst := some 61, op := Op.load 41 (Operand.tmp 60), type := 41, pos := "outright.go:181", after := #[{ on := 4, ground := Ground.data }, { on := 2, ground := Ground.guard }], guard := some (2, true) }) (v := undef) rfl (by kernel_rfl) (by kernel_rfl) (by kernel_rfl) (fun _ _ _ h => h) (Or.inr ⟨by rfl, rfl⟩) (by first | assumption | trivial) ?_
        try simp only [Act.put, List.setIfInBounds_toArray, List.set_cons_zero, List.set_cons_succ]
        refine wpAnyH_take (i := 6) (oi := { dst := some 62, op := Op.call { callee := Callee.builtin Builtin.len, args := #[Operand.tmp 61], argTypes := #[41] }, type := 3, pos := "outright.go:181", after := #[{ on := 5, ground := Ground.data }, { on := 2, ground := Ground.guard }], guard := some (2, true) }) (v := undef) rfl (by kernel_rfl) (by kernel_rfl) (by kernel_rfl) (fun _ _ _ h => h) (Or.inr ⟨by rfl, rfl⟩) (by first | assumption | trivial) ?_
        try simp only [Act.put, List.setIfInBounds_toArray, List.set_cons_zero, List.set_cons_succ]
        refine wpAnyH_take (i := 7) (oi := { dst := some 63, op := Op.binOp BinOp.geq 3 (Operand.tmp 59) (Operand.tmp 62) 3, type := 4, pos := "outright.go:181", after := #[{ on := 3, ground := Ground.data }, { on := 6, ground := Ground.data }, { on := 2, ground := Ground.guard }], guard := some (2, true) }) (v := undef) rfl (by kernel_rfl) (by kernel_rfl) (by kernel_rfl) (fun _ _ _ h => h) (Or.inr ⟨by rfl, rfl⟩) (by first | assumption | trivial) ?_
        try simp only [Act.put, List.setIfInBounds_toArray, List.set_cons_zero, List.set_cons_succ]
        refine wpAnyH_take (i := 8) (oi := { dst := some 64, op := Op.move (Operand.tmp 63), type := 4, pos := "outright.go:181", after := #[{ on := 7, ground := Ground.data }, { on := 2, ground := Ground.chain }, { on := 2, ground := Ground.guard }], guard := some (2, true) }) (v := undef) rfl (by kernel_rfl) (by kernel_rfl) (by kernel_rfl) (fun _ _ _ h => h) (Or.inr ⟨by rfl, rfl⟩) (by first | assumption | trivial) ?_
        try simp only [Act.put, List.setIfInBounds_toArray, List.set_cons_zero, List.set_cons_succ]
        refine wpAnyH_take (i := 9) (oi := { dst := some 65, op := Op.move (Operand.tmp 10), type := 3, pos := "outright.go:181", after := #[{ on := 8, ground := Ground.guard }], guard := some (8, false) }) (v := undef) rfl (by kernel_rfl) (by kernel_rfl) (by kernel_rfl) (fun _ _ _ h => h) (Or.inr ⟨by rfl, rfl⟩) (by first | assumption | trivial) ?_
        try simp only [Act.put, List.setIfInBounds_toArray, List.set_cons_zero, List.set_cons_succ]
        refine wpAnyH_take (i := 10) (oi := { dst := some 66, op := Op.fieldAddr 45 (Operand.tmp 4) 0, type := 0, pos := "outright.go:181", after := #[{ on := 8, ground := Ground.guard }], guard := some (8, false) }) (v := undef) rfl (by kernel_rfl) (by kernel_rfl) (by kernel_rfl) (fun _ _ _ h => h) (Or.inr ⟨by rfl, rfl⟩) (by first | assumption | trivial) ?_
        try simp only [Act.put, List.setIfInBounds_toArray, List.set_cons_zero, List.set_cons_succ]
        refine wpAnyH_take (i := 11) (oi := { dst := some 67, op := Op.load 41 (Operand.tmp 66), type := 41, pos := "outright.go:181", after := #[{ on := 10, ground := Ground.data }, { on := 8, ground := Ground.guard }], guard := some (8, false) }) (v := undef) rfl (by kernel_rfl) (by kernel_rfl) (by kernel_rfl) (fun _ _ _ h => h) (Or.inr ⟨by rfl, rfl⟩) (by first | assumption | trivial) ?_
        try simp only [Act.put, List.setIfInBounds_toArray, List.set_cons_zero, List.set_cons_succ]
        refine wpAnyH_take (i := 12) (oi := { dst := some 68, op := Op.call { callee := Callee.builtin Builtin.len, args := #[Operand.tmp 67], argTypes := #[41] }, type := 3, pos := "outright.go:181", after := #[{ on := 11, ground := Ground.data }, { on := 8, ground := Ground.guard }], guard := some (8, false) }) (v := undef) rfl (by kernel_rfl) (by kernel_rfl) (by kernel_rfl) (fun _ _ _ h => h) (Or.inr ⟨by rfl, rfl⟩) (by first | assumption | trivial) ?_
        try simp only [Act.put, List.setIfInBounds_toArray, List.set_cons_zero, List.set_cons_succ]
        refine wpAnyH_take (i := 13) (oi := { dst := some 69, op := Op.binOp BinOp.geq 3 (Operand.tmp 65) (Operand.tmp 68) 3, type := 4, pos := "outright.go:181", after := #[{ on := 9, ground := Ground.data }, { on := 12, ground := Ground.data }, { on := 8, ground := Ground.guard }], guard := some (8, false) }) (v := undef) rfl (by kernel_rfl) (by kernel_rfl) (by kernel_rfl) (fun _ _ _ h => h) (Or.inr ⟨by rfl, rfl⟩) (by first | assumption | trivial) ?_
        try simp only [Act.put, List.setIfInBounds_toArray, List.set_cons_zero, List.set_cons_succ]
        refine wpAnyH_take (i := 14) (oi := { dst := some 70, op := Op.pick (Operand.tmp 64) (Operand.const (Value.bool true)) (Operand.tmp 69), type := 4, pos := "outright.go:181", after := #[{ on := 8, ground := Ground.data }, { on := 13, ground := Ground.data }, { on := 2, ground := Ground.guard }], guard := some (2, true) }) (v := undef) rfl (by kernel_rfl) (by kernel_rfl) (by kernel_rfl) (fun _ _ _ h => h) (Or.inr ⟨by rfl, rfl⟩) (by first | assumption | trivial) ?_
        try simp only [Act.put, List.setIfInBounds_toArray, List.set_cons_zero, List.set_cons_succ]
        refine wpAnyH_take (i := 15) (oi := { dst := some 71, op := Op.move (Operand.tmp 70), type := 4, pos := "outright.go:181", after := #[{ on := 14, ground := Ground.data }, { on := 8, ground := Ground.chain }, { on := 2, ground := Ground.guard }], guard := some (2, true) }) (v := undef) rfl (by kernel_rfl) (by kernel_rfl) (by kernel_rfl) (fun _ _ _ h => h) (Or.inr ⟨by rfl, rfl⟩) (by first | assumption | trivial) ?_
        try simp only [Act.put, List.setIfInBounds_toArray, List.set_cons_zero, List.set_cons_succ]
        refine wpAnyH_take (i := 16) (oi := { dst := some 72, op := Op.fieldAddr 45 (Operand.tmp 3) 0, type := 0, pos := "outright.go:181", after := #[{ on := 15, ground := Ground.guard }], guard := some (15, false) }) (v := undef) rfl (by kernel_rfl) (by kernel_rfl) (by kernel_rfl) (fun _ _ _ h => h) (Or.inr ⟨by rfl, rfl⟩) (by first | assumption | trivial) ?_
        try simp only [Act.put, List.setIfInBounds_toArray, List.set_cons_zero, List.set_cons_succ]
        refine wpAnyH_take (i := 17) (oi := { dst := some 73, op := Op.load 41 (Operand.tmp 72), type := 41, pos := "outright.go:181", after := #[{ on := 16, ground := Ground.data }, { on := 15, ground := Ground.guard }], guard := some (15, false) }) (v := undef) rfl (by kernel_rfl) (by kernel_rfl) (by kernel_rfl) (fun _ _ _ h => h) (Or.inr ⟨by rfl, rfl⟩) (by first | assumption | trivial) ?_
        try simp only [Act.put, List.setIfInBounds_toArray, List.set_cons_zero, List.set_cons_succ]
        refine wpAnyH_take (i := 18) (oi := { dst := some 74, op := Op.move (Operand.tmp 10), type := 3, pos := "outright.go:181", after := #[{ on := 15, ground := Ground.guard }], guard := some (15, false) }) (v := undef) rfl (by kernel_rfl) (by kernel_rfl) (by kernel_rfl) (fun _ _ _ h => h) (Or.inr ⟨by rfl, rfl⟩) (by first | assumption | trivial) ?_
        try simp only [Act.put, List.setIfInBounds_toArray, List.set_cons_zero, List.set_cons_succ]
        refine wpAnyH_take (i := 19) (oi := { dst := some 75, op := Op.indexAddr 41 (Operand.tmp 73) (Operand.tmp 74), type := 0, pos := "outright.go:181", after := #[{ on := 17, ground := Ground.data }, { on := 18, ground := Ground.data }, { on := 15, ground := Ground.guard }], guard := some (15, false) }) (v := undef) rfl (by kernel_rfl) (by kernel_rfl) (by kernel_rfl) (fun _ _ _ h => h) (Or.inr ⟨by rfl, rfl⟩) (by first | assumption | trivial) ?_
        try simp only [Act.put, List.setIfInBounds_toArray, List.set_cons_zero, List.set_cons_succ]
        refine wpAnyH_take (i := 20) (oi := { dst := some 76, op := Op.load 75 (Operand.tmp 75), type := 75, pos := "outright.go:181", after := #[{ on := 19, ground := Ground.data }, { on := 15, ground := Ground.guard }], guard := some (15, false) }) (v := undef) rfl (by kernel_rfl) (by kernel_rfl) (by kernel_rfl) (fun _ _ _ h => h) (Or.inr ⟨by rfl, rfl⟩) (by first | assumption | trivial) ?_
        try simp only [Act.put, List.setIfInBounds_toArray, List.set_cons_zero, List.set_cons_succ]
        refine wpAnyH_take (i := 21) (oi := { dst := some 77, op := Op.fieldAddr 45 (Operand.tmp 4) 0, type := 0, pos := "outright.go:181", after := #[{ on := 15, ground := Ground.guard }], guard := some (15, false) }) (v := undef) rfl (by kernel_rfl) (by kernel_rfl) (by kernel_rfl) (fun _ _ _ h => h) (Or.inr ⟨by rfl, rfl⟩) (by first | assumption | trivial) ?_
        try simp only [Act.put, List.setIfInBounds_toArray, List.set_cons_zero, List.set_cons_succ]
        refine wpAnyH_take (i := 22) (oi := { dst := some 78, op := Op.load 41 (Operand.tmp 77), type := 41, pos := "outright.go:181", after := #[{ on := 21, ground := Ground.data }, { on := 15, ground := Ground.guard }], guard := some (15, false) }) (v := undef) rfl (by kernel_rfl) (by kernel_rfl) (by kernel_rfl) (fun _ _ _ h => h) (Or.inr ⟨by rfl, rfl⟩) (by first | assumption | trivial) ?_
        try simp only [Act.put, List.setIfInBounds_toArray, List.set_cons_zero, List.set_cons_succ]
        refine wpAnyH_take (i := 23) (oi := { dst := some 79, op := Op.move (Operand.tmp 10), type := 3, pos := "outright.go:181", after := #[{ on := 15, ground := Ground.guard }], guard := some (15, false) }) (v := undef) rfl (by kernel_rfl) (by kernel_rfl) (by kernel_rfl) (fun _ _ _ h => h) (Or.inr ⟨by rfl, rfl⟩) (by first | assumption | trivial) ?_
        try simp only [Act.put, List.setIfInBounds_toArray, List.set_cons_zero, List.set_cons_succ]
        refine wpAnyH_take (i := 24) (oi := { dst := some 80, op := Op.indexAddr 41 (Operand.tmp 78) (Operand.tmp 79), type := 0, pos := "outright.go:181", after := #[{ on := 22, ground := Ground.data }, { on := 23, ground := Ground.data }, { on := 15, ground := Ground.guard }], guard := some (15, false) }) (v := undef) rfl (by kernel_rfl) (by kernel_rfl) (by kernel_rfl) (fun _ _ _ h => h) (Or.inr ⟨by rfl, rfl⟩) (by first | assumption | trivial) ?_
        try simp only [Act.put, List.setIfInBounds_toArray, List.set_cons_zero, List.set_cons_succ]
        refine wpAnyH_take (i := 25) (oi := { dst := some 81, op := Op.load 75 (Operand.tmp 80), type := 75, pos := "outright.go:181", after := #[{ on := 24, ground := Ground.data }, { on := 15, ground := Ground.guard }], guard := some (15, false) }) (v := undef) rfl (by kernel_rfl) (by kernel_rfl) (by kernel_rfl) (fun _ _ _ h => h) (Or.inr ⟨by rfl, rfl⟩) (by first | assumption | trivial) ?_
        try simp only [Act.put, List.setIfInBounds_toArray, List.set_cons_zero, List.set_cons_succ]
        refine wpAnyH_take (i := 26) (oi := { dst := some 82, op := Op.binOp BinOp.neq 75 (Operand.tmp 76) (Operand.tmp 81) 75, type := 4, pos := "outright.go:181", after := #[{ on := 20, ground := Ground.data }, { on := 25, ground := Ground.data }, { on := 15, ground := Ground.guard }], guard := some (15, false) }) (v := undef) rfl (by kernel_rfl) (by kernel_rfl) (by kernel_rfl) (fun _ _ _ h => h) (Or.inr ⟨by rfl, rfl⟩) (by first | assumption | trivial) ?_
        try simp only [Act.put, List.setIfInBounds_toArray, List.set_cons_zero, List.set_cons_succ]
        refine wpAnyH_take (i := 27) (oi := { dst := some 83, op := Op.pick (Operand.tmp 71) (Operand.const (Value.bool true)) (Operand.tmp 82), type := 4, pos := "outright.go:181", after := #[{ on := 15, ground := Ground.data }, { on := 26, ground := Ground.data }, { on := 2, ground := Ground.guard }], guard := some (2, true) }) (v := undef) rfl (by kernel_rfl) (by kernel_rfl) (by kernel_rfl) (fun _ _ _ h => h) (Or.inr ⟨by rfl, rfl⟩) (by first | assumption | trivial) ?_
        try simp only [Act.put, List.setIfInBounds_toArray, List.set_cons_zero, List.set_cons_succ]
        refine wpAnyH_take (i := 28) (oi := { dst := some 84, op := Op.pick (Operand.tmp 58) (Operand.tmp 83) (Operand.const (Value.bool false)), type := 4, pos := "outright.go:181", after := #[{ on := 2, ground := Ground.data }, { on := 27, ground := Ground.data }], guard := none }) (v := .bool false) rfl (by kernel_rfl) (by kernel_rfl) (by kernel_rfl) (fun _ _ _ h => h) (Or.inl ⟨by rfl, fun u h => by go_simp⟩) (by first | assumption | trivial) ?_
        try simp only [Act.put, List.setIfInBounds_toArray, List.set_cons_zero, List.set_cons_succ]
        refine wpAnyH_done (by kernel_rfl) ?_ _
        go_wp2
        exact ⟨⟨k + 1, by omega, by go_num, below_drew Hb.out⟩, by simp [intOf]; omega⟩
      · rw [hn] at c1
        have a0 := below_cell Hb.out (by have := HB2.out.2; omega) HB.out.a
        have b0 := below_cell Hb.out (by have := HB2.out.2; omega) HB.out.b
        have j1 : (0 : Int) ≤ (n : Int) := by omega
        have j2 : (n : Int) < (K.nF : Int) := by omega
        obtain ⟨rs, hrs⟩ : ∃ rs, rs = cut (fCell K) (n * 6) 6 := ⟨_, rfl⟩
        have er : Hid ((Tryd.prog.info? 75).map (·.size) = some rs.length) := by unfold Hid; rw [hrs, cut_len]; kernel_rfl
        have cr := cmp_frame K n
        unfold Cmp at cr
        rw [← hrs] at cr
        simp only [Bool.not_true] at cr
        have R1 : Hid (wr.rangeAt gF (n * 6) rs) := by
          unfold Hid; rw [hrs]
          exact rowIs_range ((H1.out.1.of_block (HB2.out.1.block _ (row_lt H1.out.1))).of_block (Hb.out.block _ (by have := HB2.out.2; have := row_lt H1.out.1; omega))) (o := n * 6) (m := 6) (by omega)
        have R2 : Hid (wr.rangeAt kF (n * 6) rs) := by
          unfold Hid
          have e : cut (fCell K) (n * 6) 6 = cut (fCell K') (n * 6) 6 := cut_eq fun j hj => by
            unfold fCell
            rw [show (n * 6 + j) / 6 = n by omega, show (n * 6 + j) % 6 = j by omega, hw j hj]
          rw [hrs, e]
          exact rowIs_range ((H2.out.1.of_block (HB2.out.1.block _ (row_lt H2.out.1))).of_block (Hb.out.block _ (by have := HB2.out.2; have := row_lt H2.out.1; omega))) (o := n * 6) (m := 6) (by omega)
        have A0 : Hid (wr.cell? ⟨w.heap.size, 0, none⟩ = some (.slice (some ⟨gF, 0, none⟩) K.nF K.nF)) := a0
        have B0 : Hid (wr.cell? ⟨w.heap.size + 1, 0, none⟩ = some (.slice (some ⟨kF, 0, none⟩) K.nF K.nF)) := b0
        clear hrs hw a0 b0
        go_wp2_with fail
        refine wp_region_held_drew (S := fun w' => w'.cell? ⟨w.heap.size, 0, none⟩ = some (.slice (some ⟨gF, 0, none⟩) K.nF K.nF) ∧ w'.cell? ⟨w.heap.size + 1, 0, none⟩ = some (.slice (some ⟨kF, 0, none⟩) K.nF K.nF) ∧ w'.rangeAt gF (n * 6) rs ∧ w'.rangeAt kF (n * 6) rs) (by kernel_rfl) ⟨A0.out, B0.out, (World.rangeAt_drew _ _ _ _).2 R1.out, (World.rangeAt_drew _ _ _ _).2 R2.out⟩ (fun hS => ?_)
        refine wpAnyH_take (i := 0) (oi := { dst := some 56, op := Op.move (Operand.tmp 10), type := 3, pos := "outright.go:181", after := #[], guard := none }) (v := .int .i64 n) rfl (by kernel_rfl) (by kernel_rfl) (by kernel_rfl) (fun _ _ _ h => h) (Or.inl ⟨by rfl, fun u h => by obtain ⟨h1, h2, h3, h4⟩ := h; go_simp⟩) (by first | assumption | trivial) ?_
        try simp only [Act.put, List.setIfInBounds_toArray, List.set_cons_zero, List.set_cons_succ]
        refine wpAnyH_take (i := 1) (oi := { dst := some 57, op := Op.binOp BinOp.geq 3 (Operand.tmp 56) (Operand.const (Value.int IntKind.i64 0)) 3, type := 4, pos := "outright.go:181", after := #[{ on := 0, ground := Ground.data }], guard := none }) (v := .bool true) rfl (by kernel_rfl) (by kernel_rfl) (by kernel_rfl) (fun _ _ _ h => h) (Or.inl ⟨by rfl, fun u h => by obtain ⟨h1, h2, h3, h4⟩ := h; go_simp⟩) (by first | assumption | trivial) ?_
        try simp only [Act.put, List.setIfInBounds_toArray, List.set_cons_zero, List.set_cons_succ]
        refine wpAnyH_take (i := 2) (oi := { dst := some 58, op := Op.move (Operand.tmp 57), type := 4, pos := "outright.go:181", after := #[{ on := 1, ground := Ground.data }], guard := none }) (v := .bool true) rfl (by kernel_rfl) (by kernel_rfl) (by kernel_rfl) (fun _ _ _ h => h) (Or.inl ⟨by rfl, fun u h => by obtain ⟨h1, h2, h3, h4⟩ := h; go_simp⟩) (by first | assumption | trivial) ?_
        try simp only [Act.put, List.setIfInBounds_toArray, List.set_cons_zero, List.set_cons_succ]
        refine wpAnyH_take (i := 3) (oi := { dst := some 59, op := Op.move (Operand.tmp 10), type := 3, pos := "outright.go:181", after := #[{ on := 2, ground := Ground.guard }], guard := some (2, true) }) (v := .int .i64 n) rfl (by kernel_rfl) (by kernel_rfl) (by kernel_rfl) (fun _ _ _ h => h) (Or.inl ⟨by rfl, fun u h => by obtain ⟨h1, h2, h3, h4⟩ := h; go_simp⟩) (by first | assumption | trivial) ?_
        try simp only [Act.put, List.setIfInBounds_toArray, List.set_cons_zero, List.set_cons_succ]
        refine wpAnyH_take (i := 4) (oi := { dst := some 60, op := Op.fieldAddr 45 (Operand.tmp 3) 0, type := 0, pos := "outright.go:181", after := #[{ on := 2, ground := Ground.guard }], guard := some (2, true) }) (v := .pointer (some ⟨w.heap.size, 0, none⟩)) rfl (by kernel_rfl) (by kernel_rfl) (by kernel_rfl) (fun _ _ _ h => h) (Or.inl ⟨by rfl, fun u h => by obtain ⟨h1, h2, h3, h4⟩ := h; go_simp⟩) (by first | assumption | trivial) ?_
        try simp only [Act.put, List.setIfInBounds_toArray, List.set_cons_zero, List.set_cons_succ]
        refine wpAnyH_take (i := 5) (oi := { dst := some 61, op := Op.load 41 (Operand.tmp 60), type := 41, pos := "outright.go:181", after := #[{ on := 4, ground := Ground.data }, { on := 2, ground := Ground.guard }], guard := some (2, true) }) (v := .slice (some ⟨gF, 0, none⟩) K.nF K.nF) rfl (by kernel_rfl) (by kernel_rfl) (by kernel_rfl) (fun _ _ _ h => h) (Or.inl ⟨by rfl, fun u h => by obtain ⟨h1, h2, h3, h4⟩ := h; go_simp⟩) (by first | assumption | trivial) ?_
        try simp only [Act.put, List.setIfInBounds_toArray, List.set_cons_zero, List.set_cons_succ]
        refine wpAnyH_take (i := 6) (oi := { dst := some 62, op := Op.call { callee := Callee.builtin Builtin.len, args := #[Operand.tmp 61], argTypes := #[41] }, type := 3, pos := "outright.go:181", after := #[{ on := 5, ground := Ground.data }, { on := 2, ground := Ground.guard }], guard := some (2, true) }) (v := .int .i64 K.nF) rfl (by kernel_rfl) (by kernel_rfl) (by kernel_rfl) (fun _ _ _ h => h) (Or.inl ⟨by rfl, fun u h => by obtain ⟨h1, h2, h3, h4⟩ := h; go_simp⟩) (by first | assumption | trivial) ?_
        try simp only [Act.put, List.setIfInBounds_toArray, List.set_cons_zero, List.set_cons_succ]
        refine wpAnyH_take (i := 7) (oi := { dst := some 63, op := Op.binOp BinOp.geq 3 (Operand.tmp 59) (Operand.tmp 62) 3, type := 4, pos := "outright.go:181", after := #[{ on := 3, ground := Ground.data }, { on := 6, ground := Ground.data }, { on := 2, ground := Ground.guard }], guard := some (2, true) }) (v := .bool false) rfl (by kernel_rfl) (by kernel_rfl) (by kernel_rfl) (fun _ _ _ h => h) (Or.inl ⟨by rfl, fun u h => by obtain ⟨h1, h2, h3, h4⟩ := h; go_simp⟩) (by first | assumption | trivial) ?_
        try simp only [Act.put, List.setIfInBounds_toArray, List.set_cons_zero, List.set_cons_succ]
        refine wpAnyH_take (i := 8) (oi := { dst := some 64, op := Op.move (Operand.tmp 63), type := 4, pos := "outright.go:181", after := #[{ on := 7, ground := Ground.data }, { on := 2, ground := Ground.chain }, { on := 2, ground := Ground.guard }], guard := some (2, true) }) (v := .bool false) rfl (by kernel_rfl) (by kernel_rfl) (by kernel_rfl) (fun _ _ _ h => h) (Or.inl ⟨by rfl, fun u h => by obtain ⟨h1, h2, h3, h4⟩ := h; go_simp⟩) (by first | assumption | trivial) ?_
        try simp only [Act.put, List.setIfInBounds_toArray, List.set_cons_zero, List.set_cons_succ]
        refine wpAnyH_take (i := 9) (oi := { dst := some 65, op := Op.move (Operand.tmp 10), type := 3, pos := "outright.go:181", after := #[{ on := 8, ground := Ground.guard }], guard := some (8, false) }) (v := .int .i64 n) rfl (by kernel_rfl) (by kernel_rfl) (by kernel_rfl) (fun _ _ _ h => h) (Or.inl ⟨by rfl, fun u h => by obtain ⟨h1, h2, h3, h4⟩ := h; go_simp⟩) (by first | assumption | trivial) ?_
        try simp only [Act.put, List.setIfInBounds_toArray, List.set_cons_zero, List.set_cons_succ]
        refine wpAnyH_take (i := 10) (oi := { dst := some 66, op := Op.fieldAddr 45 (Operand.tmp 4) 0, type := 0, pos := "outright.go:181", after := #[{ on := 8, ground := Ground.guard }], guard := some (8, false) }) (v := .pointer (some ⟨w.heap.size + 1, 0, none⟩)) rfl (by kernel_rfl) (by kernel_rfl) (by kernel_rfl) (fun _ _ _ h => h) (Or.inl ⟨by rfl, fun u h => by obtain ⟨h1, h2, h3, h4⟩ := h; go_simp⟩) (by first | assumption | trivial) ?_
        try simp only [Act.put, List.setIfInBounds_toArray, List.set_cons_zero, List.set_cons_succ]
        refine wpAnyH_take (i := 11) (oi := { dst := some 67, op := Op.load 41 (Operand.tmp 66), type := 41, pos := "outright.go:181", after := #[{ on := 10, ground := Ground.data }, { on := 8, ground := Ground.guard }], guard := some (8, false) }) (v := .slice (some ⟨kF, 0, none⟩) K.nF K.nF) rfl (by kernel_rfl) (by kernel_rfl) (by kernel_rfl) (fun _ _ _ h => h) (Or.inl ⟨by rfl, fun u h => by obtain ⟨h1, h2, h3, h4⟩ := h; go_simp⟩) (by first | assumption | trivial) ?_
        try simp only [Act.put, List.setIfInBounds_toArray, List.set_cons_zero, List.set_cons_succ]
        refine wpAnyH_take (i := 12) (oi := { dst := some 68, op := Op.call { callee := Callee.builtin Builtin.len, args := #[Operand.tmp 67], argTypes := #[41] }, type := 3, pos := "outright.go:181", after := #[{ on := 11, ground := Ground.data }, { on := 8, ground := Ground.guard }], guard := some (8, false) }) (v := .int .i64 K.nF) rfl (by kernel_rfl) (by kernel_rfl) (by kernel_rfl) (fun _ _ _ h => h) (Or.inl ⟨by rfl, fun u h => by obtain ⟨h1, h2, h3, h4⟩ := h; go_simp⟩) (by first | assumption | trivial) ?_
        try simp only [Act.put, List.setIfInBounds_toArray, List.set_cons_zero, List.set_cons_succ]
        refine wpAnyH_take (i := 13) (oi := { dst := some 69, op := Op.binOp BinOp.geq 3 (Operand.tmp 65) (Operand.tmp 68) 3, type := 4, pos := "outright.go:181", after := #[{ on := 9, ground := Ground.data }, { on := 12, ground := Ground.data }, { on := 8, ground := Ground.guard }], guard := some (8, false) }) (v := .bool false) rfl (by kernel_rfl) (by kernel_rfl) (by kernel_rfl) (fun _ _ _ h => h) (Or.inl ⟨by rfl, fun u h => by obtain ⟨h1, h2, h3, h4⟩ := h; go_simp⟩) (by first | assumption | trivial) ?_
        try simp only [Act.put, List.setIfInBounds_toArray, List.set_cons_zero, List.set_cons_succ]
        refine wpAnyH_take (i := 14) (oi := { dst := some 70, op := Op.pick (Operand.tmp 64) (Operand.const (Value.bool true)) (Operand.tmp 69), type := 4, pos := "outright.go:181", after := #[{ on := 8, ground := Ground.data }, { on := 13, ground := Ground.data }, { on := 2, ground := Ground.guard }], guard := some (2, true) }) (v := .bool false) rfl (by kernel_rfl) (by kernel_rfl) (by kernel_rfl) (fun _ _ _ h => h) (Or.inl ⟨by rfl, fun u h => by obtain ⟨h1, h2, h3, h4⟩ := h; go_simp⟩) (by first | assumption | trivial) ?_
        try simp only [Act.put, List.setIfInBounds_toArray, List.set_cons_zero, List.set_cons_succ]
        refine wpAnyH_take (i := 15) (oi := { dst := some 71, op := Op.move (Operand.tmp 70), type := 4, pos := "outright.go:181", after := #[{ on := 14, ground := Ground.data }, { on := 8, ground := Ground.chain }, { on := 2, ground := Ground.guard }], guard := some (2, true) }) (v := .bool false) rfl (by kernel_rfl) (by kernel_rfl) (by kernel_rfl) (fun _ _ _ h => h) (Or.inl ⟨by rfl, fun u h => by obtain ⟨h1, h2, h3, h4⟩ := h; go_simp⟩) (by first | assumption | trivial) ?_
        try simp only [Act.put, List.setIfInBounds_toArray, List.set_cons_zero, List.set_cons_succ]
        refine wpAnyH_take (i := 16) (oi := { dst := some 72, op := Op.fieldAddr 45 (Operand.tmp 3) 0, type := 0, pos := "outright.go:181", after := #[{ on := 15, ground := Ground.guard }], guard := some (15, false) }) (v := .pointer (some ⟨w.heap.size, 0, none⟩)) rfl (by kernel_rfl) (by kernel_rfl) (by kernel_rfl) (fun _ _ _ h => h) (Or.inl ⟨by rfl, fun u h => by obtain ⟨h1, h2, h3, h4⟩ := h; go_simp⟩) (by first | assumption | trivial) ?_
        try simp only [Act.put, List.setIfInBounds_toArray, List.set_cons_zero, List.set_cons_succ]
        refine wpAnyH_take (i := 17) (oi := { dst := some 73, op := Op.load 41 (Operand.tmp 72), type := 41, pos := "outright.go:181", after := #[{ on := 16, ground := Ground.data }, { on := 15, ground := Ground.guard }], guard := some (15, false) }) (v := .slice (some ⟨gF, 0, none⟩) K.nF K.nF) rfl (by kernel_rfl) (by kernel_rfl) (by kernel_rfl) (fun _ _ _ h => h) (Or.inl ⟨by rfl, fun u h => by obtain ⟨h1, h2, h3, h4⟩ := h; go_simp⟩) (by first | assumption | trivial) ?_
        try simp only [Act.put, List.setIfInBounds_toArray, List.set_cons_zero, List.set_cons_succ]
        refine wpAnyH_take (i := 18) (oi := { dst := some 74, op := Op.move (Operand.tmp 10), type := 3, pos := "outright.go:181", after := #[{ on := 15, ground := Ground.guard }], guard := some (15, false) }) (v := .int .i64 n) rfl (by kernel_rfl) (by kernel_rfl) (by kernel_rfl) (fun _ _ _ h => h) (Or.inl ⟨by rfl, fun u h => by obtain ⟨h1, h2, h3, h4⟩ := h; go_simp⟩) (by first | assumption | trivial) ?_
        try simp only [Act.put, List.setIfInBounds_toArray, List.set_cons_zero, List.set_cons_succ]
        refine wpAnyH_take (i := 19) (oi := { dst := some 75, op := Op.indexAddr 41 (Operand.tmp 73) (Operand.tmp 74), type := 0, pos := "outright.go:181", after := #[{ on := 17, ground := Ground.data }, { on := 18, ground := Ground.data }, { on := 15, ground := Ground.guard }], guard := some (15, false) }) (v := .pointer (some ⟨gF, n * 6, none⟩)) rfl (by kernel_rfl) (by kernel_rfl) (by kernel_rfl) (fun _ _ _ h => h) (Or.inl ⟨by rfl, fun u h => by obtain ⟨h1, h2, h3, h4⟩ := h; go_simp⟩) (by first | assumption | trivial) ?_
        try simp only [Act.put, List.setIfInBounds_toArray, List.set_cons_zero, List.set_cons_succ]
        refine wpAnyH_take (i := 20) (oi := { dst := some 76, op := Op.load 75 (Operand.tmp 75), type := 75, pos := "outright.go:181", after := #[{ on := 19, ground := Ground.data }, { on := 15, ground := Ground.guard }], guard := some (15, false) }) (v := .agg rs.toArray) rfl (by kernel_rfl) (by kernel_rfl) (by kernel_rfl) (fun _ _ _ h => h) (yieldsIf_load_mid (by rfl) _ _ rfl _ _ rfl _ _ (fun u h => h.2.2.1) Tryd.underlying75 rfl er.out) (by first | assumption | trivial) ?_
        try simp only [Act.put, List.setIfInBounds_toArray, List.set_cons_zero, List.set_cons_succ]
        refine wpAnyH_take (i := 21) (oi := { dst := some 77, op := Op.fieldAddr 45 (Operand.tmp 4) 0, type := 0, pos := "outright.go:181", after := #[{ on := 15, ground := Ground.guard }], guard := some (15, false) }) (v := .pointer (some ⟨w.heap.size + 1, 0, none⟩)) rfl (by kernel_rfl) (by kernel_rfl) (by kernel_rfl) (fun _ _ _ h => h) (Or.inl ⟨by rfl, fun u h => by obtain ⟨h1, h2, h3, h4⟩ := h; go_simp⟩) (by first | assumption | trivial) ?_
        try simp only [Act.put, List.setIfInBounds_toArray, List.set_cons_zero, List.set_cons_succ]
        refine wpAnyH_take (i := 22) (oi := { dst := some 78, op := Op.load 41 (Operand.tmp 77), type := 41, pos := "outright.go:181", after := #[{ on := 21, ground := Ground.data }, { on := 15, ground := Ground.guard }], guard := some (15, false) }) (v := .slice (some ⟨kF, 0, none⟩) K.nF K.nF) rfl (by kernel_rfl) (by kernel_rfl) (by kernel_rfl) (fun _ _ _ h => h) (Or.inl ⟨by rfl, fun u h => by obtain ⟨h1, h2, h3, h4⟩ := h; go_simp⟩) (by first | assumption | trivial) ?_
        try simp only [Act.put, List.setIfInBounds_toArray, List.set_cons_zero, List.set_cons_succ]
        refine wpAnyH_take (i := 23) (oi := { dst := some 79, op := Op.move (Operand.tmp 10), type := 3, pos := "outright.go:181", after := #[{ on := 15, ground := Ground.guard }], guard := some (15, false) }) (v := .int .i64 n) rfl (by kernel_rfl) (by kernel_rfl) (by kernel_rfl) (fun _ _ _ h => h) (Or.inl ⟨by rfl, fun u h => by obtain ⟨h1, h2, h3, h4⟩ := h; go_simp⟩) (by first | assumption | trivial) ?_
        try simp only [Act.put, List.setIfInBounds_toArray, List.set_cons_zero, List.set_cons_succ]
        refine wpAnyH_take (i := 24) (oi := { dst := some 80, op := Op.indexAddr 41 (Operand.tmp 78) (Operand.tmp 79), type := 0, pos := "outright.go:181", after := #[{ on := 22, ground := Ground.data }, { on := 23, ground := Ground.data }, { on := 15, ground := Ground.guard }], guard := some (15, false) }) (v := .pointer (some ⟨kF, n * 6, none⟩)) rfl (by kernel_rfl) (by kernel_rfl) (by kernel_rfl) (fun _ _ _ h => h) (Or.inl ⟨by rfl, fun u h => by obtain ⟨h1, h2, h3, h4⟩ := h; go_simp⟩) (by first | assumption | trivial) ?_
        try simp only [Act.put, List.setIfInBounds_toArray, List.set_cons_zero, List.set_cons_succ]
        refine wpAnyH_take (i := 25) (oi := { dst := some 81, op := Op.load 75 (Operand.tmp 80), type := 75, pos := "outright.go:181", after := #[{ on := 24, ground := Ground.data }, { on := 15, ground := Ground.guard }], guard := some (15, false) }) (v := .agg rs.toArray) rfl (by kernel_rfl) (by kernel_rfl) (by kernel_rfl) (fun _ _ _ h => h) (yieldsIf_load_mid (by rfl) _ _ rfl _ _ rfl _ _ (fun u h => h.2.2.2) Tryd.underlying75 rfl er.out) (by first | assumption | trivial) ?_
        try simp only [Act.put, List.setIfInBounds_toArray, List.set_cons_zero, List.set_cons_succ]
        refine wpAnyH_take (i := 26) (oi := { dst := some 82, op := Op.binOp BinOp.neq 75 (Operand.tmp 76) (Operand.tmp 81) 75, type := 4, pos := "outright.go:181", after := #[{ on := 20, ground := Ground.data }, { on := 25, ground := Ground.data }, { on := 15, ground := Ground.guard }], guard := some (15, false) }) (v := .bool false) rfl (by kernel_rfl) (by kernel_rfl) (by kernel_rfl) (fun _ _ _ h => h) (Or.inl ⟨by rfl, fun u h => by obtain ⟨h1, h2, h3, h4⟩ := h; go_simp⟩) (by first | assumption | trivial) ?_
        try simp only [Act.put, List.setIfInBounds_toArray, List.set_cons_zero, List.set_cons_succ]
        refine wpAnyH_take (i := 27) (oi := { dst := some 83, op := Op.pick (Operand.tmp 71) (Operand.const (Value.bool true)) (Operand.tmp 82), type := 4, pos := "outright.go:181", after := #[{ on := 15, ground := Ground.data }, { on := 26, ground := Ground.data }, { on := 2, ground := Ground.guard }], guard := some (2, true) }) (v := .bool false) rfl (by kernel_rfl) (by kernel_rfl) (by kernel_rfl) (fun _ _ _ h => h) (Or.inl ⟨by rfl, fun u h => by obtain ⟨h1, h2, h3, h4⟩ := h; go_simp⟩) (by first | assumption | trivial) ?_
        try simp only [Act.put, List.setIfInBounds_toArray, List.set_cons_zero, List.set_cons_succ]
        refine wpAnyH_take (i := 28) (oi := { dst := some 84, op := Op.pick (Operand.tmp 58) (Operand.tmp 83) (Operand.const (Value.bool false)), type := 4, pos := "outright.go:181", after := #[{ on := 2, ground := Ground.data }, { on := 27, ground := Ground.data }], guard := none }) (v := .bool false) rfl (by kernel_rfl) (by kernel_rfl) (by kernel_rfl) (fun _ _ _ h => h) (Or.inl ⟨by rfl, fun u h => by obtain ⟨h1, h2, h3, h4⟩ := h; go_simp⟩) (by first | assumption | trivial) ?_
        try simp only [Act.put, List.setIfInBounds_toArray, List.set_cons_zero, List.set_cons_succ]
        refine wpAnyH_done (by kernel_rfl) ?_ _
        go_wp2
        exact ⟨⟨k + 1, by omega, by go_num, below_drew Hb.out⟩, by simp [intOf]; omega⟩
    · obtain rfl : k = 4 := by omega
      go_wp2
      go_ret
      exact ⟨rfl, below_then HB2.out.1 Hb.out HB2.out.1.size⟩
end Go.Proofs.YtcgabodkegcpgaaDoor
