/- The reference's State tells the kernel's cells. -/
import Derived.Test.YtcgabodkegcpgaaGreatDoorSap
import Derived.Test.YtcgabodkegcpgaaGreatDoorRf6
namespace Go.Proofs.YtcgabodkegcpgaaGreatDoor
open Go.RowKit
set_option linter.unusedVariables false
set_option linter.unusedSimpArgs false
attribute [local go_sem ↓] Go.wp_at_zero Go.wp_at_succ

theorem cutF (K : Ker) (k : Nat) : cut (stX K 0) (k * 6) 6 = [.int .i64 (K.F k 0), .int .i64 (K.F k 1), .int .i64 (K.F k 2), .int .i64 (K.F k 3), .int .i64 (K.F k 4), .int .i64 (K.F k 5)] := by
  have h : ∀ j, j < 6 → fCell K (k * 6 + j) = .int .i64 (K.F k j) := fun j hj => by
    unfold fCell; rw [show (k * 6 + j) / 6 = k by omega, show (k * 6 + j) % 6 = j by omega]
  show [fCell K (k * 6 + 0), fCell K (k * 6 + 1), fCell K (k * 6 + 2), fCell K (k * 6 + 3), fCell K (k * 6 + 4), fCell K (k * 6 + 5)] = _
  rw [h 0 (by omega), h 1 (by omega), h 2 (by omega), h 3 (by omega), h 4 (by omega), h 5 (by omega)]
theorem cutD (K : Ker) (k : Nat) : cut (stX K 2) (k * 5) 5 = [.int .i64 (K.D k 0), .int .i64 (K.D k 1), .int .i64 (K.D k 2), .int .i64 (K.D k 3), .int .i64 (K.D k 4)] := by
  have h : ∀ j, j < 5 → dCell K (k * 5 + j) = .int .i64 (K.D k j) := fun j hj => by
    unfold dCell; rw [show (k * 5 + j) / 5 = k by omega, show (k * 5 + j) % 5 = j by omega]
  show [dCell K (k * 5 + 0), dCell K (k * 5 + 1), dCell K (k * 5 + 2), dCell K (k * 5 + 3), dCell K (k * 5 + 4)] = _
  rw [h 0 (by omega), h 1 (by omega), h 2 (by omega), h 3 (by omega), h 4 (by omega)]
theorem laid_two (w : World) (o : Obj) (C : List Value) (t : TypeId) (j : Nat) (u : Value) (hu : C[j]? = some u) : ((w.alloc o).alloc (.cells C.toArray t)).cell? ((⟨w.heap.size + 1, 0, none⟩ : Addr).add j) = some u := by
  have := laid_news (w := w.alloc o) (t := t) j u hu
  rwa [show (w.alloc o).heap.size = w.heap.size + 1 by simp] at this
theorem countTo_none {f : Nat → Bool} : ∀ n, (∀ j, j < n → f j = false) → countTo f n = 0
  | 0, _ => rfl
  | n + 1, h => by
    show countTo f n + (if f n then 1 else 0) = 0
    rw [countTo_none n (fun j hj => h j (by omega)), h n (by omega)]; rfl
theorem ends_off {K : Ker} (G : Good K) {d : Nat} (hd : d < K.nD) (h : K.D d 0 < 0) {b : Bool} : K.ends d b = 0 := by
  refine countTo_none _ fun j hj => ?_
  unfold Ker.isEnd
  have hg := G.file (j / 4) (j % 4) (by omega) (by omega)
  by_cases e : K.file (j / 4) (j % 4) = d
  · exfalso
    rw [e, Int.toNat_natCast] at hg
    omega
  · simp [e]
theorem kind_in {K : Ker} (O : Own K) {f : Nat} (hf : f < K.nF) : K.F f 0 = 0 ∨ K.F f 0 = 1 ∨ K.F f 0 = 2 ∨ K.F f 0 = 3 := by
  by_cases h : K.F f 0 = 0
  · exact Or.inl h
  · obtain ⟨x, hx, hl⟩ := O.all f hf h
    have := (O.what x hx f hl).1
    cases x <;> simp [Place.kind] at this <;> omega
def slot0 (a b c d : Int) : List Value := [.int .i64 a, .int .i64 b, .int .i64 c, .int .i64 0, .bool false, .int .i64 0, .bool false, .int .i64 0, .bool false, .int .i64 0, .bool false, .int .i64 0, .bool false, .int .i64 0, .bool false, .int .i64 0, .bool false, .int .i64 0, .bool false, .int .i64 d]
theorem slot0_size (a b c d : Int) : (slot0 a b c d).toArray.size = 20 := rfl
theorem slot0_info (a b c d : Int) : (Tryz.prog.info? 82).map (·.size) = some (slot0 a b c d).toArray.size := by rw [slot0_size]; kernel_rfl
theorem slot0_one (a b c d : Int) : (slot0 a b c d).toArray.all (·.oneCell') = true := by simp [slot0, Value.oneCell']
/-- A process that is being told: the first m pages and files stand. -/
def slotTo (K : Ker) (i m c : Nat) : Value :=
  if (3 + m * 2 ≤ c ∧ c < 11) ∨ (11 + m * 2 ≤ c ∧ c < 19) then (if c % 2 = 0 then .bool false else .int .i64 0) else sCell K (i * 20 + c)
theorem sCell_S (K : Ker) (i c : Nat) (hc : c < 20) (h : ¬ (4 ≤ c ∧ c ≤ 18 ∧ c % 2 = 0)) : sCell K (i * 20 + c) = .int .i64 (K.S i c) := by
  unfold sCell
  rw [show (i * 20 + c) / 20 = i by omega, show (i * 20 + c) % 20 = c by omega, if_neg h]
theorem sCell_B (K : Ker) (i c : Nat) (hc : c < 20) (h : 4 ≤ c ∧ c ≤ 18 ∧ c % 2 = 0) : sCell K (i * 20 + c) = .bool (K.B i c) := by
  unfold sCell
  rw [show (i * 20 + c) / 20 = i by omega, show (i * 20 + c) % 20 = c by omega, if_pos h]
theorem slotTo_next (K : Ker) (i m j : Nat) (hm : m < 4) (hj : j < 20) : slotTo K i (m + 1) j = if j = 3 + m * 2 then .int .i64 (K.page i m) else if j = 3 + m * 2 + 1 then .bool (K.wr i m) else if j = 11 + m * 2 then .int .i64 (K.file i m) else if j = 11 + m * 2 + 1 then .bool (K.end i m) else slotTo K i m j := by
  by_cases h1 : j = 3 + m * 2
  · rw [if_pos h1]; unfold slotTo; rw [if_neg (by omega), sCell_S K i j hj (by omega), h1]; rfl
  rw [if_neg h1]
  by_cases h2 : j = 3 + m * 2 + 1
  · rw [if_pos h2]; unfold slotTo; rw [if_neg (by omega), sCell_B K i j hj (by omega), h2, show 3 + m * 2 + 1 = 4 + m * 2 by omega]; rfl
  rw [if_neg h2]
  by_cases h3 : j = 11 + m * 2
  · rw [if_pos h3]; unfold slotTo; rw [if_neg (by omega), sCell_S K i j hj (by omega), h3]; rfl
  rw [if_neg h3]
  by_cases h4 : j = 11 + m * 2 + 1
  · rw [if_pos h4]; unfold slotTo; rw [if_neg (by omega), sCell_B K i j hj (by omega), h4, show 11 + m * 2 + 1 = 12 + m * 2 by omega]; rfl
  rw [if_neg h4]
  unfold slotTo
  by_cases h5 : (3 + m * 2 ≤ j ∧ j < 11) ∨ (11 + m * 2 ≤ j ∧ j < 19)
  · rw [if_pos h5, if_pos (by omega)]
  · rw [if_neg h5, if_neg (by omega)]
theorem slotTo_zero (K : Ker) (i m j : Nat) (hm : m < 4) (h : j = 3 + m * 2 + 1 ∨ j = 11 + m * 2 + 1) : slotTo K i m j = .bool false := by
  unfold slotTo; rw [if_pos (by omega), if_pos (by omega)]
theorem slotTo_end (K : Ker) (i j : Nat) : slotTo K i 4 j = sCell K (i * 20 + j) := by unfold slotTo; rw [if_neg (by omega)]
structure InS (w w' : World) (r : Rk) (i : Nat) (f : Nat → Value) : Prop where
  bel : Below w.heap.size w w'
  size : w'.heap.size = w.heap.size + 2
  p : w'.rowIs w.heap.size 107 12 (fun c => .int .i64 (r.P i c))
  x : w'.rowIs (w.heap.size + 1) 82 20 f
theorem InS.set {w w' : World} {r : Rk} {i : Nat} {f : Nat → Value} (h : InS w w' r i f) (c : Nat) (u : Value) : InS w (w'.setCell ⟨w.heap.size + 1, c, none⟩ u) r i (fun j => if j = c then u else f j) :=
  ⟨h.bel.setCell (by show w.heap.size ≤ w.heap.size + 1; omega) u, by rw [size_setCell]; exact h.size, h.p.setOther (by show w.heap.size ≠ w.heap.size + 1; omega) u, h.x.set c u⟩
theorem InS.congr {w w' : World} {r : Rk} {i : Nat} {f g : Nat → Value} (h : InS w w' r i f) (e : ∀ j, j < 20 → f j = g j) : InS w w' r i g := ⟨h.bel, h.size, h.p, h.x.congr e⟩
theorem page_num {K : Ker} {r : Rk} (G : Good K) (U : Rel K r) {i m : Nat} (hi : i < K.nS) (hm : m < 4) (hF : K.nF ≤ 32) :
    ∃ v, r.P i (4 + m) = v ∧ ((v = 0 ∧ K.page i m = -1 ∧ K.wr i m = false) ∨ ∃ n : Nat, 0 < v ∧ v < 100 ∧ (v - 1).tdiv 2 = n ∧ n < 32 ∧ K.page i m = n ∧ (v % 2 == 0) = K.wr i m) := by
  refine ⟨_, rfl, ?_⟩
  have hv := U.page hi hm
  rw [hv]
  rcases G.page i m hi hm with h | ⟨h1, h2⟩
  · left
    refine ⟨by rw [h, encP_none], h, ?_⟩
    cases hw : K.wr i m with
    | false => rfl
    | true => exact absurd h (G.wr i m hi hm hw)
  · right
    obtain ⟨n, hn⟩ : ∃ n : Nat, K.page i m = n := ⟨(K.page i m).toNat, by omega⟩
    rw [hn, encP_some]
    refine ⟨n, by split <;> omega, by split <;> omega, half_enc n _, by omega, rfl, ?_⟩
    cases K.wr i m
    · simp
    · simp
theorem file_num {K : Ker} {r : Rk} (G : Good K) (N : Neat K) (U : Rel K r) {i m : Nat} (hi : i < K.nS) (hm : m < 4) (hD : K.nD ≤ 4) :
    ∃ v, r.P i (8 + m) = v ∧ ((v = 0 ∧ K.file i m = -1 ∧ K.end i m = false) ∨ ∃ n : Nat, 0 < v ∧ v < 100 ∧ (v - 1).tdiv 2 = n ∧ n < 32 ∧ K.file i m = n ∧ (v % 2 == 0) = K.end i m) := by
  refine ⟨_, rfl, ?_⟩
  have hv := U.file hi hm
  rw [hv]
  rcases G.file i m hi hm with h | ⟨h1, h2, _⟩
  · left
    exact ⟨by rw [h, encP_none], h, N.fil i m hm h⟩
  · right
    obtain ⟨n, hn⟩ : ∃ n : Nat, K.file i m = n := ⟨(K.file i m).toNat, by omega⟩
    rw [hn, encP_some]
    refine ⟨n, by split <;> omega, by split <;> omega, half_enc n _, by omega, rfl, ?_⟩
    cases K.end i m
    · simp
    · simp
theorem ins_start {K : Ker} {w w1 : World} {r : Rk} {i : Nat} {C : Array Value} (h1 : w1.rowIs w.heap.size 107 12 (fun c => .int .i64 (r.P i c))) (h2 : Below w.heap.size w w1) (h3 : w1.heap.size = w.heap.size + 1) (U : Rel K r) (hi : i < K.nS) (hC : C.size = 20) :
    InS w ((w1.alloc (.cells C 82)).setCells w1.heap.size 0 (slot0 (r.P i 0) (r.P i 1) (r.P i 2) (r.P i 3)).toArray.toList) r i (slotTo K i 0) := by
  obtain ⟨a, b, c⟩ := new_stored w1 C 82 (slot0 (r.P i 0) (r.P i 1) (r.P i 2) (r.P i 3)) 20 hC rfl (slotTo K i 0) (fun j hj => by
    have hS : ∀ c, c < 3 ∨ c = 19 → slotTo K i 0 c = .int .i64 (K.S i c) := fun c hc => by unfold slotTo; rw [if_neg (by omega), sCell_S K i c (by omega) (by omega)]
    have hZ : ∀ c, 3 ≤ c → c < 19 → slotTo K i 0 c = if c % 2 = 0 then .bool false else .int .i64 0 := fun c h h' => by unfold slotTo; rw [if_pos (by omega)]
    rw [U.kind hi, U.parent hi, U.table hi, U.code hi]
    obtain rfl | rfl | rfl | rfl | ⟨h3, h19⟩ : j = 0 ∨ j = 1 ∨ j = 2 ∨ j = 19 ∨ (3 ≤ j ∧ j < 19) := by omega
    · rw [hS 0 (by omega)]; rfl
    · rw [hS 1 (by omega)]; rfl
    · rw [hS 2 (by omega)]; rfl
    · rw [hS 19 (by omega)]; rfl
    · rw [hZ j h3 h19]
      obtain rfl | rfl | rfl | rfl | rfl | rfl | rfl | rfl | rfl | rfl | rfl | rfl | rfl | rfl | rfl | rfl : j = 3 ∨ j = 4 ∨ j = 5 ∨ j = 6 ∨ j = 7 ∨ j = 8 ∨ j = 9 ∨ j = 10 ∨ j = 11 ∨ j = 12 ∨ j = 13 ∨ j = 14 ∨ j = 15 ∨ j = 16 ∨ j = 17 ∨ j = 18 := by omega
      all_goals rfl)
  exact ⟨below_then h2 b h2.size, by omega, h1.of_block (b.block _ (by omega)), by rw [h3] at a ⊢; exact a⟩
theorem st_info3 : (Tryz.prog.info? 109).map (·.size) = some 3 := by kernel_rfl
theorem st_one3 (a b c : Option Addr) (n m o x y z : Nat) : (#[.slice a n x, .slice b m y, .slice c o z] : Array Value).all (·.oneCell') = true := by simp [Value.oneCell']
/-- told_app, what it is held against first: so an arm that does not fit falls at once. -/
theorem told_at {K : Ker} {w w' w1 : World} {V : Nat → Value} {n : Nat → Nat} {c : Nat} {ops : Array Oper} {rest : List Oper} {o : Oper} {a : Go.Act} {Q : Exit → Go.Act → World → Prop} (hgd : o.guard = none) (s x : Operand)
    (ho : o.op = .call { callee := .builtin .append, args := #[s, x], argTypes := #[stSl c, stSl c] }) (T : Told K w w' V n) (b1 : Below w'.heap.size w' w1) (hc : c < 3) (hn : n c ≤ 32) (ad : Addr) (cp : Nat) (news : List Value) (hnew : news = cut (stX K c) (n c * stZ c) (stZ c)) (hcell : ∀ j u, news[j]? = some u → w1.cell? (ad.add j) = some u)
    (hs : a.eval s = V c) (hx : a.eval x = .slice (some ad) 1 cp)
    (hk : ∀ g cap w2, Told K w (w2.setCell ⟨w.heap.size + 1, c, none⟩ (.slice (some ⟨g, 0, none⟩) (n c + 1) cap)) (up V c (.slice (some ⟨g, 0, none⟩) (n c + 1) cap)) (up n c (n c + 1)) → w2.cell? ⟨w.heap.size + 1, c, none⟩ = some (V c) → w2.frozen? ⟨w.heap.size + 1, c, none⟩ = false → wpList Tryz.prog ops Q rest (a.put o.dst (.slice (some ⟨g, 0, none⟩) (n c + 1) cap)) w2) :
    wpList Tryz.prog ops Q (o :: rest) a w1 := told_app T b1 hc hn ad cp news hnew hcell hgd s x ho hs hx hk
def n1 (k : Nat) (c : Nat) : Nat := if c = 0 then k else 0
def n2 (f k : Nat) (c : Nat) : Nat := if c = 0 then f else if c = 1 then k else 0
def n3 (f s k : Nat) (c : Nat) : Nat := if c = 0 then f else if c = 1 then s else k
theorem n1_up (k c : Nat) : n1 (k + 1) c = up (n1 k) 0 (n1 k 0 + 1) c := by unfold n1 up; split <;> simp_all
theorem n2_up (f k c : Nat) : n2 f (k + 1) c = up (n2 f k) 1 (n2 f k 1 + 1) c := by unfold n2 up; split <;> simp_all
theorem n3_up (f s k c : Nat) (h : c < 3) : n3 f s (k + 1) c = up (n3 f s k) 2 (n3 f s k 2 + 1) c := by
  obtain rfl | rfl | rfl : c = 0 ∨ c = 1 ∨ c = 2 := by omega
  all_goals rfl
section
variable {w : World} {B : RB} {r : Rk} {K : Ker}
theorem Told.mem {V : Nat → Value} {n : Nat → Nat} {w' : World} (T : Told K w w' V n) (M : RMem w B r) : RMem w' B r := M.same T.bel.size (fun j hj _ => T.bel.block j hj)
set_option maxRecDepth 100000 in
set_option maxHeartbeats 40000000 in
theorem rstate_rep (M : RMem w B r) (U : Rel K r) (O : Own K) (N : Neat K) (G : Good K) (I : Inv K) :
    Calls Tryz.prog 45 #[.pointer (some ⟨B.b, 0, none⟩)] w fun e w' => ∃ (bo : Nat → Option Addr) (g cb : Nat → Nat), e = .returned (tellVal K bo cb) ∧ Tell w' K bo g ∧ Below w.heap.size w w' ∧ ∀ c, c < 3 → 0 < stN K c → w.heap.size ≤ g c := by
  have HM : Hid (RMem w B r) := M
  have HU : Hid (Rel K r) := U
  have HB : Hid (r.nF = K.nF ∧ r.nS = K.nS ∧ r.nD = K.nD) := ⟨U.f, U.s, U.d⟩
  have hF : r.nF ≤ 32 := M.hF
  have hS : r.nS ≤ 6 := M.hS
  have hD : r.nD ≤ 4 := M.hD
  clear M U
  go_enter Tryz.func45, Tryz.ntmps45
  go_wp2
  go_loopw [4] (fun i w' => ∃ (k : Nat) (V : Nat → Value), k ≤ r.nF ∧ i = .int .i64 k ∧ Told K w w' V (n1 k)) (fun i _ => r.nF - (intOf i).toNat)
  case atStart => exact ⟨0, _, by omega, rfl, (Told.start K w).ncong fun c hc => by unfold n1; split <;> rfl⟩
  case round =>
    obtain ⟨k, V, hk, rfl, t1⟩ := hrel
    have HT : Hid (Told K w wr V (n1 k)) := t1
    have HR : Hid (RMem wr B r) := t1.mem HM.out
    have k0 := HR.out.k0
    clear t1
    by_cases hlt : k < r.nF
    · have hkF : k < K.nF := by have := HB.out; omega
      -- A(
      go_wp2_with fail
      refine (user_rep HR.out HU.out O N G hkF).mono ?_
      rintro e w1 ⟨rfl, rfl⟩
      have s0 : ∀ o o', ((w1.alloc o).alloc o').cell? ⟨w.heap.size + 1, 0, none⟩ = some (V 0) := fun o o' => ((HT.out.lists.alloc o).alloc o').cell (by show 0 < 3; omega)
      have s1 : ∀ o, (w1.alloc o).cell? ⟨w.heap.size + 1, 0, none⟩ = some (V 0) := fun o => (HT.out.lists.alloc o).cell (by show 0 < 3; omega)
      have kk : ∀ o, (w1.alloc o).cell? ⟨B.b, 0, none⟩ = some (.slice (some ⟨B.bw, 0, none⟩) r.nF B.cw) := fun o => (HR.out.alloc o).k0
      have HW : Hid (K.F k 0 = 2 ∨ K.F k 0 = 3 → ∀ j, j < 4 → r.W k j = K.F k (2 + j)) := fun h j hj => HU.out.w k j hkF hj h
      have HZ : Hid (¬ (K.F k 0 = 2 ∨ K.F k 0 = 3) → ∀ j, j < 4 → K.F k (2 + j) = 0) := fun h j hj => N.zer k (by have := kind_in O hkF; omega) j hj
      obtain ⟨kd, ek⟩ : ∃ x, K.F k 0 = x := ⟨_, rfl⟩
      obtain ⟨ow, eo⟩ : ∃ x, K.F k 1 = x := ⟨_, rfl⟩
      rw [ek, eo]
      have EK : Hid (K.F k 0 = kd ∧ K.F k 1 = ow) := ⟨ek, eo⟩
      clear ek eo
      by_cases hkd : kd = 2 ∨ kd = 3
      · obtain ⟨x0, y0⟩ : ∃ x, r.W k 0 = x := ⟨_, rfl⟩
        obtain ⟨x1, y1⟩ : ∃ x, r.W k 1 = x := ⟨_, rfl⟩
        obtain ⟨x2, y2⟩ : ∃ x, r.W k 2 = x := ⟨_, rfl⟩
        obtain ⟨x3, y3⟩ : ∃ x, r.W k 3 = x := ⟨_, rfl⟩
        have c0 : ∀ o, (w1.alloc o).cell? ⟨B.bw, k * 4, none⟩ = some (.int .i64 x0) := fun o => by have := (HR.out.alloc o).wd k 0 hlt (by omega); rw [y0] at this; exact this
        have c1 : ∀ o, (w1.alloc o).cell? ⟨B.bw, k * 4 + 1, none⟩ = some (.int .i64 x1) := fun o => by have := (HR.out.alloc o).wd k 1 hlt (by omega); rw [y1] at this; exact this
        have c2 : ∀ o, (w1.alloc o).cell? ⟨B.bw, k * 4 + 2, none⟩ = some (.int .i64 x2) := fun o => by have := (HR.out.alloc o).wd k 2 hlt (by omega); rw [y2] at this; exact this
        have c3 : ∀ o, (w1.alloc o).cell? ⟨B.bw, k * 4 + 3, none⟩ = some (.int .i64 x3) := fun o => by have := (HR.out.alloc o).wd k 3 hlt (by omega); rw [y3] at this; exact this
        have HC : Hid ([.int .i64 kd, .int .i64 ow, .int .i64 x0, .int .i64 x1, .int .i64 x2, .int .i64 x3] = cut (stX K 0) (n1 k 0 * stZ 0) (stZ 0)) := by
          have hz := HW.out (by rw [EK.out.1]; exact hkd)
          show _ = cut (stX K 0) (k * 6) 6
          rw [cutF, EK.out.1, EK.out.2, ← y0, ← y1, ← y2, ← y3, hz 0 (by omega), hz 1 (by omega), hz 2 (by omega), hz 3 (by omega)]
        have j1 : (0 : Int) ≤ (k : Int) := by omega
        have j2 : (k : Int) < (r.nF : Int) := by omega
        clear y0 y1 y2 y3
        rcases hkd with rfl | rfl
        all_goals go_wp2_with (refine told_at (c := 0) rfl _ _ rfl HT.out (((Below.refl _ _).alloc (Nat.le_refl _) _).alloc (by simp) _) (by omega) (by show k ≤ 32; omega) ⟨w1.heap.size + 1, 0, none⟩ 1 _ HC.out (laid_two _ _ _ _) rfl rfl ?_; intro g cap w2 t2 c2 z2; have H2 : Hid _ := t2; clear t2)
        all_goals exact ⟨⟨k + 1, _, by omega, by go_num, H2.out.ncong fun c hc => n1_up k c⟩, by simp [intOf]; omega⟩
      · have e2 : (kd == 2) = false := by simp; omega
        have e3 : (kd == 3) = false := by simp; omega
        have HC : Hid ([.int .i64 kd, .int .i64 ow, .int .i64 0, .int .i64 0, .int .i64 0, .int .i64 0] = cut (stX K 0) (n1 k 0 * stZ 0) (stZ 0)) := by
          have hz := HZ.out (by rw [EK.out.1]; exact hkd)
          show _ = cut (stX K 0) (k * 6) 6
          rw [cutF, EK.out.1, EK.out.2, hz 0 (by omega), hz 1 (by omega), hz 2 (by omega), hz 3 (by omega)]
        clear hkd
        go_wp2_with (refine told_at (c := 0) rfl _ _ rfl HT.out (((Below.refl _ _).alloc (Nat.le_refl _) _).alloc (by simp) _) (by omega) (by show k ≤ 32; omega) ⟨w1.heap.size + 1, 0, none⟩ 1 _ HC.out (laid_two _ _ _ _) rfl rfl ?_; intro g cap w2 t2 c2 z2; have H2 : Hid _ := t2; clear t2)
        exact ⟨⟨k + 1, _, by omega, by go_num, H2.out.ncong fun c hc => n1_up k c⟩, by simp [intOf]; omega⟩
      -- )A
    · obtain rfl : k = r.nF := by omega
      have T2 : Hid (Told K w wr V (n2 r.nF 0)) := HT.out.ncong fun c hc => by unfold n2 n1; split <;> simp
      clear HT
      go_wp2
      clear k0
      go_loopw [8] (fun i w' => ∃ (k : Nat) (V : Nat → Value), k ≤ r.nS ∧ i = .int .i64 k ∧ Told K w w' V (n2 r.nF k)) (fun i _ => r.nS - (intOf i).toNat)
      case atStart => exact ⟨0, _, by omega, rfl, T2.out⟩
      case round =>
        clear HR T2
        obtain ⟨i, V, hi, rfl, t1⟩ := hrel
        have HT : Hid (Told K w wr V (n2 r.nF i)) := t1
        have HR : Hid (RMem wr B r) := t1.mem HM.out
        have k1 := HR.out.k1
        clear t1
        by_cases hlt : i < r.nS
        · have hiS : i < K.nS := by have := HB.out; omega
          have j1 : (0 : Int) ≤ (i : Int) := by omega
          have j2 : (i : Int) < (r.nS : Int) := by omega
          obtain ⟨ps, eps⟩ : ∃ ps, ps = (List.range 12).map (fun c => Value.int .i64 (r.P i c)) := ⟨_, rfl⟩
          have LP : Hid (wr.rangeAt B.bp (i * 12) ps) := fun j v hv => by
            rw [eps] at hv
            have hj : j < 12 := by have := (List.getElem?_eq_some_iff.1 hv).1; simpa using this
            rw [List.getElem?_map, List.getElem?_range hj] at hv
            rw [HR.out.pr i j hlt hj]
            exact hv
          have e12 : Hid (ps.length = 12) := by unfold Hid; rw [eps]; simp
          have ei : Hid ((Tryz.prog.info? 107).map (·.size) = some ps.length) := by unfold Hid; rw [e12.out]; kernel_rfl
          have ei2 : Hid ((Tryz.prog.info? 107).map (·.size) = some ps.toArray.size) := by unfold Hid; rw [List.size_toArray]; exact ei.out
          have q1 : Hid (ps.toArray.all (·.oneCell') = true) := all_oneCell_toArray fun v hv => by rw [eps, List.mem_map] at hv; obtain ⟨j, _, rfl⟩ := hv; rfl
          have z1 : Hid (ps.toArray.size = 12) := by unfold Hid; rw [List.size_toArray]; exact e12.out
          have EPS : Hid (ps = (List.range 12).map (fun c => Value.int .i64 (r.P i c))) := eps
          clear eps
          go_wp2_with (first | (refine wpList_load_mid rfl 107 _ rfl B.bp (i * 12) rfl ps _ LP.out Tryz.underlying107 rfl ei.out ?_) | (refine wpList_store_world rfl 107 _ _ rfl wr.heap.size 0 ps.toArray rfl rfl (by rw [z1.out]; exact there_newm _ _ _ _ (by rfl)) ei2.out q1.out ?_; intro W1 eW1; have F1 : Hid (W1.rowIs wr.heap.size 107 12 (fun c => .int .i64 (r.P i c)) ∧ Below wr.heap.size wr W1 ∧ W1.heap.size = wr.heap.size + 1) := (by unfold Hid; rw [eW1]; exact new_stored _ _ _ ps 12 rfl e12.out _ (fun j hj => by rw [EPS.out, List.getElem?_map, List.getElem?_range hj]; rfl)); clear eW1; have p0 : W1.cell? ⟨wr.heap.size, 0, none⟩ = some (.int .i64 (r.P i 0)) := F1.out.1.cell (i := 0) (by omega); have p1 : W1.cell? ⟨wr.heap.size, 1, none⟩ = some (.int .i64 (r.P i 1)) := F1.out.1.cell (i := 1) (by omega); have p2 : W1.cell? ⟨wr.heap.size, 2, none⟩ = some (.int .i64 (r.P i 2)) := F1.out.1.cell (i := 2) (by omega); have p3 : W1.cell? ⟨wr.heap.size, 3, none⟩ = some (.int .i64 (r.P i 3)) := F1.out.1.cell (i := 3) (by omega)) | (refine wpList_store_world rfl 82 _ _ rfl W1.heap.size 0 (slot0 (r.P i 0) (r.P i 1) (r.P i 2) (r.P i 3)).toArray rfl rfl (by rw [slot0_size]; exact there_newm _ _ _ _ (by rfl)) (slot0_info _ _ _ _) (slot0_one _ _ _ _) ?_; intro W2 eW2; have F2 : Hid (InS wr W2 r i (slotTo K i 0)) := (by unfold Hid; rw [eW2]; exact ins_start F1.out.1 F1.out.2.1 F1.out.2.2 HU.out hiS rfl); clear eW2))
          rw [F1.out.2.2]
          obtain ⟨wo, rfl⟩ : ∃ x, x = wr := ⟨wr, rfl⟩
          clear p0 p1 p2 p3 F1 LP ei ei2 q1 z1 EPS e12
          go_loopw [11] (fun j w' => ∃ m : Nat, m ≤ 4 ∧ j = .int .i64 m ∧ InS wo w' r i (slotTo K i m)) (fun j _ => 4 - (intOf j).toNat)
          case atStart => exact ⟨0, by omega, rfl, F2.out⟩
          case round =>
            obtain ⟨m, hm, rfl, s1⟩ := hrel
            have HS : Hid (InS wo wr r i (slotTo K i m)) := s1
            clear s1 F2
            by_cases hm4 : m < 4
            · have b1 : (0 : Int) ≤ (m : Int) := by omega
              have b2 : (m : Int) < 4 := by omega
              -- B(
              have x1 : wr.cell? ⟨wo.heap.size + 1, 3 + m * 2, none⟩ = some (slotTo K i m (3 + m * 2)) := HS.out.x.cell (by omega)
              have x2 : wr.cell? ⟨wo.heap.size + 1, 3 + m * 2 + 1, none⟩ = some (slotTo K i m (3 + m * 2 + 1)) := HS.out.x.cell (by omega)
              have x3 : wr.cell? ⟨wo.heap.size + 1, 11 + m * 2, none⟩ = some (slotTo K i m (11 + m * 2)) := HS.out.x.cell (by omega)
              have x4 : wr.cell? ⟨wo.heap.size + 1, 11 + m * 2 + 1, none⟩ = some (slotTo K i m (11 + m * 2 + 1)) := HS.out.x.cell (by omega)
              have zx : ∀ o, wr.frozen? ⟨wo.heap.size + 1, o, none⟩ = false := fun o => HS.out.x.frozen o
              have y1 : wr.cell? ⟨wo.heap.size, 4 + m, none⟩ = some (.int .i64 (r.P i (4 + m))) := HS.out.p.cell (by omega)
              have y2 : wr.cell? ⟨wo.heap.size, 8 + m, none⟩ = some (.int .i64 (r.P i (8 + m))) := HS.out.p.cell (by omega)
              have HN : Hid (∀ j, j < 20 → slotTo K i (m + 1) j = _) := fun j hj => slotTo_next K i m j hm4 hj
              have HZ : Hid (∀ j, j = 3 + m * 2 + 1 ∨ j = 11 + m * 2 + 1 → slotTo K i m j = .bool false) := fun j hj => slotTo_zero K i m j hm4 hj
              obtain ⟨v, ev, hv⟩ := page_num G HU.out hiS hm4 (by have := HB.out; omega)
              obtain ⟨u, eu, hu⟩ := file_num G N HU.out hiS hm4 (by have := HB.out; omega)
              rw [ev] at y1
              rw [eu] at y2
              clear ev eu
              generalize slotTo K i m (3 + m * 2) = z1 at *
              generalize slotTo K i m (3 + m * 2 + 1) = z2 at *
              generalize slotTo K i m (11 + m * 2) = z3 at *
              generalize slotTo K i m (11 + m * 2 + 1) = z4 at *
              rcases hv with ⟨rfl, hv1, hv2⟩ | ⟨n, hv0, hv1, hv2, hv3, hv4, hv5⟩
              · rcases hu with ⟨rfl, hu1, hu2⟩ | ⟨n', hu0, hu1, hu2, hu3, hu4, hu5⟩
                · have HE : Hid (K.page i m = -1 ∧ K.wr i m = false ∧ K.file i m = -1 ∧ K.end i m = false) := ⟨hv1, hv2, hu1, hu2⟩
                  clear hv1 hv2 hu1 hu2
                  go_wp2
                  exact ⟨⟨m + 1, by omega, by go_num, ((HS.out.set _ _).set _ _).congr fun j hj => by (rw [HN.out j hj, HE.out.1, HE.out.2.1, HE.out.2.2.1, HE.out.2.2.2]; repeat' split) <;> first | rfl | (exfalso; omega) | exact HZ.out j (by omega)⟩, by simp [intOf]; omega⟩
                · have HE : Hid (K.page i m = -1 ∧ K.wr i m = false ∧ K.file i m = n' ∧ (u % 2 == 0) = K.end i m) := ⟨hv1, hv2, hu4, hu5⟩
                  clear hv1 hv2 hu4 hu5
                  go_wp2
                  exact ⟨⟨m + 1, by omega, by go_num, ((((HS.out.set _ _).set _ _).set _ _).set _ _).congr fun j hj => by (rw [HN.out j hj, HE.out.1, HE.out.2.1, HE.out.2.2.1, ← HE.out.2.2.2]; repeat' split) <;> first | rfl | (exfalso; omega) | exact HZ.out j (by omega)⟩, by simp [intOf]; omega⟩
              · rcases hu with ⟨rfl, hu1, hu2⟩ | ⟨n', hu0, hu1, hu2, hu3, hu4, hu5⟩
                · have HE : Hid (K.page i m = n ∧ (v % 2 == 0) = K.wr i m ∧ K.file i m = -1 ∧ K.end i m = false) := ⟨hv4, hv5, hu1, hu2⟩
                  clear hv4 hv5 hu1 hu2
                  go_wp2
                  exact ⟨⟨m + 1, by omega, by go_num, ((((HS.out.set _ _).set _ _).set _ _).set _ _).congr fun j hj => by (rw [HN.out j hj, HE.out.1, ← HE.out.2.1, HE.out.2.2.1, HE.out.2.2.2]; repeat' split) <;> first | rfl | (exfalso; omega) | exact HZ.out j (by omega)⟩, by simp [intOf]; omega⟩
                · have HE : Hid (K.page i m = n ∧ (v % 2 == 0) = K.wr i m ∧ K.file i m = n' ∧ (u % 2 == 0) = K.end i m) := ⟨hv4, hv5, hu4, hu5⟩
                  clear hv4 hv5 hu4 hu5
                  go_wp2
                  exact ⟨⟨m + 1, by omega, by go_num, ((((((HS.out.set _ _).set _ _).set _ _).set _ _).set _ _).set _ _).congr fun j hj => by (rw [HN.out j hj, HE.out.1, ← HE.out.2.1, HE.out.2.2.1, ← HE.out.2.2.2]; repeat' split) <;> first | rfl | (exfalso; omega) | exact HZ.out j (by omega)⟩, by simp [intOf]; omega⟩
              -- )B
            · obtain rfl : m = 4 := by omega
              -- D(
              have HS4 : Hid (InS wo wr r i (fun j => sCell K (i * 20 + j))) := HS.out.congr fun j _ => slotTo_end K i j
              obtain ⟨cs, ecs⟩ : ∃ cs, cs = cut (sCell K) (i * 20) 20 := ⟨_, rfl⟩
              have LX : Hid (wr.rangeAt (wo.heap.size + 1) 0 cs) := by
                unfold Hid
                rw [ecs]
                have h := rowIs_range HS4.out.x (o := 0) (m := 20) (by omega)
                simpa [cut] using h
              have ez : Hid (cs.length = 20) := by unfold Hid; rw [ecs, cut_len]
              have ei : Hid ((Tryz.prog.info? 82).map (·.size) = some cs.length) := by unfold Hid; rw [ez.out]; kernel_rfl
              have HC : Hid (cs = cut (stX K 1) (n2 r.nF i 1 * stZ 1) (stZ 1)) := ecs
              have T3 : Hid (Told K w wr V (n2 r.nF i)) := HT.out.step HS.out.bel
              have s0 : wr.cell? ⟨w.heap.size + 1, 1, none⟩ = some (V 1) := T3.out.cell (by omega)
              have s1 : ∀ o, (wr.alloc o).cell? ⟨w.heap.size + 1, 1, none⟩ = some (V 1) := fun o => (T3.out.lists.alloc o).cell (by show 1 < 3; omega)
              obtain ⟨iS, zS, bS, _, u2, u3, u4, u5, u6, u7⟩ := stInfo 1 (by omega)
              have HI : Hid (Tryz.prog.info? 82 = some iS ∧ iS.zero = some zS ∧ iS.size = 20 ∧ zS.cells.size = 20) := ⟨u2, u3, u4, u6⟩
              clear u2 u3 u4 u5 u6 u7 ecs HS HS4
              go_wp2_with (first | (refine wpList_load_mid rfl 82 _ rfl (wo.heap.size + 1) 0 rfl cs _ LX.out Tryz.underlying82 rfl ei.out ?_) | (refine wpList_buildSlice_one rfl _ 72 82 rfl iS zS cs 20 rfl Tryz.underlying72 HI.out.1 HI.out.2.1 HI.out.2.2.1 ez.out HI.out.2.2.2 (by omega) (by omega) ?_) | (refine told_at (c := 1) rfl _ _ rfl T3.out ((Below.refl _ _).alloc (Nat.le_refl _) _) (by omega) (by show i ≤ 32; omega) ⟨wr.heap.size, 0, none⟩ 1 cs HC.out (fun j u hu => laid_news j u hu) rfl rfl ?_; intro g cap w2 t2 c2 z2; have H2 : Hid _ := t2; clear t2))
              exact ⟨⟨i + 1, _, by omega, by go_num, H2.out.ncong fun c hc => n2_up r.nF i c⟩, by simp [intOf]; omega⟩
              -- )D
        · obtain rfl : i = r.nS := by omega
          have T3 : Hid (Told K w wr V (n3 r.nF r.nS 0)) := HT.out.ncong fun c hc => rfl
          clear HT
          go_wp2
          clear k1
          go_loopw [12] (fun i w' => ∃ (k : Nat) (V : Nat → Value), k ≤ r.nD ∧ i = .int .i64 k ∧ Told K w w' V (n3 r.nF r.nS k)) (fun i _ => r.nD - (intOf i).toNat)
          case atStart => exact ⟨0, _, by omega, rfl, T3.out⟩
          case round =>
            clear HR T3
            obtain ⟨k, V, hk, rfl, t1⟩ := hrel
            have HT : Hid (Told K w wr V (n3 r.nF r.nS k)) := t1
            have HR : Hid (RMem wr B r) := t1.mem HM.out
            have k2 : wr.cell? ⟨B.b, 2, none⟩ = some (.slice (B.aq 0) r.nD (B.cq 0)) := HR.out.k2 0 (by omega)
            clear t1
            by_cases hlt : k < r.nD
            · have hkD : k < K.nD := by have := HB.out; omega
              -- C(
              have k3 : wr.cell? ⟨B.b, 3, none⟩ = some (.slice (B.aq 1) r.nD (B.cq 1)) := HR.out.k2 1 (by omega)
              have k4 : wr.cell? ⟨B.b, 4, none⟩ = some (.slice (B.aq 2) r.nD (B.cq 2)) := HR.out.k2 2 (by omega)
              rw [HR.out.aq 0 (by omega) (by omega)] at k2
              rw [HR.out.aq 1 (by omega) (by omega)] at k3
              rw [HR.out.aq 2 (by omega) (by omega)] at k4
              have g0 : wr.cell? ⟨B.bq 0, k, none⟩ = some (.int .i64 (K.D k 0)) := by rw [← HU.out.q k 0 hkD (by omega)]; exact HR.out.rg k 0 hlt (by omega)
              have g1 : wr.cell? ⟨B.bq 1, k, none⟩ = some (.int .i64 (K.D k 1)) := by rw [← HU.out.q k 1 hkD (by omega)]; exact HR.out.rg k 1 hlt (by omega)
              have g2 : wr.cell? ⟨B.bq 2, k, none⟩ = some (.int .i64 (K.D k 2)) := by rw [← HU.out.q k 2 hkD (by omega)]; exact HR.out.rg k 2 hlt (by omega)
              have j1 : (0 : Int) ≤ (k : Int) := by omega
              have j2 : (k : Int) < (r.nD : Int) := by omega
              have h0 := G.duct k hkD
              have HE : Hid (K.D k 3 = K.ends k false ∧ K.D k 4 = K.ends k true) := ⟨I.rds k hkD, I.wts k hkD⟩
              have HZ : Hid (K.D k 0 < 0 → K.D k 3 = 0 ∧ K.D k 4 = 0) := fun h => by rw [HE.out.1, HE.out.2, ends_off G hkD h, ends_off G hkD h]; exact ⟨rfl, rfl⟩
              obtain ⟨d0, e0⟩ : ∃ x, K.D k 0 = x := ⟨_, rfl⟩
              obtain ⟨d1, e1⟩ : ∃ x, K.D k 1 = x := ⟨_, rfl⟩
              obtain ⟨d2, e2⟩ : ∃ x, K.D k 2 = x := ⟨_, rfl⟩
              have EE : Hid (K.D k 0 = d0 ∧ K.D k 1 = d1 ∧ K.D k 2 = d2) := ⟨e0, e1, e2⟩
              rw [e0] at g0 h0
              rw [e1] at g1
              rw [e2] at g2
              clear e0 e1 e2
              go_wp2_with fail
              go_region_held3 (fun w' => w'.cell? ⟨B.b, 2, none⟩ = some (.slice (some ⟨B.bq 0, 0, none⟩) r.nD (B.cq 0)) ∧ w'.cell? ⟨B.b, 3, none⟩ = some (.slice (some ⟨B.bq 1, 0, none⟩) r.nD (B.cq 1)) ∧ w'.cell? ⟨B.b, 4, none⟩ = some (.slice (some ⟨B.bq 2, 0, none⟩) r.nD (B.cq 2)) ∧ w'.cell? ⟨B.bq 0, k, none⟩ = some (.int .i64 d0) ∧ w'.cell? ⟨B.bq 1, k, none⟩ = some (.int .i64 d1) ∧ w'.cell? ⟨B.bq 2, k, none⟩ = some (.int .i64 d2)) ((repeat' apply And.intro) <;> (go_keep; done)) (fail)
              obtain ⟨W, eW⟩ : ∃ W, W = (wr.alloc (.cells #[.int .i64 d0, .int .i64 d1, .int .i64 d2, .int .i64 0, .int .i64 0] 87)).drew := ⟨_, rfl⟩
              have HX : Hid (W.rowIs wr.heap.size 87 5 (fun j => (#[.int .i64 d0, .int .i64 d1, .int .i64 d2, .int .i64 0, .int .i64 0] : Array Value).getD j (.bool false))) := by unfold Hid; rw [eW]; exact (rowIs_new wr #[.int .i64 d0, .int .i64 d1, .int .i64 d2, .int .i64 0, .int .i64 0] 87).drew
              have x0 : W.cell? ⟨wr.heap.size, 0, none⟩ = some (.int .i64 d0) := HX.out.cell (i := 0) (by omega)
              have x1 : W.cell? ⟨wr.heap.size, 1, none⟩ = some (.int .i64 d1) := HX.out.cell (i := 1) (by omega)
              have x2 : W.cell? ⟨wr.heap.size, 2, none⟩ = some (.int .i64 d2) := HX.out.cell (i := 2) (by omega)
              have x3 : W.cell? ⟨wr.heap.size, 3, none⟩ = some (.int .i64 0) := HX.out.cell (i := 3) (by omega)
              have x4 : W.cell? ⟨wr.heap.size, 4, none⟩ = some (.int .i64 0) := HX.out.cell (i := 4) (by omega)
              have zx : ∀ o, W.frozen? ⟨wr.heap.size, o, none⟩ = false := fun o => HX.out.frozen o
              have HWb : Hid (Below wr.heap.size wr W ∧ W.heap.size = wr.heap.size + 1) := by unfold Hid; rw [eW]; exact ⟨below_drew ((Below.refl _ _).alloc (Nat.le_refl _) _), by show (wr.alloc _).heap.size = _; simp⟩
              rw [← eW]
              have s0 : W.cell? ⟨w.heap.size + 1, 2, none⟩ = some (V 2) := (HT.out.step HWb.out.1).cell (by omega)
              have s1 : ∀ o, (W.alloc o).cell? ⟨w.heap.size + 1, 2, none⟩ = some (V 2) := fun o => ((HT.out.step HWb.out.1).lists.alloc o).cell (by show 2 < 3; omega)
              have ne : w.heap.size + 1 ≠ wr.heap.size := by have := HT.out.size; omega
              have ne' : wr.heap.size ≠ w.heap.size + 1 := Ne.symm ne
              clear eW k2 k3 k4 g0 g1 g2
              rcases h0 with rfl | ⟨h0, h0'⟩
              · have HC : Hid ([.int .i64 (-1), .int .i64 d1, .int .i64 d2, .int .i64 0, .int .i64 0] = cut (stX K 2) (n3 r.nF r.nS k 2 * stZ 2) (stZ 2)) := by
                  show _ = cut (stX K 2) (k * 5) 5
                  have hz := HZ.out (by rw [EE.out.1]; omega)
                  rw [cutD, EE.out.1, EE.out.2.1, EE.out.2.2, hz.1, hz.2]
                go_wp2_with (refine told_at (c := 2) rfl _ _ rfl HT.out (HWb.out.1.alloc (by have := HWb.out.2; omega) _) (by omega) (by show k ≤ 32; omega) ⟨W.heap.size, 0, none⟩ 1 _ HC.out (fun j u hu => laid_news j u hu) rfl rfl ?_; intro g cap w2 t2 c2 z2; have H2 : Hid _ := t2; clear t2)
                exact ⟨⟨k + 1, _, by omega, by go_num, H2.out.ncong fun c hc => n3_up r.nF r.nS k c hc⟩, by simp [intOf]; omega⟩
              · go_wp2_with fail
                refine (ends_rep (HR.out.same HWb.out.1.size fun j hj _ => HWb.out.1.block j hj) HU.out G (d := k) (by omega) false).mono ?_
                rintro e w1 ⟨rfl, rfl⟩
                obtain ⟨r1, er1⟩ : ∃ x : Int, x = K.ends k false := ⟨_, rfl⟩
                rw [← er1]
                have ER1 : Hid (r1 = (K.ends k false : Int)) := er1
                clear er1
                have HB1 : Hid (Below wr.heap.size wr (w1.setCell ⟨wr.heap.size, 3, none⟩ (.int .i64 r1))) := HWb.out.1.setCell (Nat.le_refl _) _
                go_wp2_with fail
                refine (ends_rep (HR.out.same HB1.out.size fun j hj _ => HB1.out.block j hj) HU.out G (d := k) (by omega) true).mono ?_
                rintro e w3 ⟨rfl, rfl⟩
                obtain ⟨r2, er2⟩ : ∃ x : Int, x = K.ends k true := ⟨_, rfl⟩
                rw [← er2]
                have ER2 : Hid (r2 = (K.ends k true : Int)) := er2
                clear er2
                have HC : Hid ([.int .i64 d0, .int .i64 d1, .int .i64 d2, .int .i64 r1, .int .i64 r2] = cut (stX K 2) (n3 r.nF r.nS k 2 * stZ 2) (stZ 2)) := by
                  show _ = cut (stX K 2) (k * 5) 5
                  rw [cutD, EE.out.1, EE.out.2.1, EE.out.2.2, HE.out.1, HE.out.2, ER1.out, ER2.out]
                have HB2 : Hid (Below wr.heap.size wr ((w1.setCell ⟨wr.heap.size, 3, none⟩ (.int .i64 r1)).setCell ⟨wr.heap.size, 4, none⟩ (.int .i64 r2)) ∧ ((w1.setCell ⟨wr.heap.size, 3, none⟩ (.int .i64 r1)).setCell ⟨wr.heap.size, 4, none⟩ (.int .i64 r2)).heap.size = wr.heap.size + 1) := ⟨HB1.out.setCell (Nat.le_refl _) _, by rw [size_setCell, size_setCell]; exact HWb.out.2⟩
                have s2 : ∀ o, (((w1.setCell ⟨wr.heap.size, 3, none⟩ (.int .i64 r1)).setCell ⟨wr.heap.size, 4, none⟩ (.int .i64 r2)).alloc o).cell? ⟨w.heap.size + 1, 2, none⟩ = some (V 2) := fun o => ((HT.out.step HB2.out.1).lists.alloc o).cell (by show 2 < 3; omega)
                go_wp2_with (refine told_at (c := 2) rfl _ _ rfl HT.out (HB2.out.1.alloc (by have := HB2.out.2; omega) _) (by omega) (by show k ≤ 32; omega) ⟨w1.heap.size, 0, none⟩ 1 _ HC.out (fun j u hu => by have := laid_news (w := (w1.setCell ⟨wr.heap.size, 3, none⟩ (.int .i64 r1)).setCell ⟨wr.heap.size, 4, none⟩ (.int .i64 r2)) (t := 87) j u hu; rw [size_setCell, size_setCell] at this; exact this) rfl (by first | rfl | (simp only [size_setCell]; rfl)) ?_; intro g cap w2 t2 c2 z2; have H2 : Hid _ := t2; clear t2)
                exact ⟨⟨k + 1, _, by omega, by go_num, H2.out.ncong fun c hc => n3_up r.nF r.nS k c hc⟩, by simp [intOf]; omega⟩
              -- )C
            · obtain rfl : k = r.nD := by omega
              have HK : Hid (Told K w wr V (stN K)) := HT.out.ncong fun c hc => by
                have hb := HB.out
                obtain rfl | rfl | rfl : c = 0 ∨ c = 1 ∨ c = 2 := by omega
                · exact hb.1.symm
                · exact hb.2.1.symm
                · exact hb.2.2.symm
              obtain ⟨bo, g, cb, hV, tl, hg⟩ := HK.out.tell
              have v0 : wr.cell? ⟨w.heap.size + 1, 0, none⟩ = some (.slice (bo 0) K.nF (cb 0)) := by rw [← show V 0 = .slice (bo 0) K.nF (cb 0) from hV 0 (by omega)]; exact HK.out.cell (by omega)
              have v1 : wr.cell? ⟨w.heap.size + 1, 1, none⟩ = some (.slice (bo 1) K.nS (cb 1)) := by rw [← show V 1 = .slice (bo 1) K.nS (cb 1) from hV 1 (by omega)]; exact HK.out.cell (by omega)
              have v2 : wr.cell? ⟨w.heap.size + 1, 2, none⟩ = some (.slice (bo 2) K.nD (cb 2)) := by rw [← show V 2 = .slice (bo 2) K.nD (cb 2) from hV 2 (by omega)]; exact HK.out.cell (by omega)
              have TL : Hid (Tell wr K bo g ∧ ∀ c, c < 3 → 0 < stN K c → w.heap.size + 2 ≤ g c) := ⟨tl, hg⟩
              have TH : Hid (wr.there w.heap.size 0 3) := rowIs_there HK.out.res (o := 0) (m := 3) (by omega)
              have r0 : wr.cell? ⟨w.heap.size, 0, none⟩ = some (.slice none 0 0) := HK.out.res.cell (by omega)
              have r1 : wr.cell? ⟨w.heap.size, 1, none⟩ = some (.slice none 0 0) := HK.out.res.cell (by omega)
              have r2 : wr.cell? ⟨w.heap.size, 2, none⟩ = some (.slice none 0 0) := HK.out.res.cell (by omega)
              have zr : ∀ o, wr.frozen? ⟨w.heap.size, o, none⟩ = false := fun o => HK.out.res.frozen o
              clear hV tl hg HT
              go_wp2_with (refine wpList_store_world rfl 109 _ _ rfl w.heap.size 0 #[.slice (bo 0) K.nF (cb 0), .slice (bo 1) K.nS (cb 1), .slice (bo 2) K.nD (cb 2)] rfl rfl TH.out st_info3 (st_one3 _ _ _ _ _ _ _ _ _) ?_; intro W eW)
              clear eW
              refine bodyPost_ret (v := tellVal K bo cb) (results_cell_range Tryz.results45 _ (wr.setCells w.heap.size 0 [.slice (bo 0) K.nF (cb 0), .slice (bo 1) K.nS (cb 1), .slice (bo 2) K.nD (cb 2)]) w.heap.size [.slice (bo 0) K.nF (cb 0), .slice (bo 1) K.nS (cb 1), .slice (bo 2) K.nD (cb 2)] _ rfl (World.rangeAt_setCells_same wr w.heap.size 0 _ TH.out) Tryz.underlying109 rfl st_info3) rfl ?_
              have Hb : Below w.heap.size w (wr.setCells w.heap.size 0 [.slice (bo 0) K.nF (cb 0), .slice (bo 1) K.nS (cb 1), .slice (bo 2) K.nD (cb 2)]) := below_setCells (Nat.le_refl _) _ _ HK.out.bel
              exact ⟨bo, ⟨cb, rfl⟩, g, TL.out.1.same (by rw [size_setCells]; exact Nat.le_refl _) (fun c hc hn => heap_setCells (by have := TL.out.2 c hc hn; omega) _ _ _), Hb, fun c hc hn => by have := TL.out.2 c hc hn; omega⟩
end
end Go.Proofs.YtcgabodkegcpgaaGreatDoor
