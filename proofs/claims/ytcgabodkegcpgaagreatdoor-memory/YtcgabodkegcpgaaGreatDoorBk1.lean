/- The book of the lists that were handed out: what it holds, and how it grows. -/
import Derived.Test.YtcgabodkegcpgaaGreatDoorSap
import Derived.Laws.OwnMore
namespace Go.Proofs.YtcgabodkegcpgaaGreatDoor
open Go.RowKit
set_option linter.unusedVariables false
set_option linter.unusedSimpArgs false

/-- append of one element to a list of ours, by what the growing asks. -/
theorem run_append_one {P : Program} (w : World) (base : Nat) (t ty e : TypeId) (i : TypeInfo) (z : Value) (size bytes : Nat) (ht : P.underlying t = some (.slice e)) (hi : P.info? e = some i) (hz : i.zero = some z)
    (hsize : i.size = size) (hby : i.bytes = bytes) (hzs : z.cells.size = size)
    (v : Value) (n : Nat) (xs : List Value) (hown : w.ownsRow base e size v n xs)
    (a : Addr) (c : Nat) (news : List Value) (hl : news.length = size) (hnews : ∀ j u, news[j]? = some u → w.cell? (a.add j) = some u) (h1 : ∀ u ∈ news, u.oneCell' = true)
    (h63 : n + 1 ≤ maxLen) (hfit : Builtin.nextslicecap (n + 1) n * bytes ≤ 281474976710656) (hbase : base ≤ w.heap.size) :
    ∃ g cap w', (Builtin.append_ #[t, t] ty #[v, .slice (some a) 1 c]).run P w = .ok (.slice (some ⟨g, 0, none⟩) (n + 1) cap) w' ∧ w'.ownsRow base e size (.slice (some ⟨g, 0, none⟩) (n + 1) cap) (n + 1) (xs ++ news) ∧ w.grownBy w' v.ownBlock ∧ (v.ownBlock = some g ∨ g = w.heap.size) := by
  subst hsize
  subst hby
  have hl' : news.length = 1 * i.size := by omega
  have hlen : (xs ++ news).length = (n + 1) * i.size := by rw [List.length_append, hown.1, hl', Nat.add_mul]
  have hsmall : n + 1 ≤ 9223372036854775807 := by simp only [maxLen] at h63; omega
  have grown : ∀ (old : Nat), ∀ (row : Option Nat),
      (w.drew.alloc (.cells (xs.toArray ++ news.toArray ++ Builtin.zeroCells z.cells (grownCap w (n + 1) old e - (n + 1))) e)).ownsRow base e i.size
        (.slice (some ⟨w.heap.size, 0, none⟩) (n + 1) (grownCap w (n + 1) old e)) (n + 1) (xs ++ news) ∧
      w.grownBy (w.drew.alloc (.cells (xs.toArray ++ news.toArray ++ Builtin.zeroCells z.cells (grownCap w (n + 1) old e - (n + 1))) e)) row := by
    intro old row
    have hge := grownCap_ge w (n + 1) old e
    have hcm : grownCap w (n + 1) old e ≤ maxLen := grownCap_le_maxLen w (n + 1) old e h63
    refine ⟨⟨hlen, .inr ⟨w.heap.size, _, _, rfl, hbase, heap_alloc_new w.drew _, hge, hcm, ?_, ?_⟩⟩, ⟨rfl, rfl, rfl, by simp, fun k hk _ => Below.heap_alloc w.drew _ k hk⟩⟩
    · simp only [Array.size_append, List.size_toArray, size_zeroCells, hzs, hown.1, hl', ← Nat.add_mul]
      congr 1
      omega
    · simp only [Array.toList_append, List.append_assoc]
      rw [← List.append_assoc, ← hlen]
      exact List.take_left
  rcases hown.2 with ⟨rfl, rfl⟩ | ⟨g, cap, cur, rfl, hbg, hg, hnc, hcm, hcs, htake⟩
  · have hx : xs = [] := List.eq_nil_of_length_eq_zero (by simpa using hown.1)
    subst hx
    have hr := run_append_nil (P := P) w t ty e i z ht hi hz a 1 c news hl' hnews (by omega) (by omega) (by rw [Nat.zero_add, nextslicecap_zero (by omega)] at hfit; exact hfit)
    have hgr := grown 0 (Value.ownBlock (.slice none 0 0))
    simp only [Nat.zero_add, List.nil_append, Array.empty_append] at hgr ⊢
    exact ⟨_, _, _, hr, hgr.1, hgr.2, Or.inr rfl⟩
  · by_cases hroom : n + 1 ≤ cap
    · have hf : n * i.size + news.length ≤ cur.size := by rw [hl', hcs, ← Nat.add_mul]; exact Nat.mul_le_mul_right _ hroom
      have hr := run_append_room (P := P) w t ty e i ht hi g n cap cur hg a 1 c news hl' hnews h1 hroom hf
      refine ⟨_, _, _, hr, ⟨hlen, .inr ⟨g, cap, _, rfl, hbg, setRow_heap w g cur _ e _ hg, hroom, hcm, ?_, ?_⟩⟩, ⟨rfl, rfl, rfl, by simp, fun k _ hk => setRow_other w g k _ (fun e => hk (by simp [Value.ownBlock, e]))⟩, Or.inl rfl⟩
      · simp only [List.size_toArray, List.length_append, List.length_take, List.length_drop, Array.length_toList]
        omega
      · rw [htake, ← hlen]
        exact List.take_left
    · obtain rfl : cap = n := by omega
      have hr := run_append_grow (P := P) w t ty e i z ht hi hz ⟨g, 0, none⟩ cap cap xs hown.1 (hown.cells (g := g) rfl) a 1 c news hl' hnews (by omega) (by omega) hfit
      have hgr := grown cap (Value.ownBlock (.slice (some ⟨g, 0, none⟩) cap cap))
      exact ⟨_, _, _, hr, hgr.1, hgr.2, Or.inr rfl⟩
theorem nextslicecap_quarter {n : Nat} (h : n ≤ 7036874417568) : Builtin.nextslicecap (n + 1) n ≤ 8796093022152 := by
  unfold Builtin.nextslicecap
  split
  · omega
  · split
    · omega
    · rw [growBy_four]
      repeat' split
      all_goals omega
theorem lists_app_one {L : LTy} {w : World} {b base : Nat} {V : Nat → Value} {N : Nat → Nat} {X : Nat → List Value} {P : Program} (h : Lists L w b base V N X) {c : Nat} (hc : c < L.m) {i : TypeInfo} {z : Value} {by_ : Nat} (t : TypeId) (ht : P.underlying t = some (.slice (L.ty c))) (hi : P.info? (L.ty c) = some i) (hz : i.zero = some z) (hsize : i.size = L.sz c) (hby : i.bytes = by_) (hzs : z.cells.size = L.sz c)
    (ad : Addr) (cp : Nat) (news : List Value) (hl : news.length = L.sz c) (hnews : ∀ j u, news[j]? = some u → w.cell? (ad.add j) = some u) (h1 : ∀ u ∈ news, u.oneCell' = true)
    (h63 : N c + 1 ≤ maxLen) (hfit : Builtin.nextslicecap (N c + 1) (N c) * by_ ≤ 281474976710656) (hbase : base ≤ w.heap.size)
    {ops : Array Oper} {rest : List Oper} {o : Oper} {a : Go.Act} {Q : Exit → Go.Act → World → Prop} (hgd : o.guard = none) (s x : Operand)
    (ho : o.op = .call { callee := .builtin .append, args := #[s, x], argTypes := #[t, t] }) (hs : a.eval s = V c) (hx : a.eval x = .slice (some ad) 1 cp)
    (hk : ∀ g cap w2, Grew L w w2 b base V N X c g cap news → wpList P ops Q rest (a.put o.dst (.slice (some ⟨g, 0, none⟩) (N c + 1) cap)) w2) :
    wpList P ops Q (o :: rest) a w := by
  obtain ⟨g, cap, w2, hr, o2, g2, at2⟩ := run_append_one (P := P) w base t o.type (L.ty c) i z (L.sz c) by_ ht hi hz hsize hby hzs (V c) (N c) (X c) (h.own c hc) ad cp news hl hnews h1 h63 hfit hbase
  refine wpList_plain hgd fun K hK' => ?_
  unfold Oper.wp execOp
  simp only [ho, resolve, invoke, builtin, Sem.run_bind, Sem.run_pure, Result.andThen_ok, List.map_toArray, List.map_cons, List.map_nil, hs, hx, hr]
  exact hK' _ _ (hk g cap w2 ⟨h.grown hc g2 o2 at2, h.str.of_block (g2.block b h.str.lt (fun e => h.far c hc e.symm)), g2, at2⟩)

/-- The mark's cells. -/
def mkF (c : Nat) (k : Int) (j : Nat) : Value :=
  if c = 0 then .int .i64 (if j = 1 then -9 - k else 0)
  else if c = 1 then (if 4 ≤ j ∧ j ≤ 18 ∧ j % 2 = 0 then .bool false else .int .i64 (if j = 1 then -9 - k else 0))
  else .int .i64 (if j = 0 then -9 - k else 0)
def mrk (c : Nat) (k : Int) : List Value := (List.range (stZ c)).map (mkF c k)
theorem mk_len (c : Nat) (k : Int) : (mrk c k).length = stZ c := by simp [mrk]
theorem mk_get (c : Nat) (k : Int) (j : Nat) (h : j < stZ c) : (mrk c k)[j]? = some (mkF c k j) := by unfold mrk; rw [List.getElem?_map, List.getElem?_range h]; rfl
theorem mkF_one (c : Nat) (k : Int) (j : Nat) : (mkF c k j).oneCell' = true := by unfold mkF; split; rfl; split; split <;> rfl; rfl
theorem mk_one (c : Nat) (k : Int) : ∀ u ∈ mrk c k, u.oneCell' = true := fun u hu => by
  unfold mrk at hu; rw [List.mem_map] at hu; obtain ⟨j, _, rfl⟩ := hu; exact mkF_one c k j
/-- So many marks. -/
def mks (c : Nat) (k : Int) (n : Nat) : List Value := (List.range (n * stZ c)).map (fun j => mkF c k (j % stZ c))
theorem mks_len (c : Nat) (k : Int) (n : Nat) : (mks c k n).length = n * stZ c := by simp [mks]
theorem mks_succ (c : Nat) (k : Int) (n : Nat) : mks c k (n + 1) = mks c k n ++ mrk c k := by
  unfold mks mrk
  rw [show (n + 1) * stZ c = n * stZ c + stZ c by rw [Nat.add_mul, Nat.one_mul], List.range_add, List.map_append, List.map_map]
  congr 1
  refine List.map_congr_left fun j hj => ?_
  have : j < stZ c := by simpa using hj
  show mkF c k ((n * stZ c + j) % stZ c) = _
  rw [Nat.mul_comm, Nat.mul_add_mod, Nat.mod_eq_of_lt this]
theorem mks_range {w : World} {g : Nat} {c : Nat} {k : Int} {n : Nat} (h : ∀ i, i < n * stZ c → w.cell? ⟨g, i, none⟩ = some (mkF c k (i % stZ c))) (j : Nat) (hj : j < n) : w.rangeAt g (j * stZ c) (mrk c k) := fun i v hv => by
  have hi : i < stZ c := by have := (List.getElem?_eq_some_iff.1 hv).1; rwa [mk_len] at this
  rw [mk_get c k i hi] at hv
  have := Nat.mul_le_mul_right (stZ c) (show j + 1 ≤ n by omega)
  rw [Nat.add_mul, Nat.one_mul] at this
  rw [h _ (by omega), Nat.mul_comm, Nat.mul_add_mod, Nat.mod_eq_of_lt hi]
  exact hv
theorem owns_range {w : World} {g cap base e : Nat} {c : Nat} {k : Int} {n : Nat} (h : w.ownsRow base e (stZ c) (.slice (some ⟨g, 0, none⟩) n cap) n (mks c k n)) (j : Nat) (hj : j < n) : w.rangeAt g (j * stZ c) (mrk c k) := by
  refine mks_range (n := n) (fun i hi => ?_) j hj
  rw [h.cellAt i hi]
  unfold mks
  rw [List.getElem?_map, List.getElem?_range hi]
  rfl

/-- Of the old blocks only those of P may have turned. -/
structure Chg (P : Nat → Prop) (w w' : World) : Prop where
  os : w'.os = w.os
  tape : w'.tape = w.tape
  output : w'.output = w.output
  size : w.heap.size ≤ w'.heap.size
  block : ∀ k, k < w.heap.size → ¬ P k → w'.heap[k]? = w.heap[k]?
section
variable {P Q : Nat → Prop} {w w1 w2 : World}
theorem Chg.refl (w : World) : Chg P w w := ⟨rfl, rfl, rfl, Nat.le_refl _, fun _ _ _ => rfl⟩
theorem Chg.trans (h : Chg P w w1) (k : Chg Q w1 w2) (s : ∀ x, x < w.heap.size → Q x → P x) : Chg P w w2 :=
  ⟨k.os.trans h.os, k.tape.trans h.tape, k.output.trans h.output, Nat.le_trans h.size k.size, fun i hi hp => (k.block i (Nat.lt_of_lt_of_le hi h.size) (fun hq => hp (s i hi hq))).trans (h.block i hi hp)⟩
theorem Chg.weak (h : Chg P w w1) (s : ∀ x, x < w.heap.size → P x → Q x) : Chg Q w w1 := ⟨h.os, h.tape, h.output, h.size, fun i hi hq => h.block i hi (fun hp => hq (s i hi hp))⟩
theorem Chg.of_below (h : Below w.heap.size w w1) : Chg P w w1 := ⟨h.os, h.tape, h.output, h.size, fun k hk _ => h.block k hk⟩
theorem Chg.alloc (h : Chg P w w1) (o : Obj) : Chg P w (w1.alloc o) := h.trans (Q := fun _ => False) ⟨rfl, rfl, rfl, by simp, fun k hk _ => Below.heap_alloc w1 o k hk⟩ (fun _ _ h => h.elim)
theorem Chg.drew (h : Chg P w w1) : Chg P w w1.drew := ⟨h.os, h.tape, h.output, h.size, h.block⟩
theorem Chg.setCell (h : Chg P w w1) {p : Addr} (hp : P p.block ∨ w.heap.size ≤ p.block) (u : Value) : Chg P w (w1.setCell p u) :=
  ⟨h.os, h.tape, h.output, by rw [size_setCell]; exact h.size, fun k hk hq => by rw [Below.heap_setCell w1 p u k (by rintro rfl; rcases hp with hp | hp; exact hq hp; omega)]; exact h.block k hk hq⟩
theorem Chg.setCells (h : Chg P w w1) {b : Nat} (hp : P b ∨ w.heap.size ≤ b) (vs : List Value) (o : Nat) : Chg P w (w1.setCells b o vs) := by
  induction vs generalizing w1 o with
  | nil => exact h
  | cons v r ih => exact ih (h.setCell hp v) (o + 1)
theorem Chg.grown (h : Chg P w w1) {row : Option Nat} (g : w1.grownBy w2 row) (hr : ∀ x, row = some x → P x ∨ w.heap.size ≤ x) : Chg P w w2 :=
  ⟨g.os.trans h.os, g.tape.trans h.tape, g.output.trans h.output, Nat.le_trans h.size g.size, fun k hk hp => by
    rw [g.block k (Nat.lt_of_lt_of_le hk h.size) (fun e => by rcases hr k e.symm with h1 | h1; exact hp h1; omega)]; exact h.block k hk hp⟩
theorem Chg.below (h : Chg P w w1) {B : Nat} (hB : B ≤ w.heap.size) (hp : ∀ x, x < B → ¬ P x) : Below B w w1 := ⟨h.os, h.tape, h.output, h.size, fun k hk => h.block k (by omega) (hp k hk)⟩
end

def bkTy (c : Nat) : TypeId := if c = 0 then 68 else if c = 1 then 74 else if c = 2 then 85 else 90
def bkSl (c : Nat) : TypeId := if c = 0 then 50 else if c = 1 then 51 else if c = 2 then 52 else 53
def bkL : LTy := ⟨55, 4, bkTy, fun _ => 2⟩
theorem bkInfo (c : Nat) (hc : c < 3) : ∃ i z, Tryz.prog.underlying (bkSl c) = some (.slice (bkTy c)) ∧ Tryz.prog.info? (bkTy c) = some i ∧ i.zero = some z ∧ i.size = 2 ∧ i.bytes = 32 ∧ z.cells.size = 2 := by
  obtain rfl | rfl | rfl : c = 0 ∨ c = 1 ∨ c = 2 := by omega
  · obtain ⟨i, z, h1, h2, h3, h4, h5⟩ := info_sized (P := Tryz.prog) (t := 68) (n := 2) (b := 32) (by kernel_rfl)
    exact ⟨i, z, Tryz.underlying50, h1, h2, h3, h4, h5⟩
  · obtain ⟨i, z, h1, h2, h3, h4, h5⟩ := info_sized (P := Tryz.prog) (t := 74) (n := 2) (b := 32) (by kernel_rfl)
    exact ⟨i, z, Tryz.underlying51, h1, h2, h3, h4, h5⟩
  · obtain ⟨i, z, h1, h2, h3, h4, h5⟩ := info_sized (P := Tryz.prog) (t := 85) (n := 2) (b := 32) (by kernel_rfl)
    exact ⟨i, z, Tryz.underlying52, h1, h2, h3, h4, h5⟩

/-- The book: its lists, and what each block of a list that was handed out holds: of which kind, which mark, how many of them. -/
structure BookOk (w : World) (bb H : Nat) (V : Nat → Value) (N : Nat → Nat) (X : Nat → List Value) (A : Nat → Option (Nat × Nat × Nat)) : Prop where
  lists : Lists bkL w bb H V N X
  bbH : bb < H
  hH : H ≤ w.heap.size
  last : V 3 = .slice none 0 0
  blk : ∀ g c k L, A g = some (c, k, L) → c < 3 ∧ H ≤ g ∧ g < w.heap.size ∧ (∀ d, d < 4 → (V d).ownBlock ≠ some g) ∧ ∀ j, j < L → w.rangeAt g (j * stZ c) (mrk c k)
  ent : ∀ c, c < 3 → ∀ i, i < N c → ∃ a n cap k, (X c)[i * 2]? = some (.slice a n cap) ∧ (X c)[i * 2 + 1]? = some (.int .i64 (k : Nat)) ∧ n ≤ 64 ∧ k < N c ∧ (0 < n → ∃ g L, a = some ⟨g, 0, none⟩ ∧ A g = some (c, k, L) ∧ n ≤ L)
section
variable {w w' w2 : World} {bb H : Nat} {V : Nat → Value} {N : Nat → Nat} {X : Nat → List Value} {A : Nat → Option (Nat × Nat × Nat)}
theorem BookOk.is_book (B : BookOk w bb H V N X A) {k : Nat} (h : bkL.is bb V k) : k = bb ∨ (H ≤ k ∧ k < w.heap.size) := by
  rcases h with h | ⟨c, hc, e⟩
  · exact Or.inl h
  · exact Or.inr ((B.lists.own c hc).lt k e)
theorem BookOk.same (B : BookOk w bb H V N X A) (hz : w.heap.size ≤ w'.heap.size) (h : ∀ k, k < w.heap.size → k = bb ∨ H ≤ k → w'.heap[k]? = w.heap[k]?) : BookOk w' bb H V N X A := by
  refine ⟨B.lists.same (fun k hk hi => h k hk ?_), B.bbH, Nat.le_trans B.hH hz, B.last, fun g c k L hA => ?_, B.ent⟩
  · rcases B.is_book hi with e | e
    · exact Or.inl e
    · exact Or.inr e.1
  · obtain ⟨a, b, d, e, f⟩ := B.blk g c k L hA
    exact ⟨a, b, Nat.lt_of_lt_of_le d hz, e, fun j hj i v hv => (World.cell?_of_block (w := w) (a := ⟨g, j * stZ c + i, none⟩) (h g d (Or.inr b))).trans (f j hj i v hv)⟩
theorem BookOk.chg (B : BookOk w bb H V N X A) {P : Nat → Prop} (h : Chg P w w') (hp : ∀ k, k < w.heap.size → k = bb ∨ H ≤ k → ¬ P k) : BookOk w' bb H V N X A := B.same h.size fun k hk e => h.block k hk (hp k hk e)
/-- A block that is no list of the book's holds marks now. -/
theorem BookOk.mark (B : BookOk w bb H V N X A) (hz : w.heap.size ≤ w'.heap.size) {g c k L : Nat} (h : ∀ q, q < w.heap.size → q = bb ∨ H ≤ q → q ≠ g → w'.heap[q]? = w.heap[q]?) (hc : c < 3) (hg : H ≤ g) (hg' : g < w'.heap.size) (hA : ∀ c' k' L', A g = some (c', k', L') → c' = c ∧ k' = k ∧ L' ≤ L)
    (hV : ∀ d, d < 4 → (V d).ownBlock ≠ some g) (hr : ∀ j, j < L → w'.rangeAt g (j * stZ c) (mrk c k)) : BookOk w' bb H V N X (up A g (some (c, k, L))) := by
  have bbH := B.bbH
  refine ⟨B.lists.same (fun q hq hi => h q hq ?_ ?_), B.bbH, Nat.le_trans B.hH hz, B.last, fun q c' k' L' hq => ?_, fun d hd i hi => ?_⟩
  · rcases B.is_book hi with e | e
    · exact Or.inl e
    · exact Or.inr e.1
  · rintro rfl
    rcases hi with e | ⟨d, hd, e⟩
    · omega
    · exact hV d hd e
  · by_cases e : q = g
    · subst e
      rw [up_same] at hq
      obtain ⟨rfl, rfl, rfl⟩ : c = c' ∧ k = k' ∧ L = L' := by simpa using hq
      exact ⟨hc, hg, hg', hV, hr⟩
    · rw [up_other _ _ e] at hq
      obtain ⟨a, b, d, f, r⟩ := B.blk q c' k' L' hq
      exact ⟨a, b, Nat.lt_of_lt_of_le d hz, f, fun j hj i v hv => (World.cell?_of_block (w := w) (a := ⟨q, j * stZ c' + i, none⟩) (h q d (Or.inr b) e)).trans (r j hj i v hv)⟩
  · obtain ⟨a, n, cap, k', h1, h2, h3, h4, h5⟩ := B.ent d hd i hi
    refine ⟨a, n, cap, k', h1, h2, h3, h4, fun hn => ?_⟩
    obtain ⟨q, L', e1, e2, e3⟩ := h5 hn
    by_cases e : q = g
    · subst e
      obtain ⟨rfl, rfl, hl⟩ := hA _ _ _ e2
      exact ⟨q, L, e1, up_same _ _ _, by omega⟩
    · exact ⟨q, L', e1, by rw [up_other _ _ e]; exact e2, e3⟩
/-- An entry is put behind a list of the book's. -/
theorem BookOk.push (B : BookOk w bb H V N X A) {c g cap : Nat} (hc : c < 3) {a : Option Addr} {n cp k : Nat} (G : Grew bkL w w2 bb H V N X c g cap [.slice a n cp, .int .i64 k]) (hn : n ≤ 64) (hk : k ≤ N c) (he : 0 < n → ∃ q L, a = some ⟨q, 0, none⟩ ∧ A q = some (c, k, L) ∧ n ≤ L) :
    BookOk (w2.setCell ⟨bb, c, none⟩ (.slice (some ⟨g, 0, none⟩) (N c + 1) cap)) bb H (up V c (.slice (some ⟨g, 0, none⟩) (N c + 1) cap)) (up N c (N c + 1)) (up X c (X c ++ [.slice a n cp, .int .i64 k])) A := by
  have bbH := B.bbH
  have hz := G.grown.size
  have hB : ∀ q, q < w.heap.size → q ≠ bb → (V c).ownBlock ≠ some q → (w2.setCell ⟨bb, c, none⟩ (.slice (some ⟨g, 0, none⟩) (N c + 1) cap)).heap[q]? = w.heap[q]? := fun q hq h1 h2 => by
    rw [Below.heap_setCell w2 _ _ q (by simpa using h1)]
    exact G.grown.block q hq (fun e => h2 e.symm)
  have xl : (X c).length = N c * 2 := (B.lists.own c (by show c < 4; omega)).1
  refine ⟨G.lists, B.bbH, by rw [size_setCell]; have := B.hH; omega, by rw [up_other _ _ (by omega)]; exact B.last, fun q c' k' L' hq => ?_, fun d hd i hi => ?_⟩
  · obtain ⟨x1, x2, x3, x4, x5⟩ := B.blk q c' k' L' hq
    refine ⟨x1, x2, by rw [size_setCell]; omega, fun d hd => ?_, fun j hj i v hv => (World.cell?_of_block (w := w) (a := ⟨q, j * stZ c' + i, none⟩) (hB q x3 (by omega) (x4 c (by omega)))).trans (x5 j hj i v hv)⟩
    by_cases e : d = c
    · subst e
      rw [up_same]
      intro e
      have e' : g = q := by simpa [Value.ownBlock] using e
      rcases G.lies with h | h
      · exact x4 d hd (by rw [h, e'])
      · omega
    · rw [up_other _ _ e]; exact x4 d hd
  · by_cases e : d = c
    · subst e
      rw [up_same] at hi ⊢
      rw [up_same]
      by_cases hi' : i < N d
      · obtain ⟨a', n', cp', k', h1, h2, h3, h4, h5⟩ := B.ent d hd i hi'
        exact ⟨a', n', cp', k', by rw [List.getElem?_append_left (by omega)]; exact h1, by rw [List.getElem?_append_left (by omega)]; exact h2, h3, by omega, h5⟩
      · obtain rfl : i = N d := by omega
        refine ⟨a, n, cp, k, ?_, ?_, hn, by omega, he⟩
        · rw [List.getElem?_append_right (by omega), xl, Nat.sub_self]; rfl
        · rw [List.getElem?_append_right (by omega), xl, show N d * 2 + 1 - N d * 2 = 1 by omega]; rfl
    · rw [up_other _ _ e] at hi ⊢
      rw [up_other _ _ e]
      exact B.ent d hd i hi
/-- What else holds behind it. -/
structure Pushed (w w1 : World) (bb c : Nat) (V V' : Nat → Value) (N N' : Nat → Nat) : Prop where
  chg : Chg (fun q => q = bb ∨ (V c).ownBlock = some q) w w1
  vs : ∀ d, d ≠ c → V' d = V d
  ns : N' = up N c (N c + 1)
  far : ∀ q, (V' c).ownBlock = some q → (V c).ownBlock = some q ∨ w.heap.size ≤ q
theorem book_app (B : BookOk w bb H V N X A) {c : Nat} (hc : c < 3) (hN : N c ≤ 7036874417568) (a : Option Addr) (n cp k : Nat) (hn : n ≤ 64) (hk : k ≤ N c) (he : 0 < n → ∃ q L, a = some ⟨q, 0, none⟩ ∧ A q = some (c, k, L) ∧ n ≤ L)
    (ad : Addr) (cq : Nat) (hcell : ∀ j u, [Value.slice a n cp, .int .i64 k][j]? = some u → w.cell? (ad.add j) = some u)
    {ops : Array Oper} {rest : List Oper} {o : Oper} {ac : Go.Act} {Q : Exit → Go.Act → World → Prop} (hgd : o.guard = none) (s x : Operand)
    (ho : o.op = .call { callee := .builtin .append, args := #[s, x], argTypes := #[bkSl c, bkSl c] }) (hs : ac.eval s = V c) (hx : ac.eval x = .slice (some ad) 1 cq)
    (hh : ∀ g cap w2, (∃ V' N' X', BookOk (w2.setCell ⟨bb, c, none⟩ (.slice (some ⟨g, 0, none⟩) (N c + 1) cap)) bb H V' N' X' A ∧ Pushed w (w2.setCell ⟨bb, c, none⟩ (.slice (some ⟨g, 0, none⟩) (N c + 1) cap)) bb c V V' N N') → w2.cell? ⟨bb, c, none⟩ = some (V c) → w2.frozen? ⟨bb, c, none⟩ = false → wpList Tryz.prog ops Q rest (ac.put o.dst (.slice (some ⟨g, 0, none⟩) (N c + 1) cap)) w2) :
    wpList Tryz.prog ops Q (o :: rest) ac w := by
  obtain ⟨i, z, u1, u2, u3, u4, u5, u6⟩ := bkInfo c hc
  refine lists_app_one B.lists (c := c) (by show c < 4; omega) (bkSl c) u1 u2 u3 u4 u5 u6 ad cq [.slice a n cp, .int .i64 k] rfl hcell (by simp [Value.oneCell']) (by simp [maxLen]; omega) (Nat.le_trans (Nat.mul_le_mul_right 32 (nextslicecap_quarter hN)) (by omega)) B.hH hgd s x ho hs hx ?_
  intro g cap w2 G
  refine hh g cap w2 ⟨_, _, _, B.push hc G hn hk he, ⟨⟨?_, ?_, ?_, ?_, fun q hq hp => ?_⟩, fun d hd => up_other _ _ hd, rfl, fun q hq => ?_⟩⟩ (G.row.cell (by show c < 4; omega)) (G.row.frozen c)
  · exact G.grown.os
  · exact G.grown.tape
  · exact G.grown.output
  · rw [size_setCell]; exact G.grown.size
  · rw [Below.heap_setCell w2 _ _ q (by show q ≠ bb; exact fun e => hp (Or.inl e))]
    exact G.grown.block q hq (fun e => hp (Or.inr e.symm))
  · rw [up_same] at hq
    have e' : g = q := by simpa [Value.ownBlock] using hq
    rcases G.lies with h | h
    · exact Or.inl (by rw [h, e'])
    · exact Or.inr (by omega)
end
end Go.Proofs.YtcgabodkegcpgaaGreatDoor
namespace Go.Proofs.YtcgabodkegcpgaaGreatDoor
open Go.RowKit
set_option linter.unusedVariables false
set_option linter.unusedSimpArgs false

theorem own_slice {w : World} {b : Nat} {t : TypeId} {m : Nat} {v : Value} {n : Nat} {xs : List Value} (h : w.ownsRow b t m v n xs) : ∃ a cap, v = .slice a n cap := by
  rcases h.2 with ⟨e, e0⟩ | ⟨g, cap, cur, e, _⟩
  · exact ⟨none, 0, by rw [e, e0]⟩
  · exact ⟨_, cap, e⟩
theorem owns_of_row {w : World} {g H n m : Nat} {t : TypeId} {f : Nat → Value} {xs : List Value} (h : w.rowIs g t (n * m) f) (hg : H ≤ g) (hn : n ≤ maxLen) (hx : xs = (List.range (n * m)).map f) : w.ownsRow H t m (.slice (some ⟨g, 0, none⟩) n n) n xs := by
  subst hx
  obtain ⟨cur, hc, hs, hv⟩ := h
  refine ⟨by simp, Or.inr ⟨g, n, cur, rfl, hg, hc, Nat.le_refl _, hn, hs, ?_⟩⟩
  apply List.ext_getElem?
  intro i
  by_cases hi : i < n * m
  · rw [List.getElem?_take_of_lt hi, List.getElem?_map, List.getElem?_range hi, Array.getElem?_toList, hv i hi]; rfl
  · rw [List.getElem?_eq_none (by simp; omega), List.getElem?_eq_none (by simp; omega)]

/-- append to a list of ours: in place, or in a new block, and then all old blocks are as they were. -/
theorem run_append_two {P : Program} (w : World) (t ty : TypeId) (base : Nat) (e : TypeId) (i : TypeInfo) (z : Value) (size bytes : Nat) (ht : P.underlying t = some (.slice e)) (hi : P.info? e = some i) (hz : i.zero = some z)
    (hsize : i.size = size) (hby : i.bytes = bytes) (hzs : z.cells.size = size) (hsz : 0 < size)
    (g n cap : Nat) (xs : List Value) (hown : w.ownsRow base e size (.slice (some ⟨g, 0, none⟩) n cap) n xs)
    (ad : Addr) (c : Nat) (news : List Value) (hl : news.length = size) (hnews : ∀ j u, news[j]? = some u → w.cell? (ad.add j) = some u) (h1 : ∀ u ∈ news, u.oneCell' = true)
    (h63 : n + 1 ≤ maxLen) (hbytes : (n + 1) * bytes ≤ 140737488355328) (hbase : base ≤ w.heap.size) :
    ∃ g2 cap2 w', (Builtin.append_ #[t, t] ty #[.slice (some ⟨g, 0, none⟩) n cap, .slice (some ad) 1 c]).run P w = .ok (.slice (some ⟨g2, 0, none⟩) (n + 1) cap2) w' ∧
      w'.ownsRow base e size (.slice (some ⟨g2, 0, none⟩) (n + 1) cap2) (n + 1) (xs ++ news) ∧ w.grownBy w' (some g) ∧ (g2 = g ∨ (g2 = w.heap.size ∧ w.grownBy w' none)) ∧ g2 < w'.heap.size := by
  by_cases hroom : n + 1 ≤ cap
  · obtain ⟨w', hr, h2, h3⟩ := run_append_fits (P := P) w base t ty e i size ht hi hsize g n cap xs hown ad 1 c news (by omega) hnews h1 hroom
    exact ⟨g, cap, w', hr, h2, h3, Or.inl rfl, (h2.lt g rfl).2⟩
  · obtain ⟨g2, cap2, w', hr, h2, h3, h4, h5⟩ := run_append_lies (P := P) w t ty base e i z size bytes ht hi hz hsize hby hzs hsz (.slice (some ⟨g, 0, none⟩) n cap) n xs hown ad 1 c news (by omega) hnews h1 (by omega) h63 hbytes hbase w.heap.size rfl
    have hg := run_append_grow (P := P) w t ty e i z ht hi hz ⟨g, 0, none⟩ n cap xs (by rw [hsize]; exact hown.1) (fun j u hu => hown.cells rfl j u hu) ad 1 c news (by rw [hsize]; omega) hnews (by omega) (by simp [maxLen] at h63; omega) (by rw [hby]; exact growslice_fits (by omega) hbytes)
    rw [hr] at hg
    injection hg with e1 e2
    injection e1 with e3 _ _
    injection e3 with e4
    injection e4 with e5 _ _
    refine ⟨g2, cap2, w', hr, h2, h3, Or.inr ⟨e5, ?_⟩, h5⟩
    rw [e2]
    refine ⟨rfl, rfl, rfl, by simp, fun k hk _ => ?_⟩
    exact Below.heap_alloc w.drew _ k hk
theorem wpList_append_two {P : Program} {w : World} {ops : Array Oper} {rest : List Oper} {o : Oper} {a : Go.Act} {Q : Exit → Go.Act → World → Prop} (hgd : o.guard = none) (s x : Operand) (t : TypeId)
    (ho : o.op = .call { callee := .builtin .append, args := #[s, x], argTypes := #[t, t] })
    (base : Nat) (e : TypeId) (i : TypeInfo) (z : Value) (size bytes : Nat) (ht : P.underlying t = some (.slice e)) (hi : P.info? e = some i) (hz : i.zero = some z)
    (hsize : i.size = size) (hby : i.bytes = bytes) (hzs : z.cells.size = size) (hsz : 0 < size)
    (g n cap : Nat) (xs : List Value) (hs : a.eval s = .slice (some ⟨g, 0, none⟩) n cap) (hown : w.ownsRow base e size (.slice (some ⟨g, 0, none⟩) n cap) n xs)
    (ad : Addr) (c : Nat) (news : List Value) (hx : a.eval x = .slice (some ad) 1 c) (hl : news.length = size) (hnews : ∀ j u, news[j]? = some u → w.cell? (ad.add j) = some u) (h1 : ∀ u ∈ news, u.oneCell' = true)
    (h63 : n + 1 ≤ maxLen) (hbytes : (n + 1) * bytes ≤ 140737488355328) (hbase : base ≤ w.heap.size)
    (h : ∀ g2 cap2 w', w'.ownsRow base e size (.slice (some ⟨g2, 0, none⟩) (n + 1) cap2) (n + 1) (xs ++ news) → w.grownBy w' (some g) → (g2 = g ∨ (g2 = w.heap.size ∧ w.grownBy w' none)) → g2 < w'.heap.size → wpList P ops Q rest (a.put o.dst (.slice (some ⟨g2, 0, none⟩) (n + 1) cap2)) w') : wpList P ops Q (o :: rest) a w := by
  obtain ⟨g2, cap2, w', hr, h2, h3, h4, h5⟩ := run_append_two (P := P) w t o.type base e i z size bytes ht hi hz hsize hby hzs hsz g n cap xs hown ad c news hl hnews h1 h63 hbytes hbase
  refine wpList_plain hgd fun K hK' => ?_
  unfold Oper.wp execOp
  simp only [ho, resolve, invoke, builtin, Sem.run_bind, Sem.run_pure, Result.andThen_ok, List.map_toArray, List.map_cons, List.map_nil, hs, hx, hr]
  exact hK' _ _ (h g2 cap2 w' h2 h3 h4 h5)

/-- While a list is written full of its mark. -/
structure Mid (w w' : World) (c g n k m : Nat) (h : Nat → Value) : Prop where
  chg : Chg (fun q => q = g) w w'
  size : w'.heap.size = w.heap.size + 1
  mb : w'.rowIs w.heap.size (stTy c) (stZ c) (mkF c k)
  row : w'.rowIs g (stTy c) (n * stZ c) h
  full : ∀ j, j < m * stZ c → h j = mkF c k (j % stZ c)
theorem mid_step {w w' : World} {c g n k m : Nat} {h : Nat → Value} (M : Mid w w' c g n k m h) (hm : m < n) (hg : g < w.heap.size) : ∃ h', Mid w (w'.setCells g (m * stZ c) (mrk c k).toArray.toList) c g n k (m + 1) h' := by
  have hr := rowIs_setCells (mrk c k).toArray.toList (m * stZ c) M.row
  refine ⟨_, M.chg.setCells (Or.inl rfl) _ _, by rw [size_setCells]; exact M.size, M.mb.of_block (heap_setCells (by omega) _ _ _), hr, fun j hj => ?_⟩
  have hl : (mrk c k).toArray.toList.length = stZ c := by simp [mk_len]
  rw [Nat.add_mul, Nat.one_mul] at hj
  rw [hl]
  by_cases e : m * stZ c ≤ j
  · rw [if_pos ⟨e, hj⟩]
    obtain ⟨i, rfl⟩ : ∃ i, j = m * stZ c + i := ⟨j - m * stZ c, by omega⟩
    have hi : i < stZ c := by omega
    rw [show m * stZ c + i - m * stZ c = i by omega, List.getD_eq_getElem?_getD]
    simp only [List.toList_toArray]
    rw [mk_get c k i hi, Nat.mul_comm, Nat.mul_add_mod, Nat.mod_eq_of_lt hi]
    rfl
  · rw [if_neg (by omega)]
    exact M.full j (by omega)

/-- Behind that: w is the world at the start (its next block is the mark's). -/
structure Aft (w w' : World) (bb H c g k L p g' cap : Nat) (V V' : Nat → Value) (N N' : Nat → Nat) (X' : Nat → List Value) (A A' : Nat → Option (Nat × Nat × Nat)) : Prop where
  book : BookOk w' bb H V' N' X' A'
  own : w'.ownsRow H (stTy c) (stZ c) (.slice (some ⟨g', 0, none⟩) L cap) L (mks c k L)
  held : A' g' = some (c, k, L)
  chg : Chg (fun x => x = bb ∨ x = g ∨ (V c).ownBlock = some x) w w'
  mb : w'.rowIs w.heap.size (stTy c) (stZ c) (mkF c k)
  gm : g' ≠ w.heap.size
  vm : ∀ d, d < 4 → (V' d).ownBlock ≠ some w.heap.size
  nc : N' c = p
  nd : ∀ d, d ≠ c → N' d = N d
  un : ∀ x, x < w.heap.size → x ≠ g → A x = none → (∀ d, d < 4 → (V d).ownBlock ≠ some x) → A' x = none ∧ ∀ d, d < 4 → (V' d).ownBlock ≠ some x
  vc : ∀ x, (V' c).ownBlock = some x → (V c).ownBlock = some x ∨ w.heap.size ≤ x
  gg : g' = g ∨ w.heap.size ≤ g'
  bs : bb < w.heap.size
  size : w.heap.size + 1 ≤ w'.heap.size
section
variable {w w' w1 w2 : World} {bb H c g n k L p g' cap : Nat} {V V' : Nat → Value} {N N' : Nat → Nat} {X X' : Nat → List Value} {A A' : Nat → Option (Nat × Nat × Nat)} {h : Nat → Value}
theorem BookOk.alloc (B : BookOk w bb H V N X A) (o : Obj) : BookOk (w.alloc o) bb H V N X A := B.same (by simp) fun k hk _ => Below.heap_alloc w o k hk
theorem Aft.alloc (F : Aft w w' bb H c g k L p g' cap V V' N N' X' A A') (o : Obj) : Aft w (w'.alloc o) bb H c g k L p g' cap V V' N N' X' A A' :=
  ⟨F.book.alloc o, F.own.alloc o, F.held, F.chg.alloc o, F.mb.alloc o, F.gm, F.vm, F.nc, F.nd, F.un, F.vc, F.gg, F.bs, by have := F.size; simp; omega⟩
theorem Aft.cell (F : Aft w w' bb H c g k L p g' cap V V' N N' X' A A') (hc : c < 3) : w'.cell? ⟨bb, c, none⟩ = some (V' c) := F.book.lists.cell (by show c < 4; omega)
theorem aft_start (B : BookOk w bb H V N X A) (hc : c < 3) (hn : n ≤ 32) (hg : H ≤ g) (hg' : g < w.heap.size) (hA : A g = none) (hV : ∀ d, d < 4 → (V d).ownBlock ≠ some g) (hk : N c = k) (M : Mid w w' c g n k n h) :
    Aft w w' bb H c g k n k g n V V N N X A (up A g (some (c, k, n))) := by
  have bbH := B.bbH
  have hH := B.hH
  have full : w'.rowIs g (stTy c) (n * stZ c) (fun j => mkF c k (j % stZ c)) := M.row.congr fun j hj => M.full j hj
  have hO := owns_of_row (H := H) full hg (by simp [maxLen]; omega) rfl
  refine ⟨B.mark M.chg.size (fun q hq _ hne => M.chg.block q hq hne) hc hg (by have := M.size; omega) (fun c' k' L' e => by rw [hA] at e; cases e) hV (fun j hj => owns_range hO j hj), hO, up_same _ _ _, M.chg.weak fun x _ e => Or.inr (Or.inl e), M.mb, by omega, fun d hd e => ?_, hk, fun _ _ => rfl, fun x _ hx h1 h2 => ⟨by rw [up_other _ _ hx]; exact h1, h2⟩, fun x e => Or.inl e, Or.inl rfl, by omega, by have := M.size; omega⟩
  have := ((B.lists.own d hd).lt _ e).2
  omega
/-- The list has grown by a mark. -/
theorem Aft.grow (F : Aft w w' bb H c g k L p g' cap V V' N N' X' A A') (hc : c < 3) (hL : L ≤ 63) (b : Chg (fun _ => False) w' w1) {g2 cap2 : Nat} (o2 : w2.ownsRow H (stTy c) (stZ c) (.slice (some ⟨g2, 0, none⟩) (L + 1) cap2) (L + 1) (mks c k L ++ mrk c k)) (gr : w1.grownBy w2 (some g')) (lies : g2 = g' ∨ (g2 = w1.heap.size ∧ w1.grownBy w2 none)) (lt : g2 < w2.heap.size) :
    Aft w w2 bb H c g k (L + 1) p g2 cap2 V V' N N' X' A (up A' g2 (some (c, k, L + 1))) := by
  have bbH := F.book.bbH
  have hH := F.book.hH
  rw [← mks_succ] at o2
  have hb : ∀ q, q < w'.heap.size → q ≠ g' → w2.heap[q]? = w'.heap[q]? := fun q hq hne => by
    rw [gr.block q (Nat.lt_of_lt_of_le hq b.size) (by intro e; exact hne (by simpa using e)), b.block q hq (fun h => h)]
  have hg2 : g2 = g' ∨ w'.heap.size ≤ g2 := by
    rcases lies with h | ⟨h, _⟩
    · left; exact h
    · right; have := b.size; omega
  obtain ⟨x1, x2, x3, x4, x5⟩ := F.book.blk g' c k L F.held
  have sz := F.size
  have hm2 : g2 ≠ w.heap.size := by rcases hg2 with h | h; rw [h]; exact F.gm; omega
  have hV2 : ∀ d, d < 4 → (V' d).ownBlock ≠ some g2 := fun d hd e => by
    rcases hg2 with h | h
    · rw [h] at e; exact x4 d hd e
    · have := ((F.book.lists.own d hd).lt _ e).2; omega
  refine ⟨F.book.mark (Nat.le_trans b.size gr.size) (fun q hq _ hne => ?_) hc (by rcases hg2 with h | h <;> omega) lt (fun c' k' L' e => ?_) hV2 (fun j hj => owns_range o2 j hj), o2, up_same _ _ _, ?_, F.mb.of_block (hb _ (by omega) (Ne.symm F.gm)), hm2, F.vm, F.nc, F.nd, fun x hx hne h1 h2 => ?_, F.vc, ?_, F.bs, by have := b.size; have := gr.size; omega⟩
  · by_cases e : q = g'
    · subst e
      rcases lies with h | ⟨h, gn⟩
      · exact absurd h.symm hne
      · rw [gn.block q (Nat.lt_of_lt_of_le hq b.size) (by simp), b.block q hq (fun h => h)]
    · exact hb q hq e
  · rcases hg2 with h | h
    · rw [h, F.held] at e
      obtain ⟨rfl, rfl, rfl⟩ : c = c' ∧ k = k' ∧ L = L' := by simpa using e
      exact ⟨rfl, rfl, by omega⟩
    · have := (F.book.blk _ _ _ _ e).2.2.1; omega
  · refine F.chg.trans (Q := fun x => x = g') ⟨gr.os.trans b.os, gr.tape.trans b.tape, gr.output.trans b.output, Nat.le_trans b.size gr.size, fun q hq hne => hb q hq hne⟩ (fun x hx e => ?_)
    rcases F.gg with h | h
    · exact Or.inr (Or.inl (e.trans h))
    · omega
  · obtain ⟨y1, y2⟩ := F.un x hx hne h1 h2
    refine ⟨?_, y2⟩
    rw [up_other _ _ ?_]; exact y1
    rintro rfl
    rcases hg2 with h | h
    · rw [h] at y1; rw [F.held] at y1; cases y1
    · omega
  · rcases hg2 with h | h
    · rw [h]; exact F.gg
    · right; omega
/-- An entry was put into the book. -/
theorem Aft.push (F : Aft w w' bb H c g k L p g' cap V V' N N' X' A A') (hc : c < 3) (b : Chg (fun _ => False) w' w1) {V2 : Nat → Value} {N2 : Nat → Nat} {X2 : Nat → List Value} (B2 : BookOk w2 bb H V2 N2 X2 A') (P : Pushed w1 w2 bb c V' V2 N' N2) :
    Aft w w2 bb H c g k L (p + 1) g' cap V V2 N N2 X2 A A' := by
  have bbH := F.book.bbH
  obtain ⟨x1, x2, x3, x4, x5⟩ := F.book.blk g' c k L F.held
  have sz := F.size
  have hb : ∀ q, q < w'.heap.size → q ≠ bb → (V' c).ownBlock ≠ some q → w2.heap[q]? = w'.heap[q]? := fun q hq h1 h2 => by
    rw [P.chg.block q (Nat.lt_of_lt_of_le hq b.size) (by rintro (h | h); exact h1 h; exact h2 h), b.block q hq (fun h => h)]
  have far : ∀ q, (V2 c).ownBlock = some q → (V' c).ownBlock = some q ∨ w'.heap.size ≤ q := fun q hq => by
    rcases P.far q hq with h | h
    · exact Or.inl h
    · exact Or.inr (Nat.le_trans b.size h)
  have hVd : ∀ d, d < 4 → ∀ q, q < w'.heap.size → (V' d).ownBlock ≠ some q → (V2 d).ownBlock ≠ some q := fun d hd q hq hne e => by
    by_cases ed : d = c
    · subst ed
      rcases far q e with h | h
      · exact hne h
      · omega
    · rw [P.vs d ed] at e; exact hne e
  refine ⟨B2, ?_, F.held, ?_, F.mb.of_block (hb _ (by omega) (by have := F.bs; omega) (F.vm c (by omega))), F.gm, fun d hd => hVd d hd _ (by omega) (F.vm d hd), by rw [P.ns, up_same, F.nc], fun d hd => by rw [P.ns, up_other _ _ hd]; exact F.nd d hd, fun x hx hne h1 h2 => ?_, fun x e => ?_, F.gg, F.bs, by have := b.size; have := P.chg.size; omega⟩
  · refine ⟨F.own.1, ?_⟩
    rcases F.own.2 with hn | ⟨q, cp, cur, e, hq, hqq, rest⟩
    · exact Or.inl hn
    · have eq : q = g' := by
        injection e with e1 _ _
        injection e1 with e2
        injection e2 with e3 _ _
        exact e3.symm
      subst eq
      exact Or.inr ⟨q, cp, cur, e, hq, by rw [hb q x3 (by omega) (x4 c (by omega))]; exact hqq, rest⟩
  · refine F.chg.trans (Q := fun x => x = bb ∨ (V' c).ownBlock = some x) ⟨P.chg.os.trans b.os, P.chg.tape.trans b.tape, P.chg.output.trans b.output, Nat.le_trans b.size P.chg.size, fun q hq hne => hb q hq (fun h => hne (Or.inl h)) (fun h => hne (Or.inr h))⟩ (fun x hx e => ?_)
    rcases e with e | e
    · exact Or.inl e
    · rcases F.vc x e with h | h
      · exact Or.inr (Or.inr h)
      · omega
  · obtain ⟨y1, y2⟩ := F.un x hx hne h1 h2
    exact ⟨y1, fun d hd => hVd d hd x (by omega) (y2 d hd)⟩
  · rcases far x e with h | h
    · exact F.vc x h
    · right; omega
end
/-- What holds behind a list was put into the book. -/
structure Owned (w w' : World) (bb c g : Nat) (V V' : Nat → Value) (N N' : Nat → Nat) (A A' : Nat → Option (Nat × Nat × Nat)) : Prop where
  chg : Chg (fun x => x = bb ∨ x = g ∨ (V c).ownBlock = some x) w w'
  nc : N' c = N c + 4
  nd : ∀ d, d ≠ c → N' d = N d
  un : ∀ x, x < w.heap.size → x ≠ g → A x = none → (∀ d, d < 4 → (V d).ownBlock ≠ some x) → A' x = none ∧ ∀ d, d < 4 → (V' d).ownBlock ≠ some x
end Go.Proofs.YtcgabodkegcpgaaGreatDoor
