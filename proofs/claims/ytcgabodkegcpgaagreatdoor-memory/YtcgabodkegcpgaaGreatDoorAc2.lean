/- A script as the reader reads it: its calls are numbers of 64 bits; how many acts there may be. -/
import Derived.Test.YtcgabodkegcpgaaGreatDoorLve
import Derived.Test.YtcgabodkegcpgaaGreatDoorPl3
import Derived.SizedLaws
namespace Go.Proofs.YtcgabodkegcpgaaGreatDoor
open Go.ChangeShapes Go.WideShapes Go.ChangeAt Go.RowKit Go.Deep
set_option linter.unusedVariables false
section
variable {H : Type} {enc : TypeId × Value → H} {w : World} {base : Nat} {spare : Nat → Bool} {held : Bool} {fuel : Nat} {cs : List Value} {x : DataW H × List MemPlace}
set_option maxRecDepth 100000 in
theorem open_act2 (h : DataW.trod enc Tryz.prog w base spare held fuel 29 cs = some x) : ∃ k s c a0 a1 a2 o0 o1 o2 b, cs = actCells k s c a0 a1 a2 o0 o1 o2 b ∧ -9223372036854775808 ≤ c ∧ c < 9223372036854775808 := by
  obtain ⟨xs, n, _, _, hl, hlen, hf⟩ := DataW.trod_struct Tryz.underlying29 h
  rw [cells_act] at hl
  match xs, hlen, cs, hl with
  | [y0, y1, y2, y3, y4, y5], _, [c0, c1, c2, c3, c4, c5, c6, c7, c8, c9], _ =>
    have t0 := hf 0 _ rfl
    have t1 := hf 1 _ rfl
    have t2 := hf 2 _ rfl
    have t3 := hf 3 _ rfl
    have t4 := hf 4 _ rfl
    have t5 := hf 5 _ rfl
    simp only [List.getElem?_cons_zero, List.getElem?_cons_succ] at t0 t1 t2 t3 t4 t5
    obtain ⟨k, rfl, _⟩ := open_int1 t0
    obtain ⟨s, rfl, _⟩ := open_int1 t1
    obtain ⟨c, rfl, hcl⟩ := open_int1 t2
    obtain ⟨z0, z1, z2, m, _, u0, u1, u2⟩ := trod_array3 Tryz.underlying25 cells_int t3
    obtain ⟨a0, rfl, _⟩ := open_int1 u0
    obtain ⟨a1, rfl, _⟩ := open_int1 u1
    obtain ⟨a2, rfl, _⟩ := open_int1 u2
    obtain ⟨o0, o1, o2, ho, _⟩ := open_three Tryz.underlying27 cells_op ⟨rfl, rfl⟩ ⟨rfl, rfl⟩ ⟨rfl, rfl⟩ t4
    obtain ⟨b, hb, _⟩ := DataW.trod_bool Tryz.underlying4 t5
    have ho' : [c6, c7, c8] = [.int .i64 o0, .int .i64 o1, .int .i64 o2] := ho
    have hb' : [c9] = [.bool b] := hb
    simp only [List.cons.injEq, and_true] at ho' hb'
    obtain ⟨rfl, rfl, rfl⟩ := ho'
    subst hb'
    exact ⟨k, s, c, a0, a1, a2, o0, o1, o2, b, rfl, hcl⟩

/-- A script that the reader reads is a script in memory. -/
theorem open_acts2 {v : Value} (h : DataW.trod enc Tryz.prog w base (fun _ => true) held fuel 24 [v] = some x) : ∃ a n c, v = .slice a n c ∧ ScriptIn w a n ∧ ((x.1 = .nil ∧ n = 0) ∨ ∃ el sp, x.1 = .slice el sp ∧ n ≤ el.length + sp.length) := by
  rcases open_slice Tryz.underlying24 h with ⟨hc, hx0⟩ | ⟨a, len, cap, m, n, D, Pl, hc, _, hl, hm, hmm, hx1, hx⟩
  · simp only [List.cons.injEq, and_true] at hc
    exact ⟨none, 0, 0, hc, fun i hi => by omega, Or.inl ⟨by rw [hx0], rfl⟩⟩
  · simp only [List.cons.injEq, and_true] at hc
    simp only [if_true] at hmm
    subst hmm
    refine ⟨some a, len, m, hc, fun i hi => ?_, Or.inr ⟨_, _, by rw [hx1], by simp⟩⟩
    rw [cells_act] at hx
    have key : ∀ i, i < m → ∃ cs', (∀ j, j < 10 → w.cell? ((a.add (i * 10)).add j) = cs'[j]?) ∧ ∃ k s c a0 a1 a2 o0 o1 o2 b, cs' = actCells k s c a0 a1 a2 o0 o1 o2 b ∧ -9223372036854775808 ≤ c ∧ c < 9223372036854775808 := fun i hi => by
      obtain ⟨cs', h1, h2⟩ := hx i hi
      obtain ⟨_, _, hg⟩ := World.cells?_some h1
      exact ⟨cs', hg, open_act2 h2⟩
    have sp : a.spot = none := by
      obtain ⟨cs', hg, k, s, c, a0, a1, a2, o0, o1, o2, b, rfl, _⟩ := key 0 (by omega)
      have := hg 0 (by omega)
      have h0 := (spot_of (v := .int .i64 k) this).2
      obtain ⟨p, q, r⟩ := a
      simpa [Addr.add] using h0
    obtain ⟨g, o, r⟩ := a
    obtain rfl : r = none := sp
    obtain ⟨cs', hg, k, s, c, a0, a1, a2, o0, o1, o2, b, rfl, hcl⟩ := key i (by omega)
    have hr : w.rangeAt g (o + i * 10) (actCells k s c a0 a1 a2 o0 o1 o2 b) := fun j v hv => by
      have hj : j < 10 := by
        have := (List.getElem?_eq_some_iff.1 hv).1
        exact this
      have e := hg j hj
      rw [hv] at e
      have := (spot_of e).1
      have e2 : ((⟨g, o, none⟩ : Addr).add (i * 10)).block = g ∧ ((⟨g, o, none⟩ : Addr).add (i * 10)).off = o + i * 10 := by
        unfold Addr.add; split
        · rename_i h0; simp at h0 ⊢; omega
        · simp
      rw [e2.1, e2.2] at this
      exact this
    refine ⟨g, o, k, s, c, a0, a1, a2, o0, o1, o2, b, rfl, World.block_lt_of_cell? w ⟨g, o + i * 10 + 0, none⟩ (hr 0 _ rfl), hr, hcl⟩
end
theorem bytes_act : Tryz.prog.bytesOf 29 = 80 := by kernel_rfl
/-- How many acts there may be. -/
theorem acts_le {H : Type} {ts : List TypeId} {ds : List (DataW H)} (h : (DataW.weightsEach Tryz.prog ts ds).all (· ≤ reachBytes) = true) {j n : Nat} {d : DataW H} (ht : ts[j]? = some 24) (hd : ds[j]? = some d) (hx : (d = .nil ∧ n = 0) ∨ ∃ el sp, d = .slice el sp ∧ n ≤ el.length + sp.length) : n ≤ 1759218604390 := by
  rcases hx with ⟨_, rfl⟩ | ⟨el, sp, rfl, hn⟩
  · omega
  · have := sized_slice h ht hd Tryz.underlying24
    rw [bytes_act] at this
    have e : reachBytes = 140737488351232 := rfl
    omega
end Go.Proofs.YtcgabodkegcpgaaGreatDoor
