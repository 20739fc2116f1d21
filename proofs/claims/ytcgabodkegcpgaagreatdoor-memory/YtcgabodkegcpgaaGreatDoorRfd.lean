/- The reference's in, many and things: what a call's arguments number. -/
import Derived.Test.YtcgabodkegcpgaaGreatDoorRf1
import Derived.Test.YtcgabodkegcpgaaGreatDoorNew1
import Derived.Test.YtcgabodkegcpgaaGreatDoorNea
namespace Go.Proofs.YtcgabodkegcpgaaGreatDoor
open Go.RowKit
set_option linter.unusedVariables false
set_option linter.unusedSimpArgs false
attribute [local go_sem ↓] Go.wp_at_zero Go.wp_at_succ

def inB (n m : Int) : Bool := decide (0 ≤ n) && decide (n < m)
theorem in_any (n m : Int) (w : World) :
    Calls Tryz.prog 32 #[.int .i64 n, .int .i64 m] w fun e w' => e = .returned (.bool (inB n m)) ∧ w' = w := by
  by_cases h0 : 0 ≤ n
  · by_cases h1 : n < m
    · have E : Hid (inB n m = true) := by unfold Hid inB; simp [h0, h1]
      go_enter Tryz.func32, Tryz.ntmps32
      go_wp2
      go_ret
      exact ⟨by rw [E.out]; rfl, rfl⟩
    · have E : Hid (inB n m = false) := by unfold Hid inB; simp [h1]
      go_enter Tryz.func32, Tryz.ntmps32
      go_wp2
      go_ret
      exact ⟨by rw [E.out]; rfl, rfl⟩
  · have E : Hid (inB n m = false) := by unfold Hid inB; simp [h0]
    go_enter Tryz.func32, Tryz.ntmps32
    go_wp2
    go_ret
    exact ⟨by rw [E.out]; rfl, rfl⟩

theorem inB_true' {n m : Int} : inB n m = true ↔ 0 ≤ n ∧ n < m := by unfold inB; simp
/-- The letter of a kind of thing; how many there are of it. -/
def letter (t : Int) : Int := if t = 1 then 102 else if t = 2 then 115 else if t = 3 then 99 else if t = 4 then 112 else if t = 5 then 100 else if t = 6 then 119 else 45
section
variable {w : World} {B : RB} {r : Rk} {K : Ker}
theorem many_rep (M : RMem w B r) (U : Rel K r) (t : Int) (ht : t = 1 ∨ t = 2 ∨ t = 3 ∨ t = 4 ∨ t = 5 ∨ t = 6) :
    Calls Tryz.prog 38 #[.pointer (some ⟨B.b, 0, none⟩), .int .u8 (letter t)] w fun e w' => e = .returned (.int .i64 (howMany K t)) ∧ w' = w := by
  have k0 := M.k0
  have k1 := M.k1
  have k2 : w.cell? ⟨B.b, 2, none⟩ = some (.slice (B.aq 0) r.nD (B.cq 0)) := M.k2 0 (by omega)
  have H : Hid (r.nF = K.nF ∧ r.nS = K.nS ∧ r.nD = K.nD) := ⟨U.f, U.s, U.d⟩
  have hF := M.hF
  have hS := M.hS
  have hD := M.hD
  obtain rfl | rfl | rfl | rfl | rfl | rfl := ht
  · rw [show letter 1 = 102 from rfl]
    go_enter Tryz.func38, Tryz.ntmps38
    go_wp2
    go_ret
    exact ⟨by rw [many1, ← H.out.1]; rfl, rfl⟩
  · rw [show letter 2 = 115 from rfl]
    go_enter Tryz.func38, Tryz.ntmps38
    go_wp2
    go_ret
    exact ⟨by rw [many2, ← H.out.2.1]; rfl, rfl⟩
  · rw [show letter 3 = 99 from rfl]
    go_enter Tryz.func38, Tryz.ntmps38
    go_wp2
    go_ret
    exact ⟨by rw [many3, ← H.out.2.2]; rfl, rfl⟩
  · rw [show letter 4 = 112 from rfl]
    go_enter Tryz.func38, Tryz.ntmps38
    go_wp2
    go_ret
    exact ⟨by rw [many4]; rfl, rfl⟩
  · rw [show letter 5 = 100 from rfl]
    go_enter Tryz.func38, Tryz.ntmps38
    go_wp2
    go_ret
    exact ⟨by rw [many5]; rfl, rfl⟩
  · rw [show letter 6 = 119 from rfl]
    go_enter Tryz.func38, Tryz.ntmps38
    go_wp2
    go_ret
    exact ⟨by rw [many6]; rfl, rfl⟩
end
/-- What things says of a call: a letter for each argument. -/
def thingsOf : Nat → ByteArray
  | 2 => ⟨#[112, 102, 45]⟩ | 3 => ⟨#[112, 45, 45]⟩ | 4 => ⟨#[112, 45, 45]⟩ | 5 => ⟨#[115, 102, 45]⟩ | 6 => ⟨#[115, 112, 102]⟩ | 7 => ⟨#[115, 100, 100]⟩ | 8 => ⟨#[115, 45, 45]⟩ | 10 => ⟨#[115, 112, 45]⟩ | 11 => ⟨#[115, 100, 45]⟩ | 12 => ⟨#[115, 45, 45]⟩ | 13 => ⟨#[99, 102, 100]⟩
  | 14 => ⟨#[100, 100, 45]⟩ | 15 => ⟨#[100, 45, 45]⟩ | 16 => ⟨#[100, 112, 119]⟩ | 17 => ⟨#[100, 112, 119]⟩ | 18 => ⟨#[112, 119, 45]⟩ | 19 => ⟨#[112, 119, 45]⟩ | _ => ⟨#[45, 45, 45]⟩
set_option maxHeartbeats 4000000 in
theorem things_any (n : Nat) (hn : n < 20) (h0 : n ≠ 0) (w : World) :
    Calls Tryz.prog 37 #[.int .i64 n] w fun e w' => e = .returned (.string (thingsOf n)) ∧ w' = w := by
  obtain rfl | rfl | rfl | rfl | rfl | rfl | rfl | rfl | rfl | rfl | rfl | rfl | rfl | rfl | rfl | rfl | rfl | rfl | rfl : n = 1 ∨ n = 2 ∨ n = 3 ∨ n = 4 ∨ n = 5 ∨ n = 6 ∨ n = 7 ∨ n = 8 ∨ n = 9 ∨ n = 10 ∨ n = 11 ∨ n = 12 ∨ n = 13 ∨ n = 14 ∨ n = 15 ∨ n = 16 ∨ n = 17 ∨ n = 18 ∨ n = 19 := by omega
  all_goals
    go_enter Tryz.func37, Tryz.ntmps37
    go_wp2
    go_ret
    exact ⟨rfl, rfl⟩
end Go.Proofs.YtcgabodkegcpgaaGreatDoor
namespace Go.Proofs.YtcgabodkegcpgaaGreatDoor
open Go.RowKit
set_option linter.unusedVariables false
set_option linter.unusedSimpArgs false
attribute [local go_sem ↓] Go.wp_at_zero Go.wp_at_succ

/-- Settings that may be. -/
def MayBe (x y z : Int) : Prop := (2 ≤ x ∧ x ≤ 32) ∧ (1 ≤ y ∧ y ≤ 6) ∧ (0 ≤ z ∧ z ≤ 4)
set_option maxHeartbeats 2000000 in
theorem new_bad (x y z : Int) (h : ¬ MayBe x y z) (w : World) :
    Calls Tryz.prog 12 #[.agg #[.int .i64 x, .int .i64 y, .int .i64 z]] w fun e w' => e = .returned (.tuple #[.pointer none, .int .i64 1]) ∧ Below w.heap.size w w' := by
  have HB : Hid (∀ o, Below w.heap.size w (w.alloc o)) := fun o => (Below.refl _ _).alloc (Nat.le_refl _) _
  by_cases h1 : 2 ≤ x ∧ x ≤ 32
  · have e1 : withinB x 2 32 = true := by unfold withinB; simp; omega
    by_cases h2 : 1 ≤ y ∧ y ≤ 6
    · have e2 : withinB y 1 6 = true := by unfold withinB; simp; omega
      have h3 : ¬ (0 ≤ z ∧ z ≤ 4) := fun h3 => h ⟨h1, h2, h3⟩
      have e3 : withinB z 0 4 = false := by unfold withinB; simp; omega
      go_enter Tryz.func12, Tryz.ntmps12
      go_wp2_with fail
      refine (within_any _ _ _ _).mono ?_
      rintro e w1 ⟨rfl, rfl⟩
      rw [e1]
      go_wp2_with fail
      refine (within_any _ _ _ _).mono ?_
      rintro e w1 ⟨rfl, rfl⟩
      rw [e2]
      go_wp2_with fail
      refine (within_any _ _ _ _).mono ?_
      rintro e w1 ⟨rfl, rfl⟩
      rw [e3]
      go_wp2
      go_ret2
      exact ⟨rfl, HB.out _⟩
    · have e2 : withinB y 1 6 = false := by unfold withinB; simp; omega
      go_enter Tryz.func12, Tryz.ntmps12
      go_wp2_with fail
      refine (within_any _ _ _ _).mono ?_
      rintro e w1 ⟨rfl, rfl⟩
      rw [e1]
      go_wp2_with fail
      refine (within_any _ _ _ _).mono ?_
      rintro e w1 ⟨rfl, rfl⟩
      rw [e2]
      go_wp2
      go_ret2
      exact ⟨rfl, HB.out _⟩
  · have e1 : withinB x 2 32 = false := by unfold withinB; simp; omega
    go_enter Tryz.func12, Tryz.ntmps12
    go_wp2_with fail
    refine (within_any _ _ _ _).mono ?_
    rintro e w1 ⟨rfl, rfl⟩
    rw [e1]
    go_wp2
    go_ret2
    exact ⟨rfl, HB.out _⟩
set_option maxRecDepth 100000 in
set_option maxHeartbeats 2000000 in
theorem rnew_bad (x y z : Int) (hx : -9223372036854775808 ≤ x ∧ x < 9223372036854775808) (hy : -9223372036854775808 ≤ y ∧ y < 9223372036854775808) (h : ¬ MayBe x y z) (w : World) :
    Calls Tryz.prog 13 #[.agg #[.int .i64 x, .int .i64 y, .int .i64 z]] w fun e w' => e = .returned (.tuple #[.pointer none, .int .i64 1]) ∧ Below w.heap.size w w' := by
  have HB : Hid (∀ o, Below w.heap.size w (w.alloc o)) := fun o => (Below.refl _ _).alloc (Nat.le_refl _) _
  have w1 : 0 ≤ wrap64 (x - 2) ∧ wrap64 (x - 2) < 31 → 2 ≤ x ∧ x ≤ 32 := by unfold wrap64; omega
  have w2 : 0 ≤ wrap64 (y - 1) ∧ wrap64 (y - 1) < 6 → 1 ≤ y ∧ y ≤ 6 := by unfold wrap64; omega
  have key : (inB (wrap64 (x - 2)) 31 && (inB (wrap64 (y - 1)) 6 && inB z 5)) = false := by
    rw [Bool.eq_false_iff]; intro hh
    simp only [Bool.and_eq_true, inB_true'] at hh
    exact h ⟨w1 hh.1, w2 hh.2.1, by omega⟩
  clear w1 w2 hx hy h
  generalize e1 : inB (wrap64 (x - 2)) 31 = b1 at key
  generalize e2 : inB (wrap64 (y - 1)) 6 = b2 at key
  generalize e3 : inB z 5 = b3 at key
  go_enter Tryz.func13, Tryz.ntmps13
  go_wp2_with fail
  refine (in_any _ _ _).mono ?_
  rintro e w1 ⟨rfl, rfl⟩
  rw [e1]
  go_wp2_with fail
  refine (in_any _ _ _).mono ?_
  rintro e w1 ⟨rfl, rfl⟩
  rw [e2]
  go_wp2_with fail
  refine (in_any _ _ _).mono ?_
  rintro e w1 ⟨rfl, rfl⟩
  rw [e3]
  clear e1 e2 e3
  cases b1 <;> cases b2 <;> cases b3
  all_goals first | (exfalso; exact absurd key (by decide)) | skip
  all_goals
    clear key
    go_wp2
    go_ret2
    exact ⟨rfl, HB.out _⟩
end Go.Proofs.YtcgabodkegcpgaaGreatDoor
namespace Go.Proofs.YtcgabodkegcpgaaGreatDoor
set_option linter.unusedVariables false
set_option linter.unusedSimpArgs false

structure Ended (K : Ker) : Prop where
  h : ∀ d, d < K.nD → 0 ≤ K.D d 0 → ¬ (K.D d 3 = 0 ∧ K.D d 4 = 0)
theorem Ended.same {K K' : Ker} (E : Ended K) (z : K'.nD = K.nD) (h : ∀ d, K'.D d 0 = K.D d 0 ∧ K'.D d 3 = K.D d 3 ∧ K'.D d 4 = K.D d 4) : Ended K' := ⟨fun d hd h0 => by
  rw [z] at hd; rw [(h d).1] at h0; rw [(h d).2.1, (h d).2.2]; exact E.h d hd h0⟩
theorem Ended.D {K K' : Ker} (E : Ended K) (hD : K'.D = K.D) (hn : K'.nD = K.nD) : Ended K' := ⟨fun d hd h0 => by rw [hD] at h0 ⊢; rw [hn] at hd; exact E.h d hd h0⟩
theorem ended_count {K : Ker} (n : Nat) (E : ∀ d, d < K.nD → d ≠ n → 0 ≤ K.D d 0 → ¬ (K.D d 3 = 0 ∧ K.D d 4 = 0)) (b : Bool) (h3 : 0 ≤ K.D n 3) (h4 : 0 ≤ K.D n 4) : Ended (K.count n b 1) := by
  refine ⟨fun d hd h0 => ?_⟩
  have c := count_D K n b 1 d
  have z := count_zero K n b 1 d
  have sz := count_sizes K n b 1
  rw [sz.2.2.1] at hd
  rw [z] at h0
  rw [c.1, c.2]
  by_cases e : d = n
  · subst e
    cases b
    · rw [if_pos ⟨rfl, rfl⟩]; omega
    · rw [if_pos (show d = d ∧ true = true from ⟨rfl, rfl⟩)]; omega
  · rw [if_neg (by omega), if_neg (by omega)]; exact E d hd e h0
theorem ended_openFile {K : Ker} (n : Nat) (E : ∀ d, d < K.nD → d ≠ n → 0 ≤ K.D d 0 → ¬ (K.D d 3 = 0 ∧ K.D d 4 = 0)) (s x : Nat) (b : Bool) (h3 : 0 ≤ K.D n 3) (h4 : 0 ≤ K.D n 4) : Ended (K.openFile s x n b) :=
  ended_count (K := K.setFile s x n b) n E b h3 h4
theorem ended_pipe {K : Ker} (E : Ended K) {s n f x : Nat} : Ended (kPipe K s n f x).K := by
  by_cases h0 : K.D n 0 ≠ -1
  · unfold kPipe; rw [if_pos h0]; exact E
  by_cases h1 : K.F f 0 ≠ 0
  · unfold kPipe; rw [if_neg h0, if_pos h1]; exact E
  have e0 : (K.become f 3 (-1)).D = K.D := rfl
  have z0 : (K.become f 3 (-1)).nD = K.nD := rfl
  unfold kPipe
  rw [if_neg h0, if_neg h1]
  generalize K.become f 3 (-1) = K0 at *
  have D1 : ∀ i c, (K0.noDuct n f).D i c = if i = n ∧ c < 5 then (if c = 0 then (f : Int) else 0) else K.D i c := fun i c => by rw [noDuct_D, e0]
  have z1 : (K0.noDuct n f).nD = K.nD := z0
  generalize K0.noDuct n f = K1 at *
  split
  · exact E
  have E1 : ∀ d, d < K1.nD → d ≠ n → 0 ≤ K1.D d 0 → ¬ (K1.D d 3 = 0 ∧ K1.D d 4 = 0) := fun d hd hne hp => by
    rw [D1, if_neg (by omega)] at hp
    rw [D1, D1, if_neg (by omega), if_neg (by omega)]
    exact E.h d (by omega) hp
  have q3 : 0 ≤ K1.D n 3 := by rw [D1]; simp
  have q4 : 0 ≤ K1.D n 4 := by rw [D1]; simp
  have E2 : Ended (K1.openFile s x n false) := ended_openFile n E1 s x false q3 q4
  have p3 : 0 ≤ (K1.openFile s x n false).D n 3 := by
    show 0 ≤ ((K1.setFile s x n false).count n false 1).D n 3
    rw [(count_D _ n false 1 n).1, if_pos ⟨rfl, rfl⟩]
    show 0 ≤ K1.D n 3 + 1; omega
  have p4 : 0 ≤ (K1.openFile s x n false).D n 4 := by
    show 0 ≤ ((K1.setFile s x n false).count n false 1).D n 4
    rw [(count_D _ n false 1 n).2, if_neg (by simp)]
    exact q4
  show Ended ((K1.openFile s x n false).openFile s (x + 1) n true)
  generalize K1.openFile s x n false = K2 at *
  exact ended_openFile n (fun d hd _ hp => E2.h d hd hp) s (x + 1) true p3 p4
theorem ended_closeFile {K : Ker} (E : Ended K) {s x : Nat} : Ended (K.closeFile s x) := by
  unfold Ker.closeFile
  generalize (K.file s x).toNat = d
  generalize K.end s x = b
  show Ended (if ((K.setFile s x (-1) false).count d b (-1)).D d 3 = 0 ∧ ((K.setFile s x (-1) false).count d b (-1)).D d 4 = 0 then (((K.setFile s x (-1) false).count d b (-1)).become (((K.setFile s x (-1) false).count d b (-1)).D d 0).toNat 0 (-1)).noDuct d (-1) else (K.setFile s x (-1) false).count d b (-1))
  have E1 : ∀ e, e < ((K.setFile s x (-1) false).count d b (-1)).nD → e ≠ d → 0 ≤ ((K.setFile s x (-1) false).count d b (-1)).D e 0 → ¬ (((K.setFile s x (-1) false).count d b (-1)).D e 3 = 0 ∧ ((K.setFile s x (-1) false).count d b (-1)).D e 4 = 0) := fun e he hne hp => by
    have c := count_D (K.setFile s x (-1) false) d b (-1) e
    have z := count_zero (K.setFile s x (-1) false) d b (-1) e
    have sz := count_sizes (K.setFile s x (-1) false) d b (-1)
    rw [sz.2.2.1] at he
    rw [z] at hp
    rw [c.1, c.2, if_neg (by omega), if_neg (by omega)]
    exact E.h e he hp
  generalize (K.setFile s x (-1) false).count d b (-1) = K1 at *
  split
  · have e0 : (K1.become (K1.D d 0).toNat 0 (-1)).D = K1.D := rfl
    have z0 : (K1.become (K1.D d 0).toNat 0 (-1)).nD = K1.nD := rfl
    generalize K1.become (K1.D d 0).toNat 0 (-1) = K0 at *
    have D2 : ∀ i c, (K0.noDuct d (-1)).D i c = if i = d ∧ c < 5 then (if c = 0 then (-1 : Int) else 0) else K1.D i c := fun i c => by rw [noDuct_D, e0]
    have z2 : (K0.noDuct d (-1)).nD = K1.nD := z0
    generalize K0.noDuct d (-1) = K2 at *
    refine ⟨fun e he hp => ?_⟩
    rw [D2] at hp
    by_cases k : e = d
    · subst k; simp at hp
    · rw [if_neg (by omega)] at hp
      rw [D2, D2, if_neg (by omega), if_neg (by omega)]
      exact E1 e (by omega) k hp
  · rename_i hz
    refine ⟨fun e he hp => ?_⟩
    by_cases k : e = d
    · subst k; exact hz
    · exact E1 e he k hp

theorem D_setF (K : Ker) (i c : Nat) (v : Int) : (K.setF i c v).D = K.D ∧ (K.setF i c v).nD = K.nD := ⟨rfl, rfl⟩
theorem D_setS (K : Ker) (i c : Nat) (v : Int) : (K.setS i c v).D = K.D ∧ (K.setS i c v).nD = K.nD := ⟨rfl, rfl⟩
theorem D_setB (K : Ker) (i c : Nat) (v : Bool) : (K.setB i c v).D = K.D ∧ (K.setB i c v).nD = K.nD := ⟨rfl, rfl⟩
theorem D_setPage (K : Ker) (s p : Nat) (f : Int) (b : Bool) : (K.setPage s p f b).D = K.D ∧ (K.setPage s p f b).nD = K.nD := ⟨rfl, rfl⟩
theorem D_become (K : Ker) (f : Nat) (a b : Int) : (K.become f a b).D = K.D ∧ (K.become f a b).nD = K.nD := ⟨rfl, rfl⟩
theorem D_copyWords (K : Ker) (g h : Nat) : (K.copyWords g h).D = K.D ∧ (K.copyWords g h).nD = K.nD := ⟨rfl, rfl⟩
theorem D_noSlot (K : Ker) (c : Nat) : (K.noSlot c).D = K.D ∧ (K.noSlot c).nD = K.nD := ⟨rfl, rfl⟩
theorem D_freePage (K : Ker) (s p : Nat) : (K.freePage s p).D = K.D ∧ (K.freePage s p).nD = K.nD := by
  unfold Ker.freePage; exact ⟨(D_setPage _ _ _ _ _).1.trans (D_become _ _ _ _).1, (D_setPage _ _ _ _ _).2.trans (D_become _ _ _ _).2⟩
theorem ended_do {K : Ker} (E : Ended K) (G : Good K) (s n : Nat) (a b c : Int) (hs : s < K.nS) (hn : n < 20)
    (hf : fits K ((argKinds n).getD 0 0) a = true ∧ fits K ((argKinds n).getD 1 0) b = true ∧ fits K ((argKinds n).getD 2 0) c = true) : Ended (kDo K s n a b c).K := by
  obtain ⟨f0, f1, f2⟩ := hf
  have m1 := many1 K; have m2 := many2 K; have m3 := many3 K; have m4 := many4 K; have m5 := many5 K; have m6 := many6 K
  have op : ∀ (c' x' y' t' : Nat), c' < K.nS → x' < 4 → K.file c' x' ≠ -1 → Ended (K.openFile y' t' (K.file c' x').toNat (K.end c' x')) := fun c' x' y' t' hc' hx' hne => by
    have hg := G.file c' x' hc' hx'
    exact ended_openFile _ (fun d hd _ hp => E.h d hd hp) _ _ _ (G.rd _ (by omega)).1 (G.wt _ (by omega)).1
  obtain rfl | rfl | rfl | rfl | rfl | rfl | rfl | rfl | rfl | rfl | rfl | rfl | rfl | rfl | rfl | rfl | rfl | rfl | rfl | rfl : n = 0 ∨ n = 1 ∨ n = 2 ∨ n = 3 ∨ n = 4 ∨ n = 5 ∨ n = 6 ∨ n = 7 ∨ n = 8 ∨ n = 9 ∨ n = 10 ∨ n = 11 ∨ n = 12 ∨ n = 13 ∨ n = 14 ∨ n = 15 ∨ n = 16 ∨ n = 17 ∨ n = 18 ∨ n = 19 := by omega
  · exact E
  · exact E
  · show Ended (kMap K s a.toNat b.toNat).K
    unfold kMap; split
    · exact E
    split
    · exact E
    · refine E.D ?_ ?_ <;> simp only [D_setF, D_setS, D_setB, D_setPage, D_become, D_copyWords, D_noSlot, D_freePage]
  · show Ended (kUnmap K s a.toNat).K
    unfold kUnmap; split
    · exact E
    · refine E.D ?_ ?_ <;> simp only [D_setF, D_setS, D_setB, D_setPage, D_become, D_copyWords, D_noSlot, D_freePage]
  · show Ended (kProtect K s a.toNat b).K
    unfold kProtect; split
    · exact E
    · refine E.D ?_ ?_ <;> simp only [D_setF, D_setS, D_setB, D_setPage, D_become, D_copyWords, D_noSlot, D_freePage]
  · show Ended (kSpawn K s a.toNat b.toNat).K
    unfold kSpawn; split
    · exact E
    split
    · exact E
    · refine E.D ?_ ?_ <;> simp only [D_setF, D_setS, D_setB, D_setPage, D_become, D_copyWords, D_noSlot, D_freePage]
  · show Ended (kCopy K s a.toNat b.toNat c.toNat).K
    unfold kCopy; split
    · exact E
    split
    · exact E
    split
    · exact E
    · refine E.D ?_ ?_ <;> simp only [D_setF, D_setS, D_setB, D_setPage, D_become, D_copyWords, D_noSlot, D_freePage]
  · obtain ⟨b', rfl, hb⟩ := fits_num (t := 5) f1 (by decide)
    show Ended (kGive K s a.toNat (b' : Int).toNat c.toNat).K
    rw [Int.toNat_natCast]
    unfold kGive; split
    · exact E
    split
    · exact E
    · exact op s b' _ _ hs (by omega) (by omega)
  · show Ended (kStart K s a.toNat).K
    unfold kStart; split
    · exact E
    · refine E.D ?_ ?_ <;> simp only [D_setF, D_setS, D_setB, D_setPage, D_become, D_copyWords, D_noSlot, D_freePage]
  · show Ended (kExit K s a).K
    unfold kExit; split
    · exact E
    · have D' : ∀ (K' : Ker) n, (K'.orphans s n).D = K'.D ∧ (K'.orphans s n).nD = K'.nD := fun K' n => by
        induction n with
        | zero => exact ⟨rfl, rfl⟩
        | succ n ih => unfold Ker.orphans; split <;> exact ih
      refine E.same ?_ (fun d => ?_)
      · exact (D' _ _).2
      · show (((K.setS s 0 3).setS s 19 a).orphans s K.nS).D d 0 = _ ∧ (((K.setS s 0 3).setS s 19 a).orphans s K.nS).D d 3 = _ ∧ (((K.setS s 0 3).setS s 19 a).orphans s K.nS).D d 4 = _
        rw [(D' _ _).1]; exact ⟨rfl, rfl, rfl⟩
  · show Ended (kDrop K s a.toNat b.toNat).K
    unfold kDrop; split
    · exact E
    split
    · exact E
    · refine E.D ?_ ?_ <;> simp only [D_setF, D_setS, D_setB, D_setPage, D_become, D_copyWords, D_noSlot, D_freePage]
  · show Ended (kShut K s a.toNat b.toNat).K
    unfold kShut; split
    · exact E
    split
    · exact E
    · exact ended_closeFile E
  · show Ended (kReap K s a.toNat).K
    unfold kReap; split
    · exact E
    split
    · exact E
    split
    · exact E
    · refine E.D ?_ ?_ <;> simp only [D_setF, D_setS, D_setB, D_setPage, D_become, D_copyWords, D_noSlot, D_freePage]
  · exact ended_pipe E
  · obtain ⟨a', rfl, ha⟩ := fits_num (t := 5) f0 (by decide)
    show Ended (kDup K s (a' : Int).toNat b.toNat).K
    rw [Int.toNat_natCast]
    unfold kDup; split
    · exact E
    · exact op s a' _ _ hs (by omega) (by omega)
  · show Ended (kClose K s a.toNat).K
    unfold kClose; split
    · exact E
    · exact ended_closeFile E
  · show Ended (kWrite K s a.toNat b.toNat c.toNat).K
    unfold kWrite; split
    · exact E
    split
    · exact E
    split
    · exact E
    split
    · exact E
    · exact E.same rfl (fun d => ⟨upd_other _ _ _ _ _ _ (by omega), upd_other _ _ _ _ _ _ (by omega), upd_other _ _ _ _ _ _ (by omega)⟩)
  · show Ended (kRead K s a.toNat b.toNat c.toNat).K
    unfold kRead; split
    · exact E
    split
    · exact E
    split
    · exact E
    split
    · exact E
    · refine Ended.same (K := K) E rfl (fun d => ⟨?_, ?_, ?_⟩)
      all_goals exact (upd_other _ _ _ _ _ _ (by omega)).trans (upd_other _ _ _ _ _ _ (by omega))
  · show Ended (kLoad K s a.toNat b.toNat).K
    unfold kLoad; split
    · exact E
    · refine E.D ?_ ?_ <;> simp only [D_setF, D_setS, D_setB, D_setPage, D_become, D_copyWords, D_noSlot, D_freePage]
  · show Ended (kStore K s a.toNat b.toNat c).K
    unfold kStore; split
    · exact E
    · refine E.D ?_ ?_ <;> simp only [D_setF, D_setS, D_setB, D_setPage, D_become, D_copyWords, D_noSlot, D_freePage]
theorem ended_call {K : Ker} (E : Ended K) (G : Good K) (slot call a b c : Int) : Ended (kCall K slot call a b c).K :=
  call_cases K slot call a b c (fun o => Ended o.K) (fun _ => E) (fun s n _ hs _ hn hf => ended_do E G s n a b c hs hn hf)

/-- The books behind the first half of closing: the file is none, its end is counted one less. -/
theorem inv_close1 {K : Ker} (I : Inv K) {s x d : Nat} (hs : s < K.nS) (hx : x < 4) (hd : K.file s x = d) : Inv ((K.setFile s x (-1) false).count d (K.end s x) (-1)) := by
  have hF := I.good.file s x hs hx
  have hdn : d < K.nD := by omega
  rw [hd, Int.toNat_natCast] at hF
  generalize hb : K.end s x = b
  have sz := count_sizes (K.setFile s x (-1) false) d b (-1)
  have EE : ∀ d' b', ((K.setFile s x (-1) false).count d b (-1)).ends d' b' + (if d = d' ∧ b = b' then 1 else 0) = K.ends d' b' := fun d' b' => by
    rw [ends_count]
    have h := ends_setFile K s x (-1) false hs hx d' b'
    rw [hd, hb, if_neg (show ¬ ((-1 : Int) = (d' : Int) ∧ false = b') by omega)] at h
    have e : ((d : Int) = (d' : Int) ∧ b = b') ↔ (d = d' ∧ b = b') := ⟨fun k => ⟨by omega, k.2⟩, fun k => ⟨by omega, k.2⟩⟩
    simp only [e] at h
    omega
  have D3 : ∀ i, ((K.setFile s x (-1) false).count d b (-1)).D i 3 = if i = d ∧ b = false then K.D d 3 + -1 else K.D i 3 := fun i => (count_D (K.setFile s x (-1) false) d b (-1) i).1
  have D4 : ∀ i, ((K.setFile s x (-1) false).count d b (-1)).D i 4 = if i = d ∧ b = true then K.D d 4 + -1 else K.D i 4 := fun i => (count_D (K.setFile s x (-1) false) d b (-1) i).2
  have r3 := I.rds d hdn
  have r4 := I.wts d hdn
  have b3 := I.bounds (d := d) false
  have b4 := I.bounds (d := d) true
  have Ed := EE d b
  rw [if_pos ⟨rfl, rfl⟩] at Ed
  have G : Good ((K.setFile s x (-1) false).count d b (-1)) := by
    have G1 : Good (K.setFile s x (-1) false) := good_setFile I.good s x (-1) false hx (Or.inl rfl)
    cases b
    · exact good_setD G1 d 3 (K.D d 3 + -1) (by omega)
    · exact good_setD G1 d 4 (K.D d 4 + -1) (by omega)
  refine ⟨G, by rw [sz.2.1]; exact I.hS, fun d' hd' => ?_, fun d' hd' => ?_⟩
  · rw [sz.2.2.1] at hd'
    have := EE d' false
    have h' := I.rds d' hd'
    rw [D3 d']
    by_cases e : d' = d ∧ b = false
    · obtain ⟨rfl, rfl⟩ := e
      rw [if_pos ⟨rfl, rfl⟩]; rw [if_pos ⟨rfl, rfl⟩] at this; omega
    · rw [if_neg e]; rw [if_neg (by intro h; exact e ⟨h.1.symm, h.2⟩)] at this; omega
  · rw [sz.2.2.1] at hd'
    have := EE d' true
    have h' := I.wts d' hd'
    rw [D4 d']
    by_cases e : d' = d ∧ b = true
    · obtain ⟨rfl, rfl⟩ := e
      rw [if_pos ⟨rfl, rfl⟩]; rw [if_pos ⟨rfl, rfl⟩] at this; omega
    · rw [if_neg e]; rw [if_neg (by intro h; exact e ⟨h.1.symm, h.2⟩)] at this; omega
end Go.Proofs.YtcgabodkegcpgaaGreatDoor
namespace Go.Proofs.YtcgabodkegcpgaaGreatDoor
set_option linter.unusedVariables false

theorem new_S (nF nS nD i j : Nat) : (kNew nF nS nD).S i j = if i = 0 ∧ j = 2 then 0 else if i = 0 ∧ j = 0 then 2 else if j = 0 ∨ j = 19 then 0 else -1 := by
  show upd (upd (fun _ c => if c = 0 ∨ c = 19 then (0 : Int) else -1) 0 0 2) 0 2 0 i j = _
  unfold upd
  rfl
theorem new_B (nF nS nD i j : Nat) : (kNew nF nS nD).B i j = false := rfl
theorem new_D (nF nS nD i j : Nat) : (kNew nF nS nD).D i j = if j = 0 then -1 else 0 := rfl
theorem new_F (nF nS nD i j : Nat) : (kNew nF nS nD).F i j = if i = 0 then (if j = 0 then 1 else 0) else if j = 1 then -1 else 0 := by
  show ((kBase nF nS nD).become 0 1 0).F i j = _
  by_cases h : i = 0
  · subst h
    rw [become_col, if_pos rfl]
    by_cases h0 : j = 0
    · rw [if_pos h0, if_pos h0]
    · rw [if_neg h0, if_neg h0]
      by_cases h1 : j = 1
      · rw [if_pos h1]
      · rw [if_neg h1]
        split
        · rfl
        · show (if j = 1 then (-1 : Int) else 0) = 0
          rw [if_neg h1]
  · rw [Ker.become_F _ _ _ _ _ _ h, if_neg h]; rfl
theorem neat_new (nF nS nD : Nat) : Neat (kNew nF nS nD) := by
  refine ⟨fun i x hx hf => new_B _ _ _ _ _, fun i j hi h0 hj hj' hb => ?_, fun f hf => ?_, fun f hf j hj => ?_, fun d hd h0 => ⟨new_D _ _ _ _ _, new_D _ _ _ _ _⟩⟩
  · rw [new_S] at h0 ⊢
    have hi0 : i ≠ 0 := by
      intro e; rw [if_neg (by omega), if_pos ⟨e, rfl⟩] at h0; omega
    rw [if_neg (by omega), if_neg (by omega)]
    by_cases h : j = 19
    · rw [if_pos (Or.inr h), if_pos h]
    · rw [if_neg (by omega), if_neg h]
  · rw [new_F] at hf ⊢
    by_cases h : f = 0
    · rw [if_pos h, if_pos rfl] at hf; omega
    · rw [if_neg h, if_pos rfl]
  · rw [new_F]
    by_cases h : f = 0
    · rw [if_pos h, if_neg (by omega)]
    · rw [if_neg h, if_neg (by omega)]
theorem ended_new (nF nS nD : Nat) : Ended (kNew nF nS nD) := ⟨fun d hd h0 => by rw [new_D] at h0; simp at h0⟩
end Go.Proofs.YtcgabodkegcpgaaGreatDoor
