/- kept answers true of a process whose pages, words and files are the same. -/
import Derived.Test.YtcgabodkegcpgaaDoorSap
namespace Go.Proofs.YtcgabodkegcpgaaDoor
open Go.RowKit
set_option linter.unusedVariables false
set_option linter.unusedSimpArgs false

theorem wpList_load_want {P : Program} {ops : Array Oper} {rest : List Oper} {op : Oper} {a : Act} {w : World} {Q : Exit → Act → World → Prop} (hw : Region.wanted op (yielded ops a.tmps) = true) (ty : TypeId) (x : Operand) (ho : op.op = .load ty x)
    (b o : Nat) (hx : a.eval x = .pointer (some ⟨b, o, none⟩)) (cs : List Value) (d : TypeDesc) (hc : w.rangeAt b o cs)
    (hu : P.underlying ty = some d) (hd : d.isRow = true) (hi : (P.info? ty).map (·.size) = some cs.length)
    (h : wpList P ops Q rest (a.put op.dst (.agg cs.toArray)) w) : wpList P ops Q (op :: rest) a w :=
  wpList_step fun K hK => by rw [if_pos hw]; exact wp_load_mid ty x ho b o hx cs d hc hu hd hi (hK _ _ h)

structure Kept (K K' : Ker) (p : Nat) : Prop where
  kind : K'.S p 0 = K.S p 0
  table : K'.S p 2 = K.S p 2
  mid : ∀ j, 3 ≤ j → j < 19 → sCell K' (p * 20 + j) = sCell K (p * 20 + j)
  words : ∀ j, j < 4 → K.S p (3 + j * 2) < 0 ∨ ∃ n : Nat, K.S p (3 + j * 2) = n ∧ n < K.nF ∧ ∀ i, i < 6 → K'.F n i = K.F n i

end Go.Proofs.YtcgabodkegcpgaaDoor
