/- Short names. -/
import Derived.WalkKit
import Derived.Deep.MidRow
open Option renaming some->J
open Go renaming World->Wd,Addr->cx
open Nat renaming beq->aG
open List renaming mem_singleton->cz
namespace Go.Proofs.YtcgabodkegcpgaaGreatDoor
set_option linter.unusedVariables false
variable{a b c:Nat}
theorem Za{p:Prop}(h:p:=by omega):p:=h
theorem Zb{p:Prop}(h:p:=by decide):p:=h
theorem Zc{p:Prop}(h:p:=by simp):p:=h
theorem Zd{p:Prop}(h:p:=by kernel_rfl):p:=h
theorem Ze{c:Type}{a b:c}(h:J a=J b):a=b:=Option.some.inj h
theorem Zf{w w':Wd}{a:cx}(h:w'.heap[a.block]?=w.heap[a.block]?):w'.cell? a=w.cell? a:=World.cell?_of_block h
theorem Zg(h:a<b)(i:b<=c):a<c:=Nat.lt_of_lt_of_le h i
theorem Zh(h:a<=b)(i:b<=c):a<=c:=Nat.le_trans h i
theorem Zi{c:Type}{a b:c}(h:a∈[b]):a=b:=cz.1 h
theorem Zj{b:Type}{l:Array b}{c:b}(h:l[a]?=J c):∃h:a<l.size,l[a]=c:=Array.getElem?_eq_some_iff.1 h
theorem Zk{c:Type}{a b:List c}(h:a++b=a):b=[]:=List.append_right_eq_self.1 h
theorem Zl(h:aG a b=true):a=b:=Nat.eq_of_beq_eq_true h
theorem Zm(h:a<1):a=0:=Nat.lt_one_iff.1 h
theorem eL{p:∀c:Nat,c<4->Prop}(a:∀h,p 0 h)(b:∀h,p 1 h)(d:∀h,p 2 h)(e:∀h,p 3 h)(c)(h):p c h:=by
 obtain rfl|rfl|rfl|rfl:c=0\/c=1\/c=2\/c=3:=by omega
 all_goals apply_assumption
theorem iN{p:∀c:Nat,c<3->Prop}(a:∀h,p 0 h)(b:∀h,p 1 h)(d:∀h,p 2 h)(c)(h):p c h:=by
 obtain rfl|rfl|rfl:c=0\/c=1\/c=2:=by omega
 all_goals apply_assumption
theorem ox{p:∀c:Nat,c<20->Prop}(a:∀h,p 0 h)(b:∀h,p 1 h)(d:∀h,p 2 h)(e:∀h,p 3 h)(f:∀h,p 4 h)(g:∀h,p 5 h)(i:∀h,p 6 h)(j:∀h,p 7 h)(k:∀h,p 8 h)(l:∀h,p 9 h)(m:∀h,p 10 h)(n:∀h,p 11 h)(o:∀h,p 12 h)(q:∀h,p 13 h)(r:∀h,p 14 h)(s:∀h,p 15 h)(t:∀h,p 16 h)(u:∀h,p 17 h)(v:∀h,p 18 h)(w:∀h,p 19 h)(c)(h):p c h:=by
 obtain rfl|rfl|rfl|rfl|rfl|rfl|rfl|rfl|rfl|rfl|rfl|rfl|rfl|rfl|rfl|rfl|rfl|rfl|rfl|rfl:c=0\/c=1\/c=2\/c=3\/c=4\/c=5\/c=6\/c=7\/c=8\/c=9\/c=10\/c=11\/c=12\/c=13\/c=14\/c=15\/c=16\/c=17\/c=18\/c=19:=by omega
 all_goals apply_assumption
theorem Z.{u}{b:Sort u}{a:b}:a=a:=rfl
theorem mX:True:=trivial
theorem mY.{u}{c:Prop}{h:Decidable c}(n:¬c){a:Sort u}{t e:a}:(ite c t e)=e:=if_neg n
theorem mZ.{u}{c:Prop}{h:Decidable c}(n:c){a:Sort u}{t e:a}:(ite c t e)=t:=if_pos n
end Go.Proofs.YtcgabodkegcpgaaGreatDoor
