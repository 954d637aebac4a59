/-
  How a body is walked: rules for 'simp only', and what they stand still at.
-/
import Derived.Test.YtlmnhbobgfpanaaTrT
namespace Go.Proofs.Ytlmnhbobgfpanaa
open Go.RowKit

inductive Kf where
  | seq (y : AC)
  | block (id : Nat)

def contK (P : Program) (m : Nat) (post : AX → St → Prop) : List Kf → AX → St → Prop
  | [], e, σ => post e σ
  | .seq y :: ks, .normal, σ => awp P m y (contK P m post ks) σ
  | .seq _ :: ks, e, σ => contK P m post ks e σ
  | .block id :: ks, .exit i, σ => if i = id then contK P m post ks .normal σ else contK P m post ks (.exit i) σ
  | .block _ :: ks, e, σ => contK P m post ks e σ

def freeWp (d : Bool) (deps : List (List Nat)) (efs : List Ef) (A : Prop) : Prop := (d = true → free deps efs = true) ∧ A

def popS (P : Program) (m : Nat) (e : AX) (ks : List Kf) (post : AX → St → Prop) (σ : St) : Prop := contK P m post ks e σ
def regS (P : Program) (m base : Nat) (rs : List RO) (i : Nat) (σ : St) (d : Bool) (deps : List (List Nat)) (efs : List Ef) (ks : List Kf) (post : AX → St → Prop) : Prop :=
  regWp P base rs i σ fun σ' es => freeWp d deps (efs.reverse ++ es) (popS P m .normal ks post σ')
def opS (P : Program) (m base : Nat) (a : AM) (rdl : List Nat) (r : RO) (rs : List RO) (i : Nat) (σ : St) (d : Bool) (deps : List (List Nat)) (efs : List Ef) (ks : List Kf) (post : AX → St → Prop) : Prop :=
  a.wp P σ.O (base + 16 * i) fun rd v ups => regS P m base rs (i + 1) (σ.upd r.dst v ups) d deps (⟨base + 16 * i, r.rdT ++ (rdl ++ rd).map (fun k => 2 * k + 1), r.dst, v, ups⟩ :: efs) ks post
def getS (P : Program) (m base : Nat) (o : Option Ob) (id : Nat) (k : Ob → AM) (rdl : List Nat) (r : RO) (rs : List RO) (i : Nat) (σ : St) (d : Bool) (deps : List (List Nat)) (efs : List Ef) (ks : List Kf) (post : AX → St → Prop) : Prop :=
  match o with
  | some o => opS P m base (k o) (rdl ++ [id]) r rs i σ d deps efs ks post
  | none => False
section
variable {P : Program} {m base : Nat} {post : AX → St → Prop} {ks : List Kf} {σ : St} {e : AX} {rdl : List Nat} {r : RO} {rs : List RO} {i : Nat} {d : Bool} {deps : List (List Nat)} {efs : List Ef}

end

section
variable {σ : St} {fr : Nat}
end

theorem wrap_i64 {x : Int} (h1 : -9223372036854775808 ≤ x) (h2 : x ≤ 9223372036854775807) : IntKind.i64.wrap x = x := IntWalk.i64_in _ ⟨h1, h2⟩
end Go.Proofs.Ytlmnhbobgfpanaa
