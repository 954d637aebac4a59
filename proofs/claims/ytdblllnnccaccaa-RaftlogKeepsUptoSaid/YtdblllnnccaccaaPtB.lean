/-
  The functions, typed.
-/
import Derived.Test.YtdblllnnccaccaaDaN
import Derived.Test.YtdblllnnccaccaaRows
namespace Go.Proofs.Ytdblllnnccaccaa.Bq
set_option maxRecDepth 1000000
open Go.RowKit
abbrev T_api_Conf : Tp := (.pair (.sl .any (.int .i64)) (.sl .any (.int .i64)))
abbrev D_api_Conf := (List (Int)) × (List (Int))
abbrev D_api_Snap := (Int) × ((Int) × ((D_api_Conf) × (List (Int))))
abbrev T_api_Entry : Tp := (.pair (.int .u64) (.pair (.int .u64) (.pair (.int .i64) (.pair (.sl .any (.int .u8)) T_api_Conf))))
abbrev D_api_Entry := (Int) × ((Int) × ((Int) × ((List (Int)) × (D_api_Conf))))
abbrev D_api_Log := (D_api_Snap) × (List (D_api_Entry))
theorem orders : Try.prog.follows .mixedOrders = true := by kernel_rfl

def rs57 : List RVx := [(.tmp 2)]
def p57 (_ : Nat) : (List (Int)) × (Unit) → Option ((Unit) × (List (Int))) := fun ⟨a, _⟩ =>
bif ((List.length a : Int) == (0 : Int)) then
 some ((), [])
else
 bif decide ((0 : Int) ≤ (List.length a : Int) ∧ ((List.length a : Int) : Int) ≤ (List.length a : Int) ∧ ((List.length a : Int) : Int) ≤ 9223372036854775807 ∧ (8 : Int) * (List.length a : Int) ≤ 140737488355328) then
 bif decide (Int.toNat (List.length a : Int) = List.length (List.replicate (Int.toNat (List.length a : Int)) (0 : Int) : List (Int))) then
 bif decide (Int.toNat (List.length a : Int) = List.length (copyL (List.replicate (Int.toNat (List.length a : Int)) (0 : Int) : List (Int)) 0 (Int.toNat (List.length a : Int)) a)) then
 some ((), (copyL (List.replicate (Int.toNat (List.length a : Int)) (0 : Int) : List (Int)) 0 (Int.toNat (List.length a : Int)) a))
 else none
 else none
 else none
def e57 (fu : Nat) : Ent := ⟨57, (.cons (.hole (.sl .any (.int .i64))) .nil), .nil, (.own .own 3 (.int .i64)), p57 fu⟩
theorem g57 (fu : Nat) : (e57 fu).Good Try.prog := good_fx orders Try.func57 fu [(7, (.ty (.int .i64)))] [] rs57 14 (l := []) trivial
def rs45 : List RVx := [(.cell 2 true 2)]
def p45 (fu : Nat) : ((List (Int)) × ((List (Int)) × (Unit))) × (Unit) → Option ((Unit) × ((List (Int)) × ((List (Int)) × (Unit)))) := fun ⟨⟨a, c, _⟩, _⟩ =>
Option.bind (p57 fu (a, ())) fun ⟨_, f⟩ =>
Option.bind (p57 fu (c, ())) fun ⟨_, h⟩ =>
bif decide (List.length f = List.length f) then
 bif decide (List.length h = List.length h) then
 some ((), (f, h, ()))
 else none
else none
def e45 (fu : Nat) : Ent := ⟨45, (.cons (.agg 2 (.cons (.hole (.sl .any (.int .i64))) (.cons (.hole (.sl .any (.int .i64))) .nil))) .nil), .nil, (.agg 2 (.cons (.own .own 3 (.int .i64)) (.cons (.own .own 3 (.int .i64)) .nil))), p45 fu⟩
theorem g45 (fu : Nat) : (e45 fu).Good Try.prog := good_fx orders Try.func45 fu [(4, (.ent (e57 fu))), (7, (.ent (e57 fu)))] [] rs45 10 (l := [e57 fu, e57 fu]) ⟨g57 fu, g57 fu, trivial⟩
end Go.Proofs.Ytdblllnnccaccaa.Bq
