/-
  The functions, typed.
-/
import Derived.Test.YtmjmhobeiamgiaaIsn
import Derived.Test.YtmjmhobeiamgiaaInC
import Derived.Test.YtmjmhobeiamgiaaCpE
import Derived.Test.YtmjmhobeiamgiaaNsE
import Derived.Test.YtmjmhobeiamgiaaDaN
import Derived.Test.YtmjmhobeiamgiaaRows
namespace Go.Proofs.Ytmjmhobeiamgiaa
set_option maxRecDepth 1000000
open Go.RowKit
abbrev T_runtime_errorAddressString : Tp := (.pair .str (.int .u64))
abbrev D_runtime_errorAddressString := (ByteArray) × (Int)
abbrev T_api_Range : Tp := (.pair .str .str)
abbrev D_api_Range := (ByteArray) × (ByteArray)
abbrev T_api_Producer : Tp := (.pair (.int .u64) (.pair (.int .u64) (.pair .bool (.int .u64))))
abbrev D_api_Producer := (Int) × ((Int) × ((Bool) × (Int)))
abbrev T_api_Record : Tp := (.pair (.int .u64) (.pair .str (.pair (.sl .any (.int .u8)) (.pair (.int .u64) (.int .u64)))))
abbrev D_api_Record := (Int) × ((ByteArray) × ((List (Int)) × ((Int) × (Int))))
abbrev T_api_Record_n : Tp := (.pair (.int .u64) (.pair .str (.pair (.sl .new (.int .u8)) (.pair (.int .u64) (.int .u64)))))
abbrev T_api_Part : Tp := (.pair T_api_Range (.pair (.int .u64) (.pair (.int .u64) (.pair (.sl .any T_api_Record) (.pair (.sl .any T_api_Producer) (.sl .any T_runtime_errorAddressString))))))
abbrev D_api_Part := (D_api_Range) × ((Int) × ((Int) × ((List (D_api_Record)) × ((List (D_api_Producer)) × (List (D_runtime_errorAddressString))))))
theorem orders : Try.prog.follows .mixedOrders = true := by kernel_rfl
abbrev Z0 : Type := (ByteArray) × ((ByteArray) × ((Int) × ((Int) × ((List (D_api_Record)) × ((List (D_api_Producer)) × ((List (D_runtime_errorAddressString)) × (Unit)))))))
abbrev Y1 : Sh := (.agg 7 (.cons (.hole .str) (.cons (.hole .str) (.cons (.hole (.int .u64)) (.cons (.hole (.int .u64)) (.cons (.own .own 37 T_api_Record_n) (.cons (.own .own 39 T_api_Producer) (.cons (.own .own 41 T_runtime_errorAddressString) .nil))))))))
abbrev Y2 : Sh := (.agg 5 (.cons (.hole (.int .u64)) (.cons (.hole .str) (.cons (.hole (.sl .any (.int .u8))) (.cons (.hole (.int .u64)) (.cons (.hole (.int .u64)) .nil))))))
abbrev Y3 : Sh := (.agg 7 (.cons (.hole .str) (.cons (.hole .str) (.cons (.hole (.int .u64)) (.cons (.hole (.int .u64)) (.cons (.hole (.sl .any T_api_Record)) (.cons (.hole (.sl .any T_api_Producer)) (.cons (.hole (.sl .any T_runtime_errorAddressString)) .nil))))))))
abbrev Y4 : Sh := (.tup 3 (.cons (.agg 2 (.cons (.hole .str) (.cons (.hole .str) .nil))) (.cons (.agg 2 (.cons (.hole .str) (.cons (.hole .str) .nil))) (.cons (.hole (.int .i64)) .nil))))
abbrev Y5 : Sh := (.agg 5 (.cons (.hole (.int .u64)) (.cons (.hole .str) (.cons (.own .own 5 (.int .u8)) (.cons (.hole (.int .u64)) (.cons (.hole (.int .u64)) .nil))))))
abbrev Y6 : Sh := (.box 30 7 (.cons (.hole .str) (.cons (.hole .str) (.cons (.hole (.int .u64)) (.cons (.hole (.int .u64)) (.cons (.hole (.sl .any T_api_Record)) (.cons (.hole (.sl .any T_api_Producer)) (.cons (.hole (.sl .any T_runtime_errorAddressString)) .nil))))))))
abbrev Y7 : Sh := (.agg 7 (.cons (.hole .str) (.cons (.hole .str) (.cons (.hole (.int .u64)) (.cons (.hole (.int .u64)) (.cons (.hole (.sl .new (.pair (.hv (.int .u64)) (.pair (.hv .str) (.pair (.sl .new (.hv (.int .u8))) (.pair (.hv (.int .u64)) (.hv (.int .u64)))))))) (.cons (.hole (.sl .new (.pair (.hv (.int .u64)) (.pair (.hv (.int .u64)) (.pair .bool (.hv (.int .u64))))))) (.cons (.hole (.sl .new (.pair (.hv .str) (.hv (.int .u64))))) .nil))))))))
def rs11 : List RVx := [(.cell 0 true 7)]
def p11 (_ : Nat) : Unit → Option ((Unit) × ((ByteArray) × ((ByteArray) × ((Int) × ((Int) × ((List (D_api_Record)) × ((List (D_api_Producer)) × ((List (D_runtime_errorAddressString)) × (Unit))))))))) := fun _ =>
some ((), ((⟨#[]⟩ : ByteArray), (⟨#[]⟩ : ByteArray), (3 : Int), (1 : Int), [((0 : Int), (⟨#[97]⟩ : ByteArray), [], (7 : Int), (1 : Int)), ((1 : Int), (⟨#[109]⟩ : ByteArray), [], (7 : Int), (2 : Int)), ((2 : Int), (⟨#[98]⟩ : ByteArray), [], (8 : Int), (1 : Int))], [((7 : Int), (2 : Int), true, (1 : Int)), ((8 : Int), (1 : Int), true, (2 : Int))], [((⟨#[99]⟩ : ByteArray), (2 : Int))], ()))
def e11 (fu : Nat) : Ent := ⟨11, .nil, .nil, Y1, p11 fu⟩
theorem g11 (fu : Nat) : (e11 fu).Good Try.prog := good_fx orders Try.func11 fu [(4, (.ty T_api_Record_n)), (7, (.ty T_api_Producer)), (9, (.ty T_runtime_errorAddressString))] [] rs11 11 (l := []) trivial
def rs55 : List RVx := [(.tmp 2)]
def p55 (_ : Nat) : (ByteArray) × (Unit) → Option ((Unit) × (Bool)) := fun ⟨a, _⟩ =>
some ((), decide ((ByteArray.size a : Int) ≤ (32 : Int)))
def e55 (fu : Nat) : Ent := ⟨55, (.cons (.hole .str) .nil), .nil, (.hole .bool), p55 fu⟩
theorem g55 (fu : Nat) : (e55 fu).Good Try.prog := good_fx orders Try.func55 fu [] [] rs55 6 (l := []) trivial
def rs63 : List RVx := [(.cell 2 true 2)]
def p63 (_ : Nat) : ((ByteArray) × ((ByteArray) × (Unit))) × (Unit) → Option ((Unit) × ((ByteArray) × ((Bool) × (Unit)))) := fun ⟨⟨_, a, _⟩, _⟩ =>
some ((), (a, ByteArray.toList a == ByteArray.toList (⟨#[]⟩ : ByteArray), ()))
def e63 (fu : Nat) : Ent := ⟨63, (.cons (.agg 2 (.cons (.hole .str) (.cons (.hole .str) .nil))) .nil), .nil, (.agg 2 (.cons (.hole .str) (.cons (.hole .bool) .nil))), p63 fu⟩
theorem g63 (fu : Nat) : (e63 fu).Good Try.prog := good_fx orders Try.func63 fu [] [] rs63 9 (l := []) trivial
def rs88 : List RVx := [(.tmp 4)]
def p88 (_ : Nat) : ((ByteArray) × ((Bool) × (Unit))) × ((ByteArray) × (Unit)) → Option ((Unit) × (Bool)) := fun ⟨⟨a, c, _⟩, f, _⟩ =>
bif c then
 some ((), true)
else
 some ((), !(Op.bytesLess (ByteArray.toList a) (ByteArray.toList f) || ByteArray.toList a == ByteArray.toList f))
def e88 (fu : Nat) : Ent := ⟨88, (.cons (.agg 2 (.cons (.hole .str) (.cons (.hole .bool) .nil))) (.cons (.hole .str) .nil)), .nil, (.hole .bool), p88 fu⟩
theorem g88 (fu : Nat) : (e88 fu).Good Try.prog := good_fx orders Try.func88 fu [] [] rs88 13 (l := []) trivial
def rs45 : List RVx := [(.tmp 2)]
def p45 (fu : Nat) : ((ByteArray) × ((ByteArray) × (Unit))) × (Unit) → Option ((Unit) × (Int)) := fun ⟨⟨a, c, _⟩, _⟩ =>
Option.bind (p55 fu (a, ())) fun ⟨_, f⟩ =>
bif !f then
 some ((), (131 : Int))
else
 Option.bind (p55 fu (c, ())) fun ⟨_, h⟩ =>
 bif !h then
 some ((), (131 : Int))
 else
 Option.bind (p63 fu ((a, c, ()), ())) fun ⟨_, ⟨i, j, _⟩⟩ =>
 Option.bind (p88 fu ((i, j, ()), a, ())) fun ⟨_, k⟩ =>
 bif !k then
 some ((), (132 : Int))
 else
 some ((), (0 : Int))
def e45 (fu : Nat) : Ent := ⟨45, (.cons (.agg 2 (.cons (.hole .str) (.cons (.hole .str) .nil))) .nil), .nil, (.hole (.int .i64)), p45 fu⟩
theorem g45 (fu : Nat) : (e45 fu).Good Try.prog := good_fx orders Try.func45 fu [(4, (.ent (e55 fu))), (9, (.ent (e55 fu))), (14, (.ent (e63 fu))), (17, (.ent (e88 fu)))] [] rs45 19 (l := [e55 fu, e55 fu, e63 fu, e88 fu]) ⟨g55 fu, g55 fu, g63 fu, g88 fu, trivial⟩
def rs89 : List RVx := [(.tmp 2)]
def p89 (_ : Nat) : ((Int) × ((ByteArray) × ((List (Int)) × ((Int) × ((Int) × (Unit)))))) × (Unit) → Option ((Unit) × (Int)) := fun ⟨⟨_, a, c, _, _, _⟩, _⟩ =>
bif decide ((ByteArray.size a : Int) > (32 : Int)) then
 some ((), (131 : Int))
else
 bif decide ((List.length c : Int) > (256 : Int)) then
 some ((), (144 : Int))
 else
 some ((), (0 : Int))
def e89 (fu : Nat) : Ent := ⟨89, (.cons Y2 .nil), .nil, (.hole (.int .i64)), p89 fu⟩
theorem g89 (fu : Nat) : (e89 fu).Good Try.prog := good_fx orders Try.func89 fu [] [] rs89 13 (l := []) trivial
def rs46 : List RVx := [(.tmp 2)]
def p46 (fu : Nat) : (List (D_api_Record)) × (Unit) → Option ((Unit) × (Bool)) := fun ⟨a, _⟩ =>
loopO (S := ((Int) × (Unit)) × (Unit)) fu (fun ⟨⟨c, _⟩, _⟩ =>
 bif decide (c < (List.length a : Int)) then
 bif decide ((0 : Int) ≤ c ∧ c < (List.length a : Int)) then
 bif decide (Int.toNat c < List.length a) then
 bif (((List.getD a (Int.toNat c) (dflt T_api_Record)).1) != (IntKind.wrap .u64 c)) then
 inrO (some ((), false))
 else
 Option.bind (p89 fu (((List.getD a (Int.toNat c) (dflt T_api_Record)).1, ((List.getD a (Int.toNat c) (dflt T_api_Record)).2).1, (((List.getD a (Int.toNat c) (dflt T_api_Record)).2).2).1, ((((List.getD a (Int.toNat c) (dflt T_api_Record)).2).2).2).1, ((((List.getD a (Int.toNat c) (dflt T_api_Record)).2).2).2).2, ()), ())) fun ⟨_, f⟩ =>
 bif (f != (0 : Int)) then
 inrO (some ((), false))
 else
 some (.inl ((IntKind.wrap .i64 (c + (1 : Int)), ()), ()))
 else none
 else none
 else
 inrO (some ((), decide ((List.length a : Int) ≤ (4096 : Int)))))
 (((0 : Int), ()), ())
def e46 (fu : Nat) : Ent := ⟨46, (.cons (.hole (.sl .any T_api_Record)) .nil), .nil, (.hole .bool), p46 fu⟩
theorem g46 (fu : Nat) : (e46 fu).Good Try.prog := good_fx orders Try.func46 fu [(18, (.ent (e89 fu)))] [(3, ⟨[7], (.cons (.hole (.int .i64)) .nil), [], .nil, [0, 5, 6], []⟩)] rs46 26 (l := [e89 fu]) ⟨g89 fu, trivial⟩
def rs106 : List RVx := [(.tmp 2)]
def p106 (_ : Nat) : (Int) × (Unit) → Option ((Unit) × (Bool)) := fun ⟨a, _⟩ =>
some ((), (a != a))
def e106 (fu : Nat) : Ent := ⟨106, (.cons (.hole (.int .u64)) .nil), .nil, (.hole .bool), p106 fu⟩
theorem g106 (fu : Nat) : (e106 fu).Good Try.prog := good_fx orders Try.func106 fu [] [] rs106 6 (l := []) trivial
def rs93 : List RVx := [(.tmp 4)]
def p93 (fu : Nat) : (Int) × ((Int) × (Unit)) → Option ((Unit) × (Int)) := fun ⟨a, c, _⟩ =>
Option.bind (p106 fu (a, ())) fun ⟨_, f⟩ =>
Option.bind (p106 fu (c, ())) fun ⟨_, h⟩ =>
bif f then
 bif h then
 some ((), (0 : Int))
 else
 some ((), ((-1) : Int))
else
 bif h then
 some ((), (1 : Int))
 else
 bif decide (a < c) then
 some ((), ((-1) : Int))
 else
 bif decide (a > c) then
 some ((), (1 : Int))
 else
 some ((), (0 : Int))
def e93 (fu : Nat) : Ent := ⟨93, (.cons (.hole (.int .u64)) (.cons (.hole (.int .u64)) .nil)), .nil, (.hole (.int .i64)), p93 fu⟩
theorem g93 (fu : Nat) : (e93 fu).Good Try.prog := good_fx orders Try.func93 fu [(2, (.ent (e106 fu))), (5, (.ent (e106 fu)))] [] rs93 20 (l := [e106 fu, e106 fu]) ⟨g106 fu, g106 fu, trivial⟩
def rs70 : List RVx := [(.tmp 4)]
def p70 (fu : Nat) : ((Int) × ((Int) × ((Bool) × ((Int) × (Unit))))) × (((Int) × ((Int) × ((Bool) × ((Int) × (Unit))))) × (Unit)) → Option ((Unit) × (Int)) := fun ⟨⟨a, _, _, _, _⟩, ⟨c, _, _, _, _⟩, _⟩ =>
Option.bind (p93 fu (a, c, ())) fun ⟨_, f⟩ =>
some ((), f)
def e70 (fu : Nat) : Ent := ⟨70, (.cons (.agg 4 (.cons (.hole (.int .u64)) (.cons (.hole (.int .u64)) (.cons (.hole .bool) (.cons (.hole (.int .u64)) .nil))))) (.cons (.agg 4 (.cons (.hole (.int .u64)) (.cons (.hole (.int .u64)) (.cons (.hole .bool) (.cons (.hole (.int .u64)) .nil))))) .nil)), .nil, (.hole (.int .i64)), p70 fu⟩
theorem g70 (fu : Nat) : (e70 fu).Good Try.prog := good_fx orders Try.func70 fu [(7, (.ent (e93 fu)))] [] rs70 10 (l := [e93 fu]) ⟨g93 fu, trivial⟩
def rs52 : List RVx := [(.tmp 2)]
def p52 (_ : Nat) : (Int) × (Unit) → Option ((Unit) × (Bool)) := fun ⟨a, _⟩ =>
bif decide (a ≥ (1 : Int)) then
 some ((), decide (a ≤ (9223372036854775807 : Int)))
else
 some ((), false)
def e52 (fu : Nat) : Ent := ⟨52, (.cons (.hole (.int .u64)) .nil), .nil, (.hole .bool), p52 fu⟩
theorem g52 (fu : Nat) : (e52 fu).Good Try.prog := good_fx orders Try.func52 fu [] [] rs52 9 (l := []) trivial
def rs47 : List RVx := [(.tmp 2)]
def p47 (fu : Nat) : (List (D_api_Producer)) × (Unit) → Option ((Unit) × (Bool)) := fun ⟨a, _⟩ =>
loopO (S := ((Int) × (Unit)) × (Unit)) fu (fun ⟨⟨c, _⟩, _⟩ =>
 bif decide (c < (List.length a : Int)) then
 bif decide ((0 : Int) ≤ c ∧ c < (List.length a : Int)) then
 bif decide (Int.toNat c < List.length a) then
 orK (E := ((Bool) × (Unit)) × (Unit))
 (bif (c == (0 : Int)) then
 some (.inl ((true, ()), ()))
 else
 bif decide ((0 : Int) ≤ IntKind.wrap .i64 (c - (1 : Int)) ∧ IntKind.wrap .i64 (c - (1 : Int)) < (List.length a : Int)) then
 bif decide (Int.toNat (IntKind.wrap .i64 (c - (1 : Int))) < List.length a) then
 Option.bind (p70 fu (((List.getD a (Int.toNat (IntKind.wrap .i64 (c - (1 : Int)))) (dflt T_api_Producer)).1, ((List.getD a (Int.toNat (IntKind.wrap .i64 (c - (1 : Int)))) (dflt T_api_Producer)).2).1, (((List.getD a (Int.toNat (IntKind.wrap .i64 (c - (1 : Int)))) (dflt T_api_Producer)).2).2).1, (((List.getD a (Int.toNat (IntKind.wrap .i64 (c - (1 : Int)))) (dflt T_api_Producer)).2).2).2, ()), ((List.getD a (Int.toNat c) (dflt T_api_Producer)).1, ((List.getD a (Int.toNat c) (dflt T_api_Producer)).2).1, (((List.getD a (Int.toNat c) (dflt T_api_Producer)).2).2).1, (((List.getD a (Int.toNat c) (dflt T_api_Producer)).2).2).2, ()), ())) fun ⟨_, f⟩ =>
 some (.inl ((decide (f < (0 : Int)), ()), ()))
 else none
 else none)
 fun ⟨⟨h, _⟩, _⟩ =>
 bif (((List.getD a (Int.toNat c) (dflt T_api_Producer)).1) == (0 : Int)) then
 inrO (some ((), false))
 else
 Option.bind (p52 fu (((List.getD a (Int.toNat c) (dflt T_api_Producer)).2).1, ())) fun ⟨_, i⟩ =>
 bif !i then
 inrO (some ((), false))
 else
 bif !h then
 inrO (some ((), false))
 else
 bif !((((List.getD a (Int.toNat c) (dflt T_api_Producer)).2).2).1) then
 bif (((((List.getD a (Int.toNat c) (dflt T_api_Producer)).2).2).2) != (0 : Int)) then
 inrO (some ((), false))
 else
 some (.inl ((IntKind.wrap .i64 (c + (1 : Int)), ()), ()))
 else
 some (.inl ((IntKind.wrap .i64 (c + (1 : Int)), ()), ()))
 else none
 else none
 else
 inrO (some ((), decide ((List.length a : Int) ≤ (256 : Int)))))
 (((0 : Int), ()), ())
def e47 (fu : Nat) : Ent := ⟨47, (.cons (.hole (.sl .any T_api_Producer)) .nil), .nil, (.hole .bool), p47 fu⟩
theorem g47 (fu : Nat) : (e47 fu).Good Try.prog := good_fx orders Try.func47 fu [(20, (.ent (e70 fu))), (30, (.ent (e52 fu)))] [(3, ⟨[8], (.cons (.hole (.int .i64)) .nil), [], .nil, [0, 6, 7], []⟩), (8, ⟨[5], (.cons (.hole .bool) .nil), [], .nil, [0, 4, 6, 7, 8], [128]⟩)] rs47 52 (l := [e70 fu, e52 fu]) ⟨g70 fu, g52 fu, trivial⟩
def rs90 : List RVx := [(.tmp 2)]
def p90 (fu : Nat) : (ByteArray) × (Unit) → Option ((Unit) × (Bool)) := fun ⟨a, _⟩ =>
loopO (S := ((Int) × (Unit)) × (Unit)) fu (fun ⟨⟨c, _⟩, _⟩ =>
 bif decide (c < (List.length (numsOf a) : Int)) then
 bif decide ((0 : Int) ≤ c ∧ c < (List.length (numsOf a) : Int)) then
 bif decide (Int.toNat c < List.length (numsOf a)) then
 bif decide ((List.getD (numsOf a) (Int.toNat c) (dflt (.int .u8))) < (97 : Int)) then
 bif decide ((List.getD (numsOf a) (Int.toNat c) (dflt (.int .u8))) < (48 : Int)) then
 bif ((List.getD (numsOf a) (Int.toNat c) (dflt (.int .u8))) != (45 : Int)) then
 bif ((List.getD (numsOf a) (Int.toNat c) (dflt (.int .u8))) != (95 : Int)) then
 bif ((List.getD (numsOf a) (Int.toNat c) (dflt (.int .u8))) != (46 : Int)) then
 inrO (some ((), false))
 else
 some (.inl ((IntKind.wrap .i64 (c + (1 : Int)), ()), ()))
 else
 some (.inl ((IntKind.wrap .i64 (c + (1 : Int)), ()), ()))
 else
 some (.inl ((IntKind.wrap .i64 (c + (1 : Int)), ()), ()))
 else
 bif decide ((List.getD (numsOf a) (Int.toNat c) (dflt (.int .u8))) > (57 : Int)) then
 bif ((List.getD (numsOf a) (Int.toNat c) (dflt (.int .u8))) != (45 : Int)) then
 bif ((List.getD (numsOf a) (Int.toNat c) (dflt (.int .u8))) != (95 : Int)) then
 bif ((List.getD (numsOf a) (Int.toNat c) (dflt (.int .u8))) != (46 : Int)) then
 inrO (some ((), false))
 else
 some (.inl ((IntKind.wrap .i64 (c + (1 : Int)), ()), ()))
 else
 some (.inl ((IntKind.wrap .i64 (c + (1 : Int)), ()), ()))
 else
 some (.inl ((IntKind.wrap .i64 (c + (1 : Int)), ()), ()))
 else
 some (.inl ((IntKind.wrap .i64 (c + (1 : Int)), ()), ()))
 else
 bif decide ((List.getD (numsOf a) (Int.toNat c) (dflt (.int .u8))) > (122 : Int)) then
 bif decide ((List.getD (numsOf a) (Int.toNat c) (dflt (.int .u8))) < (48 : Int)) then
 bif ((List.getD (numsOf a) (Int.toNat c) (dflt (.int .u8))) != (45 : Int)) then
 bif ((List.getD (numsOf a) (Int.toNat c) (dflt (.int .u8))) != (95 : Int)) then
 bif ((List.getD (numsOf a) (Int.toNat c) (dflt (.int .u8))) != (46 : Int)) then
 inrO (some ((), false))
 else
 some (.inl ((IntKind.wrap .i64 (c + (1 : Int)), ()), ()))
 else
 some (.inl ((IntKind.wrap .i64 (c + (1 : Int)), ()), ()))
 else
 some (.inl ((IntKind.wrap .i64 (c + (1 : Int)), ()), ()))
 else
 bif decide ((List.getD (numsOf a) (Int.toNat c) (dflt (.int .u8))) > (57 : Int)) then
 bif ((List.getD (numsOf a) (Int.toNat c) (dflt (.int .u8))) != (45 : Int)) then
 bif ((List.getD (numsOf a) (Int.toNat c) (dflt (.int .u8))) != (95 : Int)) then
 bif ((List.getD (numsOf a) (Int.toNat c) (dflt (.int .u8))) != (46 : Int)) then
 inrO (some ((), false))
 else
 some (.inl ((IntKind.wrap .i64 (c + (1 : Int)), ()), ()))
 else
 some (.inl ((IntKind.wrap .i64 (c + (1 : Int)), ()), ()))
 else
 some (.inl ((IntKind.wrap .i64 (c + (1 : Int)), ()), ()))
 else
 some (.inl ((IntKind.wrap .i64 (c + (1 : Int)), ()), ()))
 else
 some (.inl ((IntKind.wrap .i64 (c + (1 : Int)), ()), ()))
 else none
 else none
 else
 inrO (bif decide ((ByteArray.size a : Int) ≥ (1 : Int)) then
 some ((), decide ((ByteArray.size a : Int) ≤ (32 : Int)))
 else
 some ((), false)))
 (((0 : Int), ()), ())
def e90 (fu : Nat) : Ent := ⟨90, (.cons (.hole .str) .nil), .nil, (.hole .bool), p90 fu⟩
theorem g90 (fu : Nat) : (e90 fu).Good Try.prog := good_fx orders Try.func90 fu [] [(3, ⟨[8], (.cons (.hole (.int .i64)) .nil), [], .nil, [0, 6, 7], []⟩)] rs90 47 (l := []) trivial
def rs48 : List RVx := [(.tmp 2)]
def p48 (fu : Nat) : (List (D_runtime_errorAddressString)) × (Unit) → Option ((Unit) × (Bool)) := fun ⟨a, _⟩ =>
loopO (S := ((Int) × (Unit)) × (Unit)) fu (fun ⟨⟨c, _⟩, _⟩ =>
 bif decide (c < (List.length a : Int)) then
 bif decide ((0 : Int) ≤ c ∧ c < (List.length a : Int)) then
 bif decide (Int.toNat c < List.length a) then
 Option.bind (p90 fu ((List.getD a (Int.toNat c) (dflt T_runtime_errorAddressString)).1, ())) fun ⟨_, f⟩ =>
 bif !f then
 inrO (some ((), false))
 else
 bif decide (c > (0 : Int)) then
 bif decide ((0 : Int) ≤ IntKind.wrap .i64 (c - (1 : Int)) ∧ IntKind.wrap .i64 (c - (1 : Int)) < (List.length a : Int)) then
 bif decide (Int.toNat (IntKind.wrap .i64 (c - (1 : Int))) < List.length a) then
 bif !Op.bytesLess (ByteArray.toList ((List.getD a (Int.toNat (IntKind.wrap .i64 (c - (1 : Int)))) (dflt T_runtime_errorAddressString)).1)) (ByteArray.toList ((List.getD a (Int.toNat c) (dflt T_runtime_errorAddressString)).1)) then
 inrO (some ((), false))
 else
 some (.inl ((IntKind.wrap .i64 (c + (1 : Int)), ()), ()))
 else none
 else none
 else
 some (.inl ((IntKind.wrap .i64 (c + (1 : Int)), ()), ()))
 else none
 else none
 else
 inrO (some ((), decide ((List.length a : Int) ≤ (64 : Int)))))
 (((0 : Int), ()), ())
def e48 (fu : Nat) : Ent := ⟨48, (.cons (.hole (.sl .any T_runtime_errorAddressString)) .nil), .nil, (.hole .bool), p48 fu⟩
theorem g48 (fu : Nat) : (e48 fu).Good Try.prog := good_fx orders Try.func48 fu [(13, (.ent (e90 fu)))] [(3, ⟨[7], (.cons (.hole (.int .i64)) .nil), [], .nil, [0, 5, 6], []⟩)] rs48 35 (l := [e90 fu]) ⟨g90 fu, trivial⟩
def rs92 : List RVx := [(.tmp 4)]
def p92 (fu : Nat) : ((Int) × ((Int) × ((Bool) × ((Int) × (Unit))))) × ((Int) × (Unit)) → Option ((Unit) × (Int)) := fun ⟨⟨a, _, _, _, _⟩, c, _⟩ =>
Option.bind (p93 fu (a, c, ())) fun ⟨_, f⟩ =>
some ((), f)
def e92 (fu : Nat) : Ent := ⟨92, (.cons (.agg 4 (.cons (.hole (.int .u64)) (.cons (.hole (.int .u64)) (.cons (.hole .bool) (.cons (.hole (.int .u64)) .nil))))) (.cons (.hole (.int .u64)) .nil)), .nil, (.hole (.int .i64)), p92 fu⟩
theorem g92 (fu : Nat) : (e92 fu).Good Try.prog := good_fx orders Try.func92 fu [(5, (.ent (e93 fu)))] [] rs92 9 (l := [e93 fu]) ⟨g93 fu, trivial⟩
def rs91 : List RVx := [(.tmp 6), (.tmp 7)]
def p91 (fu : Nat) : (List (D_api_Producer)) × ((Int) × (((Unit) × (Unit)) × (Unit))) → Option ((Unit) × ((Int) × ((Bool) × (Unit)))) := fun ⟨a, c, ⟨_, _⟩, _⟩ =>
loopO (S := ((Int) × ((Int) × (Unit))) × (Unit)) fu (fun ⟨⟨f, h, _⟩, _⟩ =>
 bif decide (f < h) then
 bif decide ((0 : Int) ≤ IntKind.wrap .i64 (Int.fdiv (IntKind.wrap .u64 (IntKind.wrap .i64 (f + h))) (2 ^ (min (Int.toNat (1 : Int)) (IntKind.bits .u64)))) ∧ IntKind.wrap .i64 (Int.fdiv (IntKind.wrap .u64 (IntKind.wrap .i64 (f + h))) (2 ^ (min (Int.toNat (1 : Int)) (IntKind.bits .u64)))) < (List.length a : Int)) then
 bif decide (Int.toNat (IntKind.wrap .i64 (Int.fdiv (IntKind.wrap .u64 (IntKind.wrap .i64 (f + h))) (2 ^ (min (Int.toNat (1 : Int)) (IntKind.bits .u64))))) < List.length a) then
 Option.bind (p92 fu (((List.getD a (Int.toNat (IntKind.wrap .i64 (Int.fdiv (IntKind.wrap .u64 (IntKind.wrap .i64 (f + h))) (2 ^ (min (Int.toNat (1 : Int)) (IntKind.bits .u64)))))) (dflt T_api_Producer)).1, ((List.getD a (Int.toNat (IntKind.wrap .i64 (Int.fdiv (IntKind.wrap .u64 (IntKind.wrap .i64 (f + h))) (2 ^ (min (Int.toNat (1 : Int)) (IntKind.bits .u64)))))) (dflt T_api_Producer)).2).1, (((List.getD a (Int.toNat (IntKind.wrap .i64 (Int.fdiv (IntKind.wrap .u64 (IntKind.wrap .i64 (f + h))) (2 ^ (min (Int.toNat (1 : Int)) (IntKind.bits .u64)))))) (dflt T_api_Producer)).2).2).1, (((List.getD a (Int.toNat (IntKind.wrap .i64 (Int.fdiv (IntKind.wrap .u64 (IntKind.wrap .i64 (f + h))) (2 ^ (min (Int.toNat (1 : Int)) (IntKind.bits .u64)))))) (dflt T_api_Producer)).2).2).2, ()), c, ())) fun ⟨_, i⟩ =>
 bif decide (i < (0 : Int)) then
 some (.inl ((IntKind.wrap .i64 ((IntKind.wrap .i64 (Int.fdiv (IntKind.wrap .u64 (IntKind.wrap .i64 (f + h))) (2 ^ (min (Int.toNat (1 : Int)) (IntKind.bits .u64))))) + (1 : Int)), h, ()), ()))
 else
 some (.inl ((f, IntKind.wrap .i64 (Int.fdiv (IntKind.wrap .u64 (IntKind.wrap .i64 (f + h))) (2 ^ (min (Int.toNat (1 : Int)) (IntKind.bits .u64)))), ()), ()))
 else none
 else none
 else
 inrO (bif decide (f < (List.length a : Int)) then
 bif decide ((0 : Int) ≤ f ∧ f < (List.length a : Int)) then
 bif decide (Int.toNat f < List.length a) then
 Option.bind (p92 fu (((List.getD a (Int.toNat f) (dflt T_api_Producer)).1, ((List.getD a (Int.toNat f) (dflt T_api_Producer)).2).1, (((List.getD a (Int.toNat f) (dflt T_api_Producer)).2).2).1, (((List.getD a (Int.toNat f) (dflt T_api_Producer)).2).2).2, ()), c, ())) fun ⟨_, j⟩ =>
 some ((), (f, (j == (0 : Int)), ()))
 else none
 else none
 else
 some ((), (f, false, ()))))
 (((0 : Int), (List.length a : Int), ()), ())
def e91 (fu : Nat) : Ent := ⟨91, (.cons (.hole (.sl .any T_api_Producer)) (.cons (.hole (.int .u64)) (.cons (.clo 92 0 .nil 0 .nil) .nil))), .nil, (.tup 2 (.cons (.hole (.int .i64)) (.cons (.hole .bool) .nil))), p91 fu⟩
theorem g91 (fu : Nat) : (e91 fu).Good Try.prog := good_fx orders Try.func91 fu [(24, (.ent (e92 fu))), (42, (.ent (e92 fu)))] [(4, ⟨[9, 10], (.cons (.hole (.int .i64)) (.cons (.hole (.int .i64)) .nil)), [], .nil, [0, 1, 2, 8], []⟩)] rs91 49 (l := [e92 fu, e92 fu]) ⟨g92 fu, g92 fu, trivial⟩
def rs56 : List RVx := [(.tmp 4)]
def p56 (fu : Nat) : ((ByteArray) × ((ByteArray) × (Unit))) × ((ByteArray) × (Unit)) → Option ((Unit) × (Bool)) := fun ⟨⟨a, c, _⟩, f, _⟩ =>
Option.bind (p45 fu ((a, c, ()), ())) fun ⟨_, h⟩ =>
bif (h == (0 : Int)) then
 Option.bind (p55 fu (f, ())) fun ⟨_, i⟩ =>
 bif i then
 bif !Op.bytesLess (ByteArray.toList f) (ByteArray.toList a) then
 Option.bind (p63 fu ((a, c, ()), ())) fun ⟨_, ⟨j, k, _⟩⟩ =>
 Option.bind (p88 fu ((j, k, ()), f, ())) fun ⟨_, l⟩ =>
 some ((), l)
 else
 some ((), false)
 else
 some ((), false)
else
 some ((), false)
def e56 (fu : Nat) : Ent := ⟨56, (.cons (.agg 2 (.cons (.hole .str) (.cons (.hole .str) .nil))) (.cons (.hole .str) .nil)), .nil, (.hole .bool), p56 fu⟩
theorem g56 (fu : Nat) : (e56 fu).Good Try.prog := good_fx orders Try.func56 fu [(3, (.ent (e45 fu))), (7, (.ent (e55 fu))), (17, (.ent (e63 fu))), (19, (.ent (e88 fu)))] [] rs56 24 (l := [e45 fu, e55 fu, e63 fu, e88 fu]) ⟨g45 fu, g55 fu, g63 fu, g88 fu, trivial⟩
def rs49 : List RVx := [(.tmp 2)]
def p49 (fu : Nat) : (Z0) × (Unit) → Option ((Unit) × (Bool)) := fun ⟨⟨a, c, _, _, f, h, _, _⟩, _⟩ =>
bif decide ((0 : Int) ≤ (List.length h : Int) ∧ ((List.length h : Int) : Int) ≤ (List.length h : Int) ∧ ((List.length h : Int) : Int) ≤ 9223372036854775807 ∧ (8 : Int) * (List.length h : Int) ≤ 140737488355328) then
 bif decide (Int.toNat (List.length h : Int) = List.length (List.replicate (Int.toNat (List.length h : Int)) (0 : Int) : List (Int))) then
 loopO (S := ((List (Int)) × ((Int) × (Unit))) × (Unit)) fu (fun ⟨⟨i, j, _⟩, _⟩ =>
 bif decide (j < (List.length f : Int)) then
 bif decide ((0 : Int) ≤ j ∧ j < (List.length f : Int)) then
 bif decide (Int.toNat j < List.length f) then
 Option.bind (p91 fu (h, ((((List.getD f (Int.toNat j) (dflt T_api_Record)).2).2).2).1, ((), ()), ())) fun ⟨_, ⟨k, l, _⟩⟩ =>
 bif !l then
 inrO (some ((), false))
 else
 Option.bind (p56 fu ((a, c, ()), ((List.getD f (Int.toNat j) (dflt T_api_Record)).2).1, ())) fun ⟨_, m⟩ =>
 bif !m then
 inrO (some ((), false))
 else
 bif decide ((0 : Int) ≤ k ∧ k < (List.length i : Int)) then
 bif decide (Int.toNat k < List.length i) then
 bif decide ((((((List.getD f (Int.toNat j) (dflt T_api_Record)).2).2).2).2) ≤ (List.getD i (Int.toNat k) (dflt (.int .u64)))) then
 inrO (some ((), false))
 else
 bif decide ((0 : Int) ≤ k ∧ k < (List.length h : Int)) then
 bif decide (Int.toNat k < List.length h) then
 bif decide ((((((List.getD f (Int.toNat j) (dflt T_api_Record)).2).2).2).2) > (((List.getD h (Int.toNat k) (dflt T_api_Producer)).2).1)) then
 inrO (some ((), false))
 else
 bif decide ((0 : Int) ≤ k ∧ k < (List.length i : Int)) then
 bif decide (Int.toNat k < List.length i) then
 bif decide (List.length i = List.length (List.set i (Int.toNat k) (((((List.getD f (Int.toNat j) (dflt T_api_Record)).2).2).2).2))) then
 some (.inl (((List.set i (Int.toNat k) (((((List.getD f (Int.toNat j) (dflt T_api_Record)).2).2).2).2)), IntKind.wrap .i64 (j + (1 : Int)), ()), ()))
 else none
 else none
 else none
 else none
 else none
 else none
 else none
 else none
 else none
 else
 inrO (some ((), true)))
 (((List.replicate (Int.toNat (List.length h : Int)) (0 : Int) : List (Int)), (0 : Int), ()), ())
 else none
else none
def e49 (fu : Nat) : Ent := ⟨49, (.cons Y3 .nil), .nil, (.hole .bool), p49 fu⟩
theorem g49 (fu : Nat) : (e49 fu).Good Try.prog := good_fx orders Try.func49 fu [(5, (.ty (.int .u64))), (20, (.ent (e91 fu))), (33, (.ent (e56 fu)))] [(4, ⟨[3, 15], (.cons (.own .own 25 (.int .u64)) (.cons (.hole (.int .i64)) .nil)), [], .nil, [1, 13, 14], [0]⟩)] rs49 63 (l := [e91 fu, e56 fu]) ⟨g91 fu, g56 fu, trivial⟩
def rs50 : List RVx := [(.tmp 2)]
def p50 (fu : Nat) : (Z0) × (Unit) → Option ((Unit) × (Bool)) := fun ⟨⟨_, _, _, _, a, c, _, _⟩, _⟩ =>
loopO (S := ((Int) × (Unit)) × (Unit)) fu (fun ⟨⟨f, _⟩, _⟩ =>
 bif decide (f < (List.length c : Int)) then
 bif decide ((0 : Int) ≤ f ∧ f < (List.length c : Int)) then
 bif decide (Int.toNat f < List.length c) then
 bif !((((List.getD c (Int.toNat f) (dflt T_api_Producer)).2).2).1) then
 some (.inl ((IntKind.wrap .i64 (f + (1 : Int)), ()), ()))
 else
 bif decide (((((List.getD c (Int.toNat f) (dflt T_api_Producer)).2).2).2) ≥ (IntKind.wrap .u64 (List.length a : Int))) then
 inrO (some ((), false))
 else
 bif decide ((0 : Int) ≤ (((List.getD c (Int.toNat f) (dflt T_api_Producer)).2).2).2 ∧ (((List.getD c (Int.toNat f) (dflt T_api_Producer)).2).2).2 < (List.length a : Int)) then
 bif decide (Int.toNat ((((List.getD c (Int.toNat f) (dflt T_api_Producer)).2).2).2) < List.length a) then
 bif ((((((List.getD a (Int.toNat ((((List.getD c (Int.toNat f) (dflt T_api_Producer)).2).2).2)) (dflt T_api_Record)).2).2).2).1) != ((List.getD c (Int.toNat f) (dflt T_api_Producer)).1)) then
 inrO (some ((), false))
 else
 bif ((((((List.getD a (Int.toNat ((((List.getD c (Int.toNat f) (dflt T_api_Producer)).2).2).2)) (dflt T_api_Record)).2).2).2).2) != (((List.getD c (Int.toNat f) (dflt T_api_Producer)).2).1)) then
 inrO (some ((), false))
 else
 some (.inl ((IntKind.wrap .i64 (f + (1 : Int)), ()), ()))
 else none
 else none
 else none
 else none
 else
 inrO (some ((), true)))
 (((0 : Int), ()), ())
def e50 (fu : Nat) : Ent := ⟨50, (.cons Y3 .nil), .nil, (.hole .bool), p50 fu⟩
theorem g50 (fu : Nat) : (e50 fu).Good Try.prog := good_fx orders Try.func50 fu [] [(3, ⟨[9], (.cons (.hole (.int .i64)) .nil), [], .nil, [1, 7, 8], [0]⟩)] rs50 42 (l := []) trivial
def rs51 : List RVx := [(.tmp 2)]
def p51 (fu : Nat) : (Z0) × (Unit) → Option ((Unit) × (Bool)) := fun ⟨⟨_, _, _, _, a, _, c, _⟩, _⟩ =>
loopO (S := ((Int) × (Unit)) × (Unit)) fu (fun ⟨⟨f, _⟩, _⟩ =>
 bif decide (f < (List.length c : Int)) then
 bif decide ((0 : Int) ≤ f ∧ f < (List.length c : Int)) then
 bif decide (Int.toNat f < List.length c) then
 bif decide (((List.getD c (Int.toNat f) (dflt T_runtime_errorAddressString)).2) > (IntKind.wrap .u64 (List.length a : Int))) then
 inrO (some ((), false))
 else
 some (.inl ((IntKind.wrap .i64 (f + (1 : Int)), ()), ()))
 else none
 else none
 else
 inrO (some ((), true)))
 (((0 : Int), ()), ())
def e51 (fu : Nat) : Ent := ⟨51, (.cons Y3 .nil), .nil, (.hole .bool), p51 fu⟩
theorem g51 (fu : Nat) : (e51 fu).Good Try.prog := good_fx orders Try.func51 fu [] [(3, ⟨[8], (.cons (.hole (.int .i64)) .nil), [], .nil, [1, 6, 7], [0]⟩)] rs51 20 (l := []) trivial
def rs16 : List RVx := [(.tmp 2)]
def p16 (fu : Nat) : (Z0) × (Unit) → Option ((Unit) × (Int)) := fun ⟨⟨a, c, f, h, i, j, k, _⟩, _⟩ =>
orK (E := ((Bool) × (Unit)) × (Unit))
 (Option.bind (p45 fu ((a, c, ()), ())) fun ⟨_, l⟩ =>
 bif (l == (0 : Int)) then
 bif (f != (0 : Int)) then
 Option.bind (p46 fu (i, ())) fun ⟨_, m⟩ =>
 bif m then
 Option.bind (p47 fu (j, ())) fun ⟨_, n⟩ =>
 bif n then
 Option.bind (p48 fu (k, ())) fun ⟨_, o⟩ =>
 bif o then
 Option.bind (p49 fu ((a, c, f, h, i, j, k, ()), ())) fun ⟨_, q⟩ =>
 bif q then
 Option.bind (p50 fu ((a, c, f, h, i, j, k, ()), ())) fun ⟨_, s⟩ =>
 bif s then
 Option.bind (p51 fu ((a, c, f, h, i, j, k, ()), ())) fun ⟨_, t⟩ =>
 some (.inl ((t, ()), ()))
 else
 some (.inl ((false, ()), ()))
 else
 some (.inl ((false, ()), ()))
 else
 some (.inl ((false, ()), ()))
 else
 some (.inl ((false, ()), ()))
 else
 some (.inl ((false, ()), ()))
 else
 some (.inl ((false, ()), ()))
 else
 some (.inl ((false, ()), ())))
 fun ⟨⟨u, _⟩, _⟩ =>
bif !u then
 some ((), (165 : Int))
else
 some ((), (0 : Int))
def e16 (fu : Nat) : Ent := ⟨16, (.cons Y3 .nil), .nil, (.hole (.int .i64)), p16 fu⟩
theorem g16 (fu : Nat) : (e16 fu).Good Try.prog := good_fx orders Try.func16 fu [(4, (.ent (e45 fu))), (14, (.ent (e46 fu))), (19, (.ent (e47 fu))), (24, (.ent (e48 fu))), (28, (.ent (e49 fu))), (32, (.ent (e50 fu))), (36, (.ent (e51 fu)))] [(1, ⟨[3], (.cons (.hole .bool) .nil), [], .nil, [], []⟩)] rs16 42 (l := [e45 fu, e46 fu, e47 fu, e48 fu, e49 fu, e50 fu, e51 fu]) ⟨g45 fu, g46 fu, g47 fu, g48 fu, g49 fu, g50 fu, g51 fu, trivial⟩
def rs19 : List RVx := [(.tmp 2)]
def p19 (fu : Nat) : (List (D_api_Part)) × (Unit) → Option ((Unit) × (Int)) := fun ⟨a, _⟩ =>
loopO (S := ((Int) × (Unit)) × (Unit)) fu (fun ⟨⟨c, _⟩, _⟩ =>
 bif decide (c < (List.length a : Int)) then
 bif decide ((0 : Int) ≤ c ∧ c < (List.length a : Int)) then
 bif decide (Int.toNat c < List.length a) then
 Option.bind (p16 fu ((((List.getD a (Int.toNat c) (dflt T_api_Part)).1).1, ((List.getD a (Int.toNat c) (dflt T_api_Part)).1).2, ((List.getD a (Int.toNat c) (dflt T_api_Part)).2).1, (((List.getD a (Int.toNat c) (dflt T_api_Part)).2).2).1, ((((List.getD a (Int.toNat c) (dflt T_api_Part)).2).2).2).1, (((((List.getD a (Int.toNat c) (dflt T_api_Part)).2).2).2).2).1, (((((List.getD a (Int.toNat c) (dflt T_api_Part)).2).2).2).2).2, ()), ())) fun ⟨_, f⟩ =>
 Option.bind (pIsN fu (f, (165 : Int), ())) fun ⟨_, h⟩ =>
 bif h then
 inrO (some ((), (172 : Int)))
 else
 bif ((((List.getD a (Int.toNat c) (dflt T_api_Part)).2).1) == (18446744073709551615 : Int)) then
 inrO (some ((), (172 : Int)))
 else
 some (.inl ((IntKind.wrap .i64 (c + (1 : Int)), ()), ()))
 else none
 else none
 else
 inrO (loopO (S := ((Int) × (Unit)) × (Unit)) fu (fun ⟨⟨i, _⟩, _⟩ =>
 bif decide (i < (List.length a : Int)) then
 bif decide ((0 : Int) ≤ i ∧ i < (List.length a : Int)) then
 bif decide (Int.toNat i < List.length a) then
 bif (((((List.getD a (Int.toNat i) (dflt T_api_Part)).2).2).1) == (0 : Int)) then
 inrO (some ((), (171 : Int)))
 else
 some (.inl ((IntKind.wrap .i64 (i + (1 : Int)), ()), ()))
 else none
 else none
 else
 inrO (some ((), (0 : Int))))
 (((0 : Int), ()), ())))
 (((0 : Int), ()), ())
def e19 (fu : Nat) : Ent := ⟨19, (.cons (.hole (.sl .any T_api_Part)) .nil), .nil, (.hole (.int .i64)), p19 fu⟩
theorem g19 (fu : Nat) : (e19 fu).Good Try.prog := good_fx orders Try.func19 fu [(10, (.ent (e16 fu))), (13, (.ent (eIsN fu)))] [(3, ⟨[9], (.cons (.hole (.int .i64)) .nil), [], .nil, [0, 7, 8], []⟩), (12, ⟨[26], (.cons (.hole (.int .i64)) .nil), [], .nil, [24, 25], []⟩)] rs19 34 (l := [e16 fu, eIsN fu]) ⟨g16 fu, gIsN fu, trivial⟩
def rs20 : List RVx := [(.cell 4 true 2), (.cell 5 true 2), (.tmp 6)]
def p20 (fu : Nat) : ((ByteArray) × ((ByteArray) × (Unit))) × ((ByteArray) × (Unit)) → Option ((Unit) × (((ByteArray) × ((ByteArray) × (Unit))) × (((ByteArray) × ((ByteArray) × (Unit))) × ((Int) × (Unit))))) := fun ⟨⟨a, c, _⟩, f, _⟩ =>
Option.bind (p45 fu ((a, c, ()), ())) fun ⟨_, h⟩ =>
orK (E := ((Int) × (Unit)) × (Unit))
 (bif (h != (0 : Int)) then
 some (.inl ((h, ()), ()))
 else
 Option.bind (p55 fu (f, ())) fun ⟨_, i⟩ =>
 bif !i then
 some (.inl (((131 : Int), ()), ()))
 else
 bif (Op.bytesLess (ByteArray.toList f) (ByteArray.toList a) || ByteArray.toList f == ByteArray.toList a) then
 some (.inl (((132 : Int), ()), ()))
 else
 Option.bind (p56 fu ((a, c, ()), f, ())) fun ⟨_, j⟩ =>
 bif !j then
 some (.inl (((132 : Int), ()), ()))
 else
 some (.inl ((h, ()), ())))
 fun ⟨⟨k, _⟩, _⟩ =>
bif (k != (0 : Int)) then
 some ((), (((⟨#[]⟩ : ByteArray), (⟨#[]⟩ : ByteArray), ()), ((⟨#[]⟩ : ByteArray), (⟨#[]⟩ : ByteArray), ()), k, ()))
else
 some ((), ((a, f, ()), (f, c, ()), (0 : Int), ()))
def e20 (fu : Nat) : Ent := ⟨20, (.cons (.agg 2 (.cons (.hole .str) (.cons (.hole .str) .nil))) (.cons (.hole .str) .nil)), .nil, Y4, p20 fu⟩
theorem g20 (fu : Nat) : (e20 fu).Good Try.prog := good_fx orders Try.func20 fu [(5, (.ent (e45 fu))), (11, (.ent (e55 fu))), (22, (.ent (e56 fu)))] [(2, ⟨[7], (.cons (.hole (.int .i64)) .nil), [], .nil, [1, 2, 4, 5], [0, 16, 32]⟩)] rs20 41 (l := [e45 fu, e55 fu, e56 fu]) ⟨g45 fu, g55 fu, g56 fu, trivial⟩
def rs107 : List RVx := [(.tmp 2)]
def p107 (_ : Nat) : (List (Int)) × (Unit) → Option ((Unit) × (List (Int))) := fun ⟨a, _⟩ =>
bif ((List.length a : Int) == (0 : Int)) then
 some ((), [])
else
 bif decide ((0 : Int) ≤ (List.length a : Int) ∧ ((List.length a : Int) : Int) ≤ (List.length a : Int) ∧ ((List.length a : Int) : Int) ≤ 9223372036854775807 ∧ (1 : Int) * (List.length a : Int) ≤ 140737488355328) then
 bif decide (Int.toNat (List.length a : Int) = List.length (List.replicate (Int.toNat (List.length a : Int)) (0 : Int) : List (Int))) then
 bif decide (Int.toNat (List.length a : Int) = List.length (copyL (List.replicate (Int.toNat (List.length a : Int)) (0 : Int) : List (Int)) 0 (Int.toNat (List.length a : Int)) a)) then
 some ((), (copyL (List.replicate (Int.toNat (List.length a : Int)) (0 : Int) : List (Int)) 0 (Int.toNat (List.length a : Int)) a))
 else none
 else none
 else none
def e107 (fu : Nat) : Ent := ⟨107, (.cons (.hole (.sl .any (.int .u8))) .nil), .nil, (.own .own 5 (.int .u8)), p107 fu⟩
theorem g107 (fu : Nat) : (e107 fu).Good Try.prog := good_fx orders Try.func107 fu [(7, (.ty (.int .u8)))] [] rs107 14 (l := []) trivial
def rs94 : List RVx := [(.cell 2 true 5)]
def p94 (fu : Nat) : ((Int) × ((ByteArray) × ((List (Int)) × ((Int) × ((Int) × (Unit)))))) × (Unit) → Option ((Unit) × ((Int) × ((ByteArray) × ((List (Int)) × ((Int) × ((Int) × (Unit))))))) := fun ⟨⟨a, c, f, h, i, _⟩, _⟩ =>
Option.bind (p107 fu (f, ())) fun ⟨_, j⟩ =>
bif decide (List.length j = List.length j) then
 some ((), (a, c, j, h, i, ()))
else none
def e94 (fu : Nat) : Ent := ⟨94, (.cons Y2 .nil), .nil, Y5, p94 fu⟩
theorem g94 (fu : Nat) : (e94 fu).Good Try.prog := good_fx orders Try.func94 fu [(4, (.ent (e107 fu)))] [] rs94 8 (l := [e107 fu]) ⟨g107 fu, trivial⟩
def rs57 : List RVx := [(.tmp 4)]
def p57_1 (fu : Nat) : (List (D_api_Record)) × (((Int) × ((ByteArray) × ((List (Int)) × ((Int) × ((Int) × (Unit)))))) × (Unit)) → Option (((Unit) × (Unit)) × (List (D_api_Record))) := fun ⟨a, ⟨c, f, h, i, j, _⟩, _⟩ =>
Option.bind (p94 fu ((c, f, h, i, j, ()), ())) fun ⟨_, ⟨_, k, l, m, n, _⟩⟩ =>
bif decide (List.length l = List.length l) then
 bif decide (List.length a = List.length a) then
 bif decide (List.length a + List.length ([(IntKind.wrap .u64 ((List.length a) : Int), k, l, m, n)]) ≤ maxLen ∧ (List.length a + List.length ([(IntKind.wrap .u64 ((List.length a) : Int), k, l, m, n)])) * 64 ≤ 140737488355328) then
 bif decide (List.length (a ++ [(IntKind.wrap .u64 ((List.length a) : Int), k, l, m, n)]) = List.length (a ++ [(IntKind.wrap .u64 ((List.length a) : Int), k, l, m, n)])) then
 some (((), ()), (a ++ [(IntKind.wrap .u64 ((List.length a) : Int), k, l, m, n)]))
 else none
 else none
 else none
else none
def e57_1 (fu : Nat) : Ent := ⟨57, (.cons (.own .own 37 T_api_Record_n) (.cons Y2 .nil)), (.cons .dead .nil), (.own .own 37 T_api_Record_n), p57_1 fu⟩
theorem g57_1 (fu : Nat) : (e57_1 fu).Good Try.prog := good_fx orders Try.func57 fu [(3, (.ent (e94 fu))), (12, (.ty T_api_Record_n)), (13, (.ty T_api_Record_n))] [] rs57 15 (l := [e94 fu]) ⟨g94 fu, trivial⟩
def rs22 : List RVx := [(.tmp 4), (.tmp 5)]
def p22 (fu : Nat) : (List (D_api_Record)) × (((ByteArray) × ((ByteArray) × (Unit))) × (Unit)) → Option ((Unit) × ((List (D_api_Record)) × ((List (Int)) × (Unit)))) := fun ⟨a, ⟨c, f, _⟩, _⟩ =>
Option.bind (p46 fu (a, ())) fun ⟨_, h⟩ =>
bif !h then
 some ((), ([], [], ()))
else
 Option.bind (p45 fu ((c, f, ()), ())) fun ⟨_, i⟩ =>
 bif (i != (0 : Int)) then
 some ((), ([], [], ()))
 else
 loopO (S := ((List (D_api_Record)) × ((List (Int)) × ((Int) × (Unit)))) × (Unit)) fu (fun ⟨⟨j, k, l, _⟩, _⟩ =>
 bif decide (l < (List.length a : Int)) then
 bif decide ((0 : Int) ≤ l ∧ l < (List.length a : Int)) then
 bif decide (Int.toNat l < List.length a) then
 bif decide (List.length k = List.length k) then
 bif decide (List.length k + List.length ([IntKind.wrap .u64 ((List.length j) : Int)]) ≤ maxLen ∧ (List.length k + List.length ([IntKind.wrap .u64 ((List.length j) : Int)])) * 8 ≤ 140737488355328) then
 Option.bind (p56 fu ((c, f, ()), ((List.getD a (Int.toNat l) (dflt T_api_Record)).2).1, ())) fun ⟨_, m⟩ =>
 bif m then
 bif decide (List.length j = List.length j) then
 Option.bind (p57_1 fu (j, ((List.getD a (Int.toNat l) (dflt T_api_Record)).1, ((List.getD a (Int.toNat l) (dflt T_api_Record)).2).1, (((List.getD a (Int.toNat l) (dflt T_api_Record)).2).2).1, ((((List.getD a (Int.toNat l) (dflt T_api_Record)).2).2).2).1, ((((List.getD a (Int.toNat l) (dflt T_api_Record)).2).2).2).2, ()), ())) fun ⟨⟨_, _⟩, n⟩ =>
 bif decide (List.length n = List.length n) then
 bif decide (List.length (k ++ [IntKind.wrap .u64 ((List.length j) : Int)]) = List.length (k ++ [IntKind.wrap .u64 ((List.length j) : Int)])) then
 some (.inl ((n, (k ++ [IntKind.wrap .u64 ((List.length j) : Int)]), IntKind.wrap .i64 (l + (1 : Int)), ()), ()))
 else none
 else none
 else none
 else
 bif decide (List.length j = List.length j) then
 bif decide (List.length (k ++ [IntKind.wrap .u64 ((List.length j) : Int)]) = List.length (k ++ [IntKind.wrap .u64 ((List.length j) : Int)])) then
 some (.inl ((j, (k ++ [IntKind.wrap .u64 ((List.length j) : Int)]), IntKind.wrap .i64 (l + (1 : Int)), ()), ()))
 else none
 else none
 else none
 else none
 else none
 else none
 else
 inrO (bif decide (List.length k = List.length k) then
 bif decide (List.length k + List.length ([IntKind.wrap .u64 ((List.length j) : Int)]) ≤ maxLen ∧ (List.length k + List.length ([IntKind.wrap .u64 ((List.length j) : Int)])) * 8 ≤ 140737488355328) then
 bif decide (List.length j = List.length j) then
 bif decide (List.length (k ++ [IntKind.wrap .u64 ((List.length j) : Int)]) = List.length (k ++ [IntKind.wrap .u64 ((List.length j) : Int)])) then
 some ((), (j, (k ++ [IntKind.wrap .u64 ((List.length j) : Int)]), ()))
 else none
 else none
 else none
 else none))
 (([], [], (0 : Int), ()), ())
def e22 (fu : Nat) : Ent := ⟨22, (.cons (.hole (.sl .any T_api_Record)) (.cons (.agg 2 (.cons (.hole .str) (.cons (.hole .str) .nil))) .nil)), .nil, (.tup 2 (.cons (.own .own 37 T_api_Record_n) (.cons (.own .own 25 (.int .u64)) .nil))), p22 fu⟩
theorem g22 (fu : Nat) : (e22 fu).Good Try.prog := good_fx orders Try.func22 fu [(4, (.ent (e46 fu))), (8, (.ent (e45 fu))), (27, (.ty (.int .u64))), (28, (.ty (.int .u64))), (33, (.ent (e56 fu))), (36, (.ent (e57_1 fu))), (45, (.ty (.int .u64))), (46, (.ty (.int .u64)))] [(8, ⟨[6, 7, 20], (.cons (.own .own 37 T_api_Record_n) (.cons (.own .own 25 (.int .u64)) (.cons (.hole (.int .i64)) .nil))), [], .nil, [3, 18, 19], [0]⟩)] rs22 45 (l := [e46 fu, e45 fu, e56 fu, e57_1 fu]) ⟨g46 fu, g45 fu, g56 fu, g57_1 fu, trivial⟩
def rs60 : List RVx := [(.tmp 4)]
def p60 (_ : Nat) : (Int) × ((List (Int)) × (Unit)) → Option ((Unit) × (Bool)) := fun ⟨a, c, _⟩ =>
bif decide (a < (IntKind.wrap .u64 (List.length c : Int))) then
 bif decide ((IntKind.wrap .u64 (a + (1 : Int))) < (IntKind.wrap .u64 (List.length c : Int))) then
 bif decide ((0 : Int) ≤ a ∧ a < (List.length c : Int)) then
 bif decide (Int.toNat a < List.length c) then
 bif decide ((0 : Int) ≤ IntKind.wrap .u64 (a + (1 : Int)) ∧ IntKind.wrap .u64 (a + (1 : Int)) < (List.length c : Int)) then
 bif decide (Int.toNat (IntKind.wrap .u64 (a + (1 : Int))) < List.length c) then
 some ((), decide ((List.getD c (Int.toNat a) (dflt (.int .u64))) < (List.getD c (Int.toNat (IntKind.wrap .u64 (a + (1 : Int)))) (dflt (.int .u64)))))
 else none
 else none
 else none
 else none
 else
 some ((), false)
else
 some ((), false)
def e60 (fu : Nat) : Ent := ⟨60, (.cons (.hole (.int .u64)) (.cons (.hole (.sl .any (.int .u64))) .nil)), .nil, (.hole .bool), p60 fu⟩
theorem g60 (fu : Nat) : (e60 fu).Good Try.prog := good_fx orders Try.func60 fu [] [] rs60 30 (l := []) trivial
def rs59 : List RVx := [(.cell 3 true 4)]
def p59 (fu : Nat) : ((Int) × ((Int) × ((Bool) × ((Int) × (Unit))))) × (((List (Int)) × (Unit)) × (Unit)) → Option ((Unit) × ((Int) × ((Int) × ((Bool) × ((Int) × (Unit)))))) := fun ⟨⟨a, c, f, h, _⟩, ⟨i, _⟩, _⟩ =>
orK (E := ((Bool) × (Unit)) × (Unit))
 (bif f then
 Option.bind (p60 fu (h, i, ())) fun ⟨_, j⟩ =>
 some (.inl ((j, ()), ()))
 else
 some (.inl ((false, ()), ())))
 fun ⟨⟨k, _⟩, _⟩ =>
bif k then
 bif decide ((0 : Int) ≤ h ∧ h < (List.length i : Int)) then
 bif decide (Int.toNat h < List.length i) then
 some ((), (a, c, true, (List.getD i (Int.toNat h) (dflt (.int .u64))), ()))
 else none
 else none
else
 some ((), (a, c, false, (0 : Int), ()))
def e59 (fu : Nat) : Ent := ⟨59, (.cons (.agg 4 (.cons (.hole (.int .u64)) (.cons (.hole (.int .u64)) (.cons (.hole .bool) (.cons (.hole (.int .u64)) .nil))))) (.cons (.look (.cons (.hole (.sl .any (.int .u64))) .nil)) .nil)), .nil, (.agg 4 (.cons (.hole (.int .u64)) (.cons (.hole (.int .u64)) (.cons (.hole .bool) (.cons (.hole (.int .u64)) .nil))))), p59 fu⟩
theorem g59 (fu : Nat) : (e59 fu).Good Try.prog := good_fx orders Try.func59 fu [(15, (.ent (e60 fu)))] [(3, ⟨[17], (.cons (.hole .bool) .nil), [], .nil, [1, 2, 3, 4], [0, 16, 112]⟩)] rs59 26 (l := [e60 fu]) ⟨g60 fu, trivial⟩
def rs58 : List RVx := [(.tmp 4)]
def p58 (fu : Nat) : (List (D_api_Producer)) × (((Unit) × (((List (Int)) × (Unit)) × (Unit))) × (Unit)) → Option ((((List (Int)) × (Unit)) × (Unit)) × (List (D_api_Producer))) := fun ⟨a, ⟨_, ⟨⟨c, _⟩, _⟩⟩, _⟩ =>
bif ((List.length a : Int) == (0 : Int)) then
 some (((c, ()), ()), [])
else
 bif decide ((0 : Int) ≤ (List.length a : Int) ∧ ((List.length a : Int) : Int) ≤ (List.length a : Int) ∧ ((List.length a : Int) : Int) ≤ 9223372036854775807 ∧ (32 : Int) * (List.length a : Int) ≤ 140737488355328) then
 bif decide (Int.toNat (List.length a : Int) = List.length (List.replicate (Int.toNat (List.length a : Int)) ((0 : Int), (0 : Int), false, (0 : Int)) : List (D_api_Producer))) then
 loopO (S := ((List (D_api_Producer)) × ((Int) × (Unit))) × (Unit)) fu (fun ⟨⟨f, h, _⟩, _⟩ =>
 bif decide (h < (List.length a : Int)) then
 bif decide ((0 : Int) ≤ h ∧ h < (List.length a : Int)) then
 bif decide (Int.toNat h < List.length a) then
 Option.bind (p59 fu (((List.getD a (Int.toNat h) (dflt T_api_Producer)).1, ((List.getD a (Int.toNat h) (dflt T_api_Producer)).2).1, (((List.getD a (Int.toNat h) (dflt T_api_Producer)).2).2).1, (((List.getD a (Int.toNat h) (dflt T_api_Producer)).2).2).2, ()), (c, ()), ())) fun ⟨_, ⟨i, j, k, l, _⟩⟩ =>
 bif decide ((0 : Int) ≤ h ∧ h < (List.length f : Int)) then
 bif decide (Int.toNat h < List.length f) then
 bif decide (List.length f = List.length (List.set f (Int.toNat h) (i, j, k, l))) then
 some (.inl (((List.set f (Int.toNat h) (i, j, k, l)), IntKind.wrap .i64 (h + (1 : Int)), ()), ()))
 else none
 else none
 else none
 else none
 else none
 else
 inrO (bif decide (List.length f = List.length f) then
 some (((c, ()), ()), f)
 else none))
 (((List.replicate (Int.toNat (List.length a : Int)) ((0 : Int), (0 : Int), false, (0 : Int)) : List (D_api_Producer)), (0 : Int), ()), ())
 else none
 else none
def e58 (fu : Nat) : Ent := ⟨58, (.cons (.hole (.sl .any T_api_Producer)) (.cons (.clo 59 0 .nil 1 (.cons (.box 57 1 (.cons (.hole (.sl .any (.int .u64))) .nil)) .nil)) .nil)), (.cons (.agg 1 (.cons (.hole (.sl .any (.int .u64))) .nil)) .nil), (.own .own 39 T_api_Producer), p58 fu⟩
theorem g58 (fu : Nat) : (e58 fu).Good Try.prog := good_fx orders Try.func58 fu [(7, (.ty T_api_Producer)), (23, (.ent (e59 fu)))] [(7, ⟨[5, 16], (.cons (.own .own 39 T_api_Producer) (.cons (.hole (.int .i64)) .nil)), [], .nil, [1, 14, 15], [0]⟩)] rs58 29 (l := [e59 fu]) ⟨g59 fu, trivial⟩
def rs23 : List RVx := [(.tmp 4)]
def p23 (fu : Nat) : (List (D_api_Producer)) × ((List (Int)) × (Unit)) → Option ((Unit) × (List (D_api_Producer))) := fun ⟨a, c, _⟩ =>
Option.bind (p58 fu (a, ((), ((c, ()), ())), ())) fun ⟨⟨⟨_, _⟩, _⟩, f⟩ =>
bif decide (List.length f = List.length f) then
 some ((), f)
else none
def e23 (fu : Nat) : Ent := ⟨23, (.cons (.hole (.sl .any T_api_Producer)) (.cons (.hole (.sl .any (.int .u64))) .nil)), .nil, (.own .own 39 T_api_Producer), p23 fu⟩
theorem g23 (fu : Nat) : (e23 fu).Good Try.prog := good_fx orders Try.func23 fu [(4, (.ent (e58 fu)))] [] rs23 8 (l := [e58 fu]) ⟨g58 fu, trivial⟩
def rs62 : List RVx := [(.tmp 4)]
def p62 (_ : Nat) : (List (Int)) × ((Int) × (Unit)) → Option ((Unit) × (Int)) := fun ⟨a, c, _⟩ =>
bif decide ((0 : Int) ≤ (if IntKind.wrap .u64 (IntKind.wrap .i64 ((List.length a : Int) - (1 : Int))) < c then IntKind.wrap .u64 (IntKind.wrap .i64 ((List.length a : Int) - (1 : Int))) else c) ∧ (if IntKind.wrap .u64 (IntKind.wrap .i64 ((List.length a : Int) - (1 : Int))) < c then IntKind.wrap .u64 (IntKind.wrap .i64 ((List.length a : Int) - (1 : Int))) else c) < (List.length a : Int)) then
 bif decide (Int.toNat (if IntKind.wrap .u64 (IntKind.wrap .i64 ((List.length a : Int) - (1 : Int))) < c then IntKind.wrap .u64 (IntKind.wrap .i64 ((List.length a : Int) - (1 : Int))) else c) < List.length a) then
 some ((), (List.getD a (Int.toNat (if IntKind.wrap .u64 (IntKind.wrap .i64 ((List.length a : Int) - (1 : Int))) < c then IntKind.wrap .u64 (IntKind.wrap .i64 ((List.length a : Int) - (1 : Int))) else c)) (dflt (.int .u64))))
 else none
else none
def e62 (fu : Nat) : Ent := ⟨62, (.cons (.hole (.sl .any (.int .u64))) (.cons (.hole (.int .u64)) .nil)), .nil, (.hole (.int .u64)), p62 fu⟩
theorem g62 (fu : Nat) : (e62 fu).Good Try.prog := good_fx orders Try.func62 fu [] [] rs62 14 (l := []) trivial
def rs96 : List RVx := [(.cell 3 true 2)]
def p96 (fu : Nat) : ((ByteArray) × ((Int) × (Unit))) × (((((List (Int)) × (Unit)) × (Unit)) × (Unit)) × (Unit)) → Option ((((((List (Int)) × (Unit)) × (Unit)) × (Unit)) × (Unit)) × ((ByteArray) × ((Int) × (Unit)))) := fun ⟨⟨a, c, _⟩, ⟨⟨⟨f, _⟩, _⟩, _⟩, _⟩ =>
Option.bind (p62 fu (f, c, ())) fun ⟨_, h⟩ =>
some (((((f, ()), ()), ()), ()), (a, h, ()))
def e96 (fu : Nat) : Ent := ⟨96, (.cons (.agg 2 (.cons (.hole .str) (.cons (.hole (.int .u64)) .nil))) (.cons (.box 98 1 (.cons (.clo 62 1 (.cons (.hole (.sl .any (.int .u64))) .nil) 0 .nil) .nil)) .nil)), (.cons (.agg 1 (.cons (.clo 62 1 (.cons (.hole (.sl .any (.int .u64))) .nil) 0 .nil) .nil)) .nil), (.agg 2 (.cons (.hole .str) (.cons (.hole (.int .u64)) .nil))), p96 fu⟩
theorem g96 (fu : Nat) : (e96 fu).Good Try.prog := good_fx orders Try.func96 fu [(7, (.ent (e62 fu)))] [] rs96 11 (l := [e62 fu]) ⟨g62 fu, trivial⟩
def rs95 : List RVx := [(.tmp 4)]
def p95 (fu : Nat) : (List (D_runtime_errorAddressString)) × (((Unit) × (((((List (Int)) × (Unit)) × (Unit)) × (Unit)) × (Unit))) × (Unit)) → Option ((((((List (Int)) × (Unit)) × (Unit)) × (Unit)) × (Unit)) × (List (D_runtime_errorAddressString))) := fun ⟨a, ⟨_, ⟨⟨⟨⟨c, _⟩, _⟩, _⟩, _⟩⟩, _⟩ =>
bif ((List.length a : Int) == (0 : Int)) then
 some (((((c, ()), ()), ()), ()), [])
else
 bif decide ((0 : Int) ≤ (List.length a : Int) ∧ ((List.length a : Int) : Int) ≤ (List.length a : Int) ∧ ((List.length a : Int) : Int) ≤ 9223372036854775807 ∧ (24 : Int) * (List.length a : Int) ≤ 140737488355328) then
 bif decide (Int.toNat (List.length a : Int) = List.length (List.replicate (Int.toNat (List.length a : Int)) ((⟨#[]⟩ : ByteArray), (0 : Int)) : List (D_runtime_errorAddressString))) then
 loopO (S := ((List (D_runtime_errorAddressString)) × ((Int) × (Unit))) × (((((List (Int)) × (Unit)) × (Unit)) × (Unit)) × (Unit))) fu (fun ⟨⟨f, h, _⟩, ⟨⟨⟨⟨i, _⟩, _⟩, _⟩, _⟩⟩ =>
 bif decide (h < (List.length a : Int)) then
 bif decide ((0 : Int) ≤ h ∧ h < (List.length a : Int)) then
 bif decide (Int.toNat h < List.length a) then
 Option.bind (p96 fu (((List.getD a (Int.toNat h) (dflt T_runtime_errorAddressString)).1, (List.getD a (Int.toNat h) (dflt T_runtime_errorAddressString)).2, ()), (((i, ()), ()), ()), ())) fun ⟨⟨⟨⟨⟨j, _⟩, _⟩, _⟩, _⟩, ⟨k, l, _⟩⟩ =>
 bif decide ((0 : Int) ≤ h ∧ h < (List.length f : Int)) then
 bif decide (Int.toNat h < List.length f) then
 bif decide (List.length f = List.length (List.set f (Int.toNat h) (k, l))) then
 some (.inl (((List.set f (Int.toNat h) (k, l)), IntKind.wrap .i64 (h + (1 : Int)), ()), ((((j, ()), ()), ()), ())))
 else none
 else none
 else none
 else none
 else none
 else
 inrO (bif decide (List.length f = List.length f) then
 some (((((i, ()), ()), ()), ()), f)
 else none))
 (((List.replicate (Int.toNat (List.length a : Int)) ((⟨#[]⟩ : ByteArray), (0 : Int)) : List (D_runtime_errorAddressString)), (0 : Int), ()), ((((c, ()), ()), ()), ()))
 else none
 else none
def e95 (fu : Nat) : Ent := ⟨95, (.cons (.hole (.sl .any T_runtime_errorAddressString)) (.cons (.clo 96 0 .nil 1 (.cons (.box 98 1 (.cons (.clo 62 1 (.cons (.hole (.sl .any (.int .u64))) .nil) 0 .nil) .nil)) .nil)) .nil)), (.cons (.agg 1 (.cons (.clo 62 1 (.cons (.hole (.sl .any (.int .u64))) .nil) 0 .nil) .nil)) .nil), (.own .own 41 T_runtime_errorAddressString), p95 fu⟩
theorem g95 (fu : Nat) : (e95 fu).Good Try.prog := good_fx orders Try.func95 fu [(7, (.ty T_runtime_errorAddressString)), (23, (.ent (e96 fu)))] [(7, ⟨[5, 16], (.cons (.own .own 41 T_runtime_errorAddressString) (.cons (.hole (.int .i64)) .nil)), [(0, 98, 1)], (.cons (.agg 1 (.cons (.clo 62 1 (.cons (.hole (.sl .any (.int .u64))) .nil) 0 .nil) .nil)) .nil), [1, 14, 15], []⟩)] rs95 29 (l := [e96 fu]) ⟨g96 fu, trivial⟩
def rs61 : List RVx := [(.tmp 4)]
def p61 (fu : Nat) : (List (D_runtime_errorAddressString)) × ((((List (Int)) × (Unit)) × (Unit)) × (Unit)) → Option ((Unit) × (List (D_runtime_errorAddressString))) := fun ⟨a, ⟨⟨c, _⟩, _⟩, _⟩ =>
Option.bind (p95 fu (a, ((), ((((c, ()), ()), ()), ())), ())) fun ⟨⟨⟨⟨⟨_, _⟩, _⟩, _⟩, _⟩, f⟩ =>
bif decide (List.length f = List.length f) then
 some ((), f)
else none
def e61 (fu : Nat) : Ent := ⟨61, (.cons (.hole (.sl .any T_runtime_errorAddressString)) (.cons (.clo 62 1 (.cons (.hole (.sl .any (.int .u64))) .nil) 0 .nil) .nil)), .nil, (.own .own 41 T_runtime_errorAddressString), p61 fu⟩
theorem g61 (fu : Nat) : (e61 fu).Good Try.prog := good_fx orders Try.func61 fu [(4, (.ent (e95 fu)))] [] rs61 8 (l := [e95 fu]) ⟨g95 fu, trivial⟩
def rs24 : List RVx := [(.tmp 4)]
def p24 (fu : Nat) : (List (D_runtime_errorAddressString)) × ((List (Int)) × (Unit)) → Option ((Unit) × (List (D_runtime_errorAddressString))) := fun ⟨a, c, _⟩ =>
bif ((List.length c : Int) == (0 : Int)) then
 some ((), [])
else
 Option.bind (p61 fu (a, ((c, ()), ()), ())) fun ⟨_, f⟩ =>
 bif decide (List.length f = List.length f) then
 some ((), f)
 else none
def e24 (fu : Nat) : Ent := ⟨24, (.cons (.hole (.sl .any T_runtime_errorAddressString)) (.cons (.hole (.sl .any (.int .u64))) .nil)), .nil, (.own .own 41 T_runtime_errorAddressString), p24 fu⟩
theorem g24 (fu : Nat) : (e24 fu).Good Try.prog := good_fx orders Try.func24 fu [(8, (.ent (e61 fu)))] [] rs24 12 (l := [e61 fu]) ⟨g61 fu, trivial⟩
def rs21 : List RVx := [(.cell 3 true 7)]
def p21_1 (fu : Nat) : ((ByteArray) × ((ByteArray) × (Unit))) × ((Z0) × (Unit)) → Option (((Z0) × (Unit)) × ((ByteArray) × ((ByteArray) × ((Int) × ((Int) × ((List (D_api_Record)) × ((List (D_api_Producer)) × ((List (D_runtime_errorAddressString)) × (Unit))))))))) := fun ⟨⟨a, c, _⟩, ⟨f, h, i, j, k, l, m, _⟩, _⟩ =>
Option.bind (p22 fu (k, (a, c, ()), ())) fun ⟨_, ⟨n, o, _⟩⟩ =>
bif decide (List.length o = List.length o) then
 Option.bind (p23 fu (l, o, ())) fun ⟨_, q⟩ =>
 bif decide (List.length o = List.length o) then
 Option.bind (p24 fu (m, o, ())) fun ⟨_, s⟩ =>
 bif decide (List.length n = List.length n) then
 bif decide (List.length q = List.length q) then
 bif decide (List.length s = List.length s) then
 some (((f, h, i, j, k, l, m, ()), ()), (a, c, IntKind.wrap .u64 (i + (1 : Int)), (0 : Int), n, q, s, ()))
 else none
 else none
 else none
 else none
else none
def e21_1 (fu : Nat) : Ent := ⟨21, (.cons (.agg 2 (.cons (.hole .str) (.cons (.hole .str) .nil))) (.cons Y6 .nil)), (.cons Y3 .nil), Y1, p21_1 fu⟩
theorem g21_1 (fu : Nat) : (e21_1 fu).Good Try.prog := good_fx orders Try.func21 fu [(5, (.ent (e22 fu))), (19, (.ent (e23 fu))), (23, (.ent (e24 fu)))] [] rs21 27 (l := [e22 fu, e23 fu, e24 fu]) ⟨g22 fu, g23 fu, g24 fu, trivial⟩
def rs10 : List RVx := [(.cell 4 true 7), (.cell 5 true 7), (.tmp 6)]
def p10 (fu : Nat) : (Z0) × ((ByteArray) × (Unit)) → Option ((Unit) × ((Z0) × ((Z0) × ((Int) × (Unit))))) := fun ⟨⟨a, c, f, h, i, j, k, _⟩, l, _⟩ =>
Option.bind (p19 fu ([((a, c), f, h, i, j, k)], ())) fun ⟨_, m⟩ =>
bif (m != (0 : Int)) then
 some ((), (((⟨#[]⟩ : ByteArray), (⟨#[]⟩ : ByteArray), (0 : Int), (0 : Int), [], [], [], ()), ((⟨#[]⟩ : ByteArray), (⟨#[]⟩ : ByteArray), (0 : Int), (0 : Int), [], [], [], ()), m, ()))
else
 Option.bind (p20 fu ((a, c, ()), l, ())) fun ⟨_, ⟨⟨n, o, _⟩, ⟨q, s, _⟩, t, _⟩⟩ =>
 bif (t != (0 : Int)) then
 some ((), (((⟨#[]⟩ : ByteArray), (⟨#[]⟩ : ByteArray), (0 : Int), (0 : Int), [], [], [], ()), ((⟨#[]⟩ : ByteArray), (⟨#[]⟩ : ByteArray), (0 : Int), (0 : Int), [], [], [], ()), t, ()))
 else
 Option.bind (p21_1 fu ((n, o, ()), (a, c, f, h, i, j, k, ()), ())) fun ⟨⟨⟨u, w, x, y, z, a0, c0, _⟩, _⟩, ⟨f0, h0, i0, j0, k0, l0, m0, _⟩⟩ =>
 Option.bind (p21_1 fu ((q, s, ()), (u, w, x, y, z, a0, c0, ()), ())) fun ⟨⟨⟨_, _, _, _, _, _, _, _⟩, _⟩, ⟨n0, o0, q0, s0, t0, u0, w0, _⟩⟩ =>
 bif decide (List.length k0 = List.length k0) then
 bif decide (List.length l0 = List.length l0) then
 bif decide (List.length m0 = List.length m0) then
 bif decide (List.length t0 = List.length t0) then
 bif decide (List.length u0 = List.length u0) then
 bif decide (List.length w0 = List.length w0) then
 some ((), ((f0, h0, i0, j0, k0, l0, m0, ()), (n0, o0, q0, s0, t0, u0, w0, ()), (0 : Int), ()))
 else none
 else none
 else none
 else none
 else none
 else none
def e10 (fu : Nat) : Ent := ⟨10, (.cons Y3 (.cons (.hole .str) .nil)), .nil, (.tup 3 (.cons Y1 (.cons Y1 (.cons (.hole (.int .i64)) .nil)))), p10 fu⟩
theorem g10 (fu : Nat) : (e10 fu).Good Try.prog := good_fx orders Try.func10 fu [(5, (.ty T_api_Part)), (6, (.ent (e19 fu))), (19, (.ent (e20 fu))), (41, (.ent (e21_1 fu))), (44, (.ent (e21_1 fu)))] [] rs10 40 (l := [e19 fu, e20 fu, e21_1 fu, e21_1 fu]) ⟨g19 fu, g20 fu, g21_1 fu, g21_1 fu, trivial⟩
def rs9 : List RVx := [(.tmp 0)]
def p9 (fu : Nat) : Unit → Option ((Unit) × (Bool)) := fun _ =>
Option.bind (p11 fu ()) fun ⟨_, ⟨a, c, f, h, i, j, k, _⟩⟩ =>
bif decide (List.length i = List.length i) then
 bif decide (List.length j = List.length j) then
 bif decide (List.length k = List.length k) then
 Option.bind (p10 fu ((a, c, f, h, i, j, k, ()), (⟨#[99]⟩ : ByteArray), ())) fun ⟨_, ⟨⟨_, _, l, _, m, _, _, _⟩, ⟨_, _, _, _, n, _, _, _⟩, o, _⟩⟩ =>
 bif (o == (0 : Int)) then
 bif (((List.length m) : Int) == (2 : Int)) then
 bif (((List.length n) : Int) == (1 : Int)) then
 some ((), (l == (4 : Int)))
 else
 some ((), false)
 else
 some ((), false)
 else
 some ((), false)
 else none
 else none
else none
def e9 (fu : Nat) : Ent := ⟨9, .nil, .nil, (.hole .bool), p9 fu⟩
theorem g9 (fu : Nat) : (e9 fu).Good Try.prog := good_fx orders Try.func9 fu [(1, (.ent (e11 fu))), (2, (.ent (e10 fu)))] [] rs9 29 (l := [e11 fu, e10 fu]) ⟨g11 fu, g10 fu, trivial⟩
def rs38 : List RVx := [(.tmp 2)]
def p38 (fu : Nat) : (Int) × (Unit) → Option ((Unit) × (List (Int))) := fun ⟨a, _⟩ =>
loopO (S := ((Int) × ((List (Int)) × (Unit))) × (Unit)) fu (fun ⟨⟨c, f, _⟩, _⟩ =>
 bif decide (c ≥ (128 : Int)) then
 bif decide (List.length f = List.length f) then
 bif decide (List.length f + List.length ([IntKind.wrap .u8 ((IntKind.wrap .u8 (IntKind.wrap .u64 ((BitVec.ofInt (IntKind.bits .u64) c &&& BitVec.ofInt (IntKind.bits .u64) (127 : Int)).toNat : Int))) + (128 : Int))]) ≤ maxLen ∧ (List.length f + List.length ([IntKind.wrap .u8 ((IntKind.wrap .u8 (IntKind.wrap .u64 ((BitVec.ofInt (IntKind.bits .u64) c &&& BitVec.ofInt (IntKind.bits .u64) (127 : Int)).toNat : Int))) + (128 : Int))])) * 1 ≤ 140737488355328) then
 bif decide (List.length (f ++ [IntKind.wrap .u8 ((IntKind.wrap .u8 (IntKind.wrap .u64 ((BitVec.ofInt (IntKind.bits .u64) c &&& BitVec.ofInt (IntKind.bits .u64) (127 : Int)).toNat : Int))) + (128 : Int))]) = List.length (f ++ [IntKind.wrap .u8 ((IntKind.wrap .u8 (IntKind.wrap .u64 ((BitVec.ofInt (IntKind.bits .u64) c &&& BitVec.ofInt (IntKind.bits .u64) (127 : Int)).toNat : Int))) + (128 : Int))])) then
 some (.inl ((Int.fdiv c (2 ^ (min (Int.toNat (7 : Int)) (IntKind.bits .u64))), (f ++ [IntKind.wrap .u8 ((IntKind.wrap .u8 (IntKind.wrap .u64 ((BitVec.ofInt (IntKind.bits .u64) c &&& BitVec.ofInt (IntKind.bits .u64) (127 : Int)).toNat : Int))) + (128 : Int))]), ()), ()))
 else none
 else none
 else none
 else
 inrO (bif decide (List.length f = List.length f) then
 bif decide (List.length f + List.length ([IntKind.wrap .u8 c]) ≤ maxLen ∧ (List.length f + List.length ([IntKind.wrap .u8 c])) * 1 ≤ 140737488355328) then
 bif decide (List.length (f ++ [IntKind.wrap .u8 c]) = List.length (f ++ [IntKind.wrap .u8 c])) then
 some ((), (f ++ [IntKind.wrap .u8 c]))
 else none
 else none
 else none))
 ((a, [], ()), ())
def e38 (fu : Nat) : Ent := ⟨38, (.cons (.hole (.int .u64)) .nil), .nil, (.own .own 5 (.int .u8)), p38 fu⟩
theorem g38 (fu : Nat) : (e38 fu).Good Try.prog := good_fx orders Try.func38 fu [(9, (.ty (.int .u8))), (10, (.ty (.int .u8))), (18, (.ty (.int .u8))), (19, (.ty (.int .u8)))] [(3, ⟨[0, 3], (.cons (.hole (.int .u64)) (.cons (.own .own 5 (.int .u8)) .nil)), [], .nil, [], []⟩)] rs38 20 (l := []) trivial
def rs41 : List RVx := [(.tmp 2)]
def p41 (fu : Nat) : (List (Int)) × (Unit) → Option ((Unit) × (List (Int))) := fun ⟨a, _⟩ =>
Option.bind (p38 fu (IntKind.wrap .u64 (List.length a : Int), ())) fun ⟨_, c⟩ =>
bif decide (List.length c = List.length c) then
 bif decide (List.length c + List.length a ≤ maxLen ∧ (List.length c + List.length a) * 1 ≤ 140737488355328) then
 bif decide (List.length (c ++ a) = List.length (c ++ a)) then
 some ((), (c ++ a))
 else none
 else none
else none
def e41 (fu : Nat) : Ent := ⟨41, (.cons (.hole (.sl .any (.int .u8))) .nil), .nil, (.own .own 5 (.int .u8)), p41 fu⟩
theorem g41 (fu : Nat) : (e41 fu).Good Try.prog := good_fx orders Try.func41 fu [(4, (.ent (e38 fu))), (6, (.ty (.int .u8)))] [] rs41 9 (l := [e38 fu]) ⟨g38 fu, trivial⟩
def rs37 : List RVx := [(.tmp 2)]
def p37 (fu : Nat) : ((ByteArray) × ((ByteArray) × (Unit))) × (Unit) → Option ((Unit) × (List (Int))) := fun ⟨⟨a, c, _⟩, _⟩ =>
Option.bind (p41 fu (numsOf a, ())) fun ⟨_, f⟩ =>
Option.bind (p41 fu (numsOf c, ())) fun ⟨_, h⟩ =>
bif decide (List.length f = List.length f) then
 bif decide (List.length h = List.length h) then
 bif decide (List.length f + List.length h ≤ maxLen ∧ (List.length f + List.length h) * 1 ≤ 140737488355328) then
 bif decide (List.length (f ++ h) = List.length (f ++ h)) then
 some ((), (f ++ h))
 else none
 else none
 else none
else none
def e37 (fu : Nat) : Ent := ⟨37, (.cons (.agg 2 (.cons (.hole .str) (.cons (.hole .str) .nil))) .nil), .nil, (.own .own 5 (.int .u8)), p37 fu⟩
theorem g37 (fu : Nat) : (e37 fu).Good Try.prog := good_fx orders Try.func37 fu [(5, (.ent (e41 fu))), (9, (.ent (e41 fu))), (10, (.ty (.int .u8)))] [] rs37 12 (l := [e41 fu, e41 fu]) ⟨g41 fu, g41 fu, trivial⟩
def rs78 : List RVx := [(.tmp 2)]
def p78 (fu : Nat) : ((Int) × ((ByteArray) × ((List (Int)) × ((Int) × ((Int) × (Unit)))))) × (Unit) → Option ((Unit) × (List (Int))) := fun ⟨⟨a, c, f, h, i, _⟩, _⟩ =>
Option.bind (p38 fu (a, ())) fun ⟨_, j⟩ =>
Option.bind (p41 fu (numsOf c, ())) fun ⟨_, k⟩ =>
bif decide (List.length j = List.length j) then
 bif decide (List.length k = List.length k) then
 bif decide (List.length j + List.length k ≤ maxLen ∧ (List.length j + List.length k) * 1 ≤ 140737488355328) then
 Option.bind (p41 fu (f, ())) fun ⟨_, l⟩ =>
 bif decide (List.length (j ++ k) = List.length (j ++ k)) then
 bif decide (List.length l = List.length l) then
 bif decide (List.length (j ++ k) + List.length l ≤ maxLen ∧ (List.length (j ++ k) + List.length l) * 1 ≤ 140737488355328) then
 Option.bind (p38 fu (h, ())) fun ⟨_, m⟩ =>
 bif decide (List.length ((j ++ k) ++ l) = List.length ((j ++ k) ++ l)) then
 bif decide (List.length m = List.length m) then
 bif decide (List.length ((j ++ k) ++ l) + List.length m ≤ maxLen ∧ (List.length ((j ++ k) ++ l) + List.length m) * 1 ≤ 140737488355328) then
 Option.bind (p38 fu (i, ())) fun ⟨_, n⟩ =>
 bif decide (List.length (((j ++ k) ++ l) ++ m) = List.length (((j ++ k) ++ l) ++ m)) then
 bif decide (List.length n = List.length n) then
 bif decide (List.length (((j ++ k) ++ l) ++ m) + List.length n ≤ maxLen ∧ (List.length (((j ++ k) ++ l) ++ m) + List.length n) * 1 ≤ 140737488355328) then
 bif decide (List.length ((((j ++ k) ++ l) ++ m) ++ n) = List.length ((((j ++ k) ++ l) ++ m) ++ n)) then
 some ((), ((((j ++ k) ++ l) ++ m) ++ n))
 else none
 else none
 else none
 else none
 else none
 else none
 else none
 else none
 else none
 else none
 else none
 else none
else none
def e78 (fu : Nat) : Ent := ⟨78, (.cons Y2 .nil), .nil, (.own .own 5 (.int .u8)), p78 fu⟩
theorem g78 (fu : Nat) : (e78 fu).Good Try.prog := good_fx orders Try.func78 fu [(4, (.ent (e38 fu))), (8, (.ent (e41 fu))), (9, (.ty (.int .u8))), (14, (.ent (e41 fu))), (15, (.ty (.int .u8))), (20, (.ent (e38 fu))), (21, (.ty (.int .u8))), (26, (.ent (e38 fu))), (27, (.ty (.int .u8)))] [] rs78 27 (l := [e38 fu, e41 fu, e41 fu, e38 fu, e38 fu]) ⟨g38 fu, g41 fu, g41 fu, g38 fu, g38 fu, trivial⟩
def rs39 : List RVx := [(.tmp 2)]
def p39 (fu : Nat) : (List (D_api_Record)) × (Unit) → Option ((Unit) × (List (Int))) := fun ⟨a, _⟩ =>
Option.bind (p38 fu (IntKind.wrap .u64 (List.length a : Int), ())) fun ⟨_, c⟩ =>
bif decide (List.length c = List.length c) then
 loopO (S := ((List (Int)) × ((Int) × (Unit))) × (Unit)) fu (fun ⟨⟨f, h, _⟩, _⟩ =>
 bif decide (h < (List.length a : Int)) then
 bif decide ((0 : Int) ≤ h ∧ h < (List.length a : Int)) then
 bif decide (Int.toNat h < List.length a) then
 Option.bind (p78 fu (((List.getD a (Int.toNat h) (dflt T_api_Record)).1, ((List.getD a (Int.toNat h) (dflt T_api_Record)).2).1, (((List.getD a (Int.toNat h) (dflt T_api_Record)).2).2).1, ((((List.getD a (Int.toNat h) (dflt T_api_Record)).2).2).2).1, ((((List.getD a (Int.toNat h) (dflt T_api_Record)).2).2).2).2, ()), ())) fun ⟨_, i⟩ =>
 bif decide (List.length f = List.length f) then
 bif decide (List.length i = List.length i) then
 bif decide (List.length f + List.length i ≤ maxLen ∧ (List.length f + List.length i) * 1 ≤ 140737488355328) then
 bif decide (List.length (f ++ i) = List.length (f ++ i)) then
 some (.inl (((f ++ i), IntKind.wrap .i64 (h + (1 : Int)), ()), ()))
 else none
 else none
 else none
 else none
 else none
 else none
 else
 inrO (bif decide (List.length f = List.length f) then
 some ((), f)
 else none))
 ((c, (0 : Int), ()), ())
else none
def e39 (fu : Nat) : Ent := ⟨39, (.cons (.hole (.sl .any T_api_Record)) .nil), .nil, (.own .own 5 (.int .u8)), p39 fu⟩
theorem g39 (fu : Nat) : (e39 fu).Good Try.prog := good_fx orders Try.func39 fu [(4, (.ent (e38 fu))), (16, (.ent (e78 fu))), (17, (.ty (.int .u8)))] [(4, ⟨[3, 4], (.cons (.own .own 5 (.int .u8)) (.cons (.hole (.int .i64)) .nil)), [], .nil, [0], []⟩)] rs39 23 (l := [e38 fu, e78 fu]) ⟨g38 fu, g78 fu, trivial⟩
def rs40 : List RVx := [(.tmp 2)]
def p40 (_ : Nat) : (Bool) × (Unit) → Option ((Unit) × (List (Int))) := fun ⟨a, _⟩ =>
bif a then
 some ((), [(1 : Int)])
else
 some ((), [(0 : Int)])
def e40 (fu : Nat) : Ent := ⟨40, (.cons (.hole .bool) .nil), .nil, (.own .own 5 (.int .u8)), p40 fu⟩
theorem g40 (fu : Nat) : (e40 fu).Good Try.prog := good_fx orders Try.func40 fu [(2, (.ty (.int .u8))), (4, (.ty (.int .u8)))] [] rs40 6 (l := []) trivial
def rs14 : List RVx := [(.tmp 2)]
def p14 (fu : Nat) : (Z0) × (Unit) → Option ((Unit) × (List (Int))) := fun ⟨⟨a, c, f, h, i, j, k, _⟩, _⟩ =>
Option.bind (p37 fu ((a, c, ()), ())) fun ⟨_, l⟩ =>
Option.bind (p38 fu (f, ())) fun ⟨_, m⟩ =>
bif decide (List.length l = List.length l) then
 bif decide (List.length m = List.length m) then
 bif decide (List.length l + List.length m ≤ maxLen ∧ (List.length l + List.length m) * 1 ≤ 140737488355328) then
 Option.bind (p38 fu (h, ())) fun ⟨_, n⟩ =>
 bif decide (List.length (l ++ m) = List.length (l ++ m)) then
 bif decide (List.length n = List.length n) then
 bif decide (List.length (l ++ m) + List.length n ≤ maxLen ∧ (List.length (l ++ m) + List.length n) * 1 ≤ 140737488355328) then
 Option.bind (p39 fu (i, ())) fun ⟨_, o⟩ =>
 bif decide (List.length ((l ++ m) ++ n) = List.length ((l ++ m) ++ n)) then
 bif decide (List.length o = List.length o) then
 bif decide (List.length ((l ++ m) ++ n) + List.length o ≤ maxLen ∧ (List.length ((l ++ m) ++ n) + List.length o) * 1 ≤ 140737488355328) then
 Option.bind (p38 fu (IntKind.wrap .u64 (List.length j : Int), ())) fun ⟨_, q⟩ =>
 bif decide (List.length (((l ++ m) ++ n) ++ o) = List.length (((l ++ m) ++ n) ++ o)) then
 bif decide (List.length q = List.length q) then
 bif decide (List.length (((l ++ m) ++ n) ++ o) + List.length q ≤ maxLen ∧ (List.length (((l ++ m) ++ n) ++ o) + List.length q) * 1 ≤ 140737488355328) then
 bif decide (List.length ((((l ++ m) ++ n) ++ o) ++ q) = List.length ((((l ++ m) ++ n) ++ o) ++ q)) then
 loopO (S := ((List (Int)) × ((Int) × (Unit))) × (Unit)) fu (fun ⟨⟨s, t, _⟩, _⟩ =>
 bif decide (t < (List.length j : Int)) then
 bif decide ((0 : Int) ≤ t ∧ t < (List.length j : Int)) then
 bif decide (Int.toNat t < List.length j) then
 Option.bind (p38 fu ((List.getD j (Int.toNat t) (dflt T_api_Producer)).1, ())) fun ⟨_, u⟩ =>
 bif decide (List.length s = List.length s) then
 bif decide (List.length u = List.length u) then
 bif decide (List.length s + List.length u ≤ maxLen ∧ (List.length s + List.length u) * 1 ≤ 140737488355328) then
 Option.bind (p38 fu (((List.getD j (Int.toNat t) (dflt T_api_Producer)).2).1, ())) fun ⟨_, w⟩ =>
 bif decide (List.length (s ++ u) = List.length (s ++ u)) then
 bif decide (List.length w = List.length w) then
 bif decide (List.length (s ++ u) + List.length w ≤ maxLen ∧ (List.length (s ++ u) + List.length w) * 1 ≤ 140737488355328) then
 Option.bind (p40 fu ((((List.getD j (Int.toNat t) (dflt T_api_Producer)).2).2).1, ())) fun ⟨_, x⟩ =>
 bif decide (List.length ((s ++ u) ++ w) = List.length ((s ++ u) ++ w)) then
 bif decide (List.length x = List.length x) then
 bif decide (List.length ((s ++ u) ++ w) + List.length x ≤ maxLen ∧ (List.length ((s ++ u) ++ w) + List.length x) * 1 ≤ 140737488355328) then
 Option.bind (p38 fu ((((List.getD j (Int.toNat t) (dflt T_api_Producer)).2).2).2, ())) fun ⟨_, y⟩ =>
 bif decide (List.length (((s ++ u) ++ w) ++ x) = List.length (((s ++ u) ++ w) ++ x)) then
 bif decide (List.length y = List.length y) then
 bif decide (List.length (((s ++ u) ++ w) ++ x) + List.length y ≤ maxLen ∧ (List.length (((s ++ u) ++ w) ++ x) + List.length y) * 1 ≤ 140737488355328) then
 bif decide (List.length ((((s ++ u) ++ w) ++ x) ++ y) = List.length ((((s ++ u) ++ w) ++ x) ++ y)) then
 some (.inl ((((((s ++ u) ++ w) ++ x) ++ y), IntKind.wrap .i64 (t + (1 : Int)), ()), ()))
 else none
 else none
 else none
 else none
 else none
 else none
 else none
 else none
 else none
 else none
 else none
 else none
 else none
 else none
 else none
 else
 inrO (Option.bind (p38 fu (IntKind.wrap .u64 (List.length k : Int), ())) fun ⟨_, z⟩ =>
 bif decide (List.length s = List.length s) then
 bif decide (List.length z = List.length z) then
 bif decide (List.length s + List.length z ≤ maxLen ∧ (List.length s + List.length z) * 1 ≤ 140737488355328) then
 bif decide (List.length (s ++ z) = List.length (s ++ z)) then
 loopO (S := ((List (Int)) × ((Int) × (Unit))) × (Unit)) fu (fun ⟨⟨s, a0, _⟩, _⟩ =>
 bif decide (a0 < (List.length k : Int)) then
 bif decide ((0 : Int) ≤ a0 ∧ a0 < (List.length k : Int)) then
 bif decide (Int.toNat a0 < List.length k) then
 Option.bind (p41 fu (numsOf ((List.getD k (Int.toNat a0) (dflt T_runtime_errorAddressString)).1), ())) fun ⟨_, c0⟩ =>
 bif decide (List.length s = List.length s) then
 bif decide (List.length c0 = List.length c0) then
 bif decide (List.length s + List.length c0 ≤ maxLen ∧ (List.length s + List.length c0) * 1 ≤ 140737488355328) then
 bif decide ((0 : Int) ≤ a0 ∧ a0 < (List.length k : Int)) then
 bif decide (Int.toNat a0 < List.length k) then
 Option.bind (p38 fu ((List.getD k (Int.toNat a0) (dflt T_runtime_errorAddressString)).2, ())) fun ⟨_, f0⟩ =>
 bif decide (List.length (s ++ c0) = List.length (s ++ c0)) then
 bif decide (List.length f0 = List.length f0) then
 bif decide (List.length (s ++ c0) + List.length f0 ≤ maxLen ∧ (List.length (s ++ c0) + List.length f0) * 1 ≤ 140737488355328) then
 bif decide (List.length ((s ++ c0) ++ f0) = List.length ((s ++ c0) ++ f0)) then
 some (.inl ((((s ++ c0) ++ f0), IntKind.wrap .i64 (a0 + (1 : Int)), ()), ()))
 else none
 else none
 else none
 else none
 else none
 else none
 else none
 else none
 else none
 else none
 else none
 else
 inrO (bif decide (List.length s = List.length s) then
 some ((), s)
 else none))
 (((s ++ z), (0 : Int), ()), ())
 else none
 else none
 else none
 else none))
 ((((((l ++ m) ++ n) ++ o) ++ q), (0 : Int), ()), ())
 else none
 else none
 else none
 else none
 else none
 else none
 else none
 else none
 else none
 else none
 else none
 else none
else none
def e14 (fu : Nat) : Ent := ⟨14, (.cons Y3 .nil), .nil, (.own .own 5 (.int .u8)), p14 fu⟩
theorem g14 (fu : Nat) : (e14 fu).Good Try.prog := good_fx orders Try.func14 fu [(4, (.ent (e37 fu))), (7, (.ent (e38 fu))), (8, (.ty (.int .u8))), (13, (.ent (e38 fu))), (14, (.ty (.int .u8))), (19, (.ent (e39 fu))), (20, (.ty (.int .u8))), (27, (.ent (e38 fu))), (28, (.ty (.int .u8))), (46, (.ent (e38 fu))), (47, (.ty (.int .u8))), (52, (.ent (e38 fu))), (53, (.ty (.int .u8))), (58, (.ent (e40 fu))), (59, (.ty (.int .u8))), (64, (.ent (e38 fu))), (65, (.ty (.int .u8))), (75, (.ent (e38 fu))), (76, (.ty (.int .u8))), (92, (.ent (e41 fu))), (93, (.ty (.int .u8))), (102, (.ent (e38 fu))), (103, (.ty (.int .u8)))] [(7, ⟨[3, 4], (.cons (.own .own 5 (.int .u8)) (.cons (.hole (.int .i64)) .nil)), [], .nil, [1], [0]⟩), (18, ⟨[3, 6], (.cons (.own .own 5 (.int .u8)) (.cons (.hole (.int .i64)) .nil)), [], .nil, [1], [0]⟩)] rs14 97 (l := [e37 fu, e38 fu, e38 fu, e39 fu, e38 fu, e38 fu, e38 fu, e40 fu, e38 fu, e38 fu, e41 fu, e38 fu]) ⟨g37 fu, g38 fu, g38 fu, g39 fu, g38 fu, g38 fu, g38 fu, g40 fu, g38 fu, g38 fu, g41 fu, g38 fu, trivial⟩
def rs79 : List RVx := [(.tmp 2)]
def p79 (fu : Nat) : (List (D_api_Record)) × (Unit) → Option ((Unit) × (Bool)) := fun ⟨a, _⟩ =>
bif decide ((List.length a : Int) > (4096 : Int)) then
 some ((), false)
else
 loopO (S := ((Int) × (Unit)) × (Unit)) fu (fun ⟨⟨c, _⟩, _⟩ =>
 bif decide (c < (List.length a : Int)) then
 bif decide ((0 : Int) ≤ c ∧ c < (List.length a : Int)) then
 bif decide (Int.toNat c < List.length a) then
 bif (((List.getD a (Int.toNat c) (dflt T_api_Record)).1) != (IntKind.wrap .u64 c)) then
 inrO (some ((), false))
 else
 bif decide ((0 : Int) ≤ c ∧ c < (List.length a : Int)) then
 bif decide (Int.toNat c < List.length a) then
 bif decide ((ByteArray.size (((List.getD a (Int.toNat c) (dflt T_api_Record)).2).1) : Int) > (32 : Int)) then
 inrO (some ((), false))
 else
 bif decide ((0 : Int) ≤ c ∧ c < (List.length a : Int)) then
 bif decide (Int.toNat c < List.length a) then
 bif decide ((List.length ((((List.getD a (Int.toNat c) (dflt T_api_Record)).2).2).1) : Int) > (256 : Int)) then
 inrO (some ((), false))
 else
 some (.inl ((IntKind.wrap .i64 (c + (1 : Int)), ()), ()))
 else none
 else none
 else none
 else none
 else none
 else none
 else
 inrO (some ((), true)))
 (((0 : Int), ()), ())
def e79 (fu : Nat) : Ent := ⟨79, (.cons (.hole (.sl .any T_api_Record)) .nil), .nil, (.hole .bool), p79 fu⟩
theorem g79 (fu : Nat) : (e79 fu).Good Try.prog := good_fx orders Try.func79 fu [] [(6, ⟨[3], (.cons (.hole (.int .i64)) .nil), [], .nil, [0], []⟩)] rs79 39 (l := []) trivial
def rs80 : List RVx := [(.tmp 2)]
def p80 (fu : Nat) : (List (D_api_Producer)) × (Unit) → Option ((Unit) × (Bool)) := fun ⟨a, _⟩ =>
bif decide ((List.length a : Int) > (256 : Int)) then
 some ((), false)
else
 loopO (S := ((Int) × (Unit)) × (Unit)) fu (fun ⟨⟨c, _⟩, _⟩ =>
 bif decide (c < (List.length a : Int)) then
 bif decide ((0 : Int) ≤ c ∧ c < (List.length a : Int)) then
 bif decide (Int.toNat c < List.length a) then
 bif (((List.getD a (Int.toNat c) (dflt T_api_Producer)).1) == (0 : Int)) then
 inrO (some ((), false))
 else
 bif decide ((0 : Int) ≤ c ∧ c < (List.length a : Int)) then
 bif decide (Int.toNat c < List.length a) then
 bif decide ((((List.getD a (Int.toNat c) (dflt T_api_Producer)).2).1) < (1 : Int)) then
 inrO (some ((), false))
 else
 bif decide ((0 : Int) ≤ c ∧ c < (List.length a : Int)) then
 bif decide (Int.toNat c < List.length a) then
 bif decide ((((List.getD a (Int.toNat c) (dflt T_api_Producer)).2).1) > (9223372036854775807 : Int)) then
 inrO (some ((), false))
 else
 bif decide ((0 : Int) ≤ c ∧ c < (List.length a : Int)) then
 bif decide (Int.toNat c < List.length a) then
 bif !((((List.getD a (Int.toNat c) (dflt T_api_Producer)).2).2).1) then
 bif decide ((0 : Int) ≤ c ∧ c < (List.length a : Int)) then
 bif decide (Int.toNat c < List.length a) then
 bif (((((List.getD a (Int.toNat c) (dflt T_api_Producer)).2).2).2) != (0 : Int)) then
 inrO (some ((), false))
 else
 bif decide (c > (0 : Int)) then
 bif decide ((0 : Int) ≤ IntKind.wrap .i64 (c - (1 : Int)) ∧ IntKind.wrap .i64 (c - (1 : Int)) < (List.length a : Int)) then
 bif decide (Int.toNat (IntKind.wrap .i64 (c - (1 : Int))) < List.length a) then
 bif decide ((0 : Int) ≤ c ∧ c < (List.length a : Int)) then
 bif decide (Int.toNat c < List.length a) then
 bif decide (((List.getD a (Int.toNat (IntKind.wrap .i64 (c - (1 : Int)))) (dflt T_api_Producer)).1) ≥ ((List.getD a (Int.toNat c) (dflt T_api_Producer)).1)) then
 inrO (some ((), false))
 else
 some (.inl ((IntKind.wrap .i64 (c + (1 : Int)), ()), ()))
 else none
 else none
 else none
 else none
 else
 some (.inl ((IntKind.wrap .i64 (c + (1 : Int)), ()), ()))
 else none
 else none
 else
 bif decide (c > (0 : Int)) then
 bif decide ((0 : Int) ≤ IntKind.wrap .i64 (c - (1 : Int)) ∧ IntKind.wrap .i64 (c - (1 : Int)) < (List.length a : Int)) then
 bif decide (Int.toNat (IntKind.wrap .i64 (c - (1 : Int))) < List.length a) then
 bif decide ((0 : Int) ≤ c ∧ c < (List.length a : Int)) then
 bif decide (Int.toNat c < List.length a) then
 bif decide (((List.getD a (Int.toNat (IntKind.wrap .i64 (c - (1 : Int)))) (dflt T_api_Producer)).1) ≥ ((List.getD a (Int.toNat c) (dflt T_api_Producer)).1)) then
 inrO (some ((), false))
 else
 some (.inl ((IntKind.wrap .i64 (c + (1 : Int)), ()), ()))
 else none
 else none
 else none
 else none
 else
 some (.inl ((IntKind.wrap .i64 (c + (1 : Int)), ()), ()))
 else none
 else none
 else none
 else none
 else none
 else none
 else none
 else none
 else
 inrO (some ((), true)))
 (((0 : Int), ()), ())
def e80 (fu : Nat) : Ent := ⟨80, (.cons (.hole (.sl .any T_api_Producer)) .nil), .nil, (.hole .bool), p80 fu⟩
theorem g80 (fu : Nat) : (e80 fu).Good Try.prog := good_fx orders Try.func80 fu [] [(6, ⟨[3], (.cons (.hole (.int .i64)) .nil), [], .nil, [0], []⟩)] rs80 69 (l := []) trivial
def rs102 : List RVx := [(.tmp 2)]
def p102 (fu : Nat) : (ByteArray) × (Unit) → Option ((Unit) × (Bool)) := fun ⟨a, _⟩ =>
bif decide ((ByteArray.size a : Int) < (1 : Int)) then
 some ((), false)
else
 bif decide ((ByteArray.size a : Int) > (32 : Int)) then
 some ((), false)
 else
 loopO (S := ((Int) × (Unit)) × (Unit)) fu (fun ⟨⟨c, _⟩, _⟩ =>
 bif decide (c < (ByteArray.size a : Int)) then
 bif decide ((0 : Int) ≤ c ∧ c < (ByteArray.size a : Int)) then
 bif decide ((bAt a (Int.toNat c)) < (97 : Int)) then
 bif decide ((bAt a (Int.toNat c)) < (48 : Int)) then
 bif ((bAt a (Int.toNat c)) != (45 : Int)) then
 bif ((bAt a (Int.toNat c)) != (95 : Int)) then
 bif ((bAt a (Int.toNat c)) != (46 : Int)) then
 inrO (some ((), false))
 else
 some (.inl ((IntKind.wrap .i64 (c + (1 : Int)), ()), ()))
 else
 some (.inl ((IntKind.wrap .i64 (c + (1 : Int)), ()), ()))
 else
 some (.inl ((IntKind.wrap .i64 (c + (1 : Int)), ()), ()))
 else
 bif decide ((bAt a (Int.toNat c)) > (57 : Int)) then
 bif ((bAt a (Int.toNat c)) != (45 : Int)) then
 bif ((bAt a (Int.toNat c)) != (95 : Int)) then
 bif ((bAt a (Int.toNat c)) != (46 : Int)) then
 inrO (some ((), false))
 else
 some (.inl ((IntKind.wrap .i64 (c + (1 : Int)), ()), ()))
 else
 some (.inl ((IntKind.wrap .i64 (c + (1 : Int)), ()), ()))
 else
 some (.inl ((IntKind.wrap .i64 (c + (1 : Int)), ()), ()))
 else
 some (.inl ((IntKind.wrap .i64 (c + (1 : Int)), ()), ()))
 else
 bif decide ((bAt a (Int.toNat c)) > (122 : Int)) then
 bif decide ((bAt a (Int.toNat c)) < (48 : Int)) then
 bif ((bAt a (Int.toNat c)) != (45 : Int)) then
 bif ((bAt a (Int.toNat c)) != (95 : Int)) then
 bif ((bAt a (Int.toNat c)) != (46 : Int)) then
 inrO (some ((), false))
 else
 some (.inl ((IntKind.wrap .i64 (c + (1 : Int)), ()), ()))
 else
 some (.inl ((IntKind.wrap .i64 (c + (1 : Int)), ()), ()))
 else
 some (.inl ((IntKind.wrap .i64 (c + (1 : Int)), ()), ()))
 else
 bif decide ((bAt a (Int.toNat c)) > (57 : Int)) then
 bif ((bAt a (Int.toNat c)) != (45 : Int)) then
 bif ((bAt a (Int.toNat c)) != (95 : Int)) then
 bif ((bAt a (Int.toNat c)) != (46 : Int)) then
 inrO (some ((), false))
 else
 some (.inl ((IntKind.wrap .i64 (c + (1 : Int)), ()), ()))
 else
 some (.inl ((IntKind.wrap .i64 (c + (1 : Int)), ()), ()))
 else
 some (.inl ((IntKind.wrap .i64 (c + (1 : Int)), ()), ()))
 else
 some (.inl ((IntKind.wrap .i64 (c + (1 : Int)), ()), ()))
 else
 some (.inl ((IntKind.wrap .i64 (c + (1 : Int)), ()), ()))
 else none
 else
 inrO (some ((), true)))
 (((0 : Int), ()), ())
def e102 (fu : Nat) : Ent := ⟨102, (.cons (.hole .str) .nil), .nil, (.hole .bool), p102 fu⟩
theorem g102 (fu : Nat) : (e102 fu).Good Try.prog := good_fx orders Try.func102 fu [] [(6, ⟨[3], (.cons (.hole (.int .i64)) .nil), [], .nil, [0], []⟩)] rs102 48 (l := []) trivial
def rs81 : List RVx := [(.tmp 2)]
def p81 (fu : Nat) : (List (D_runtime_errorAddressString)) × (Unit) → Option ((Unit) × (Bool)) := fun ⟨a, _⟩ =>
bif decide ((List.length a : Int) > (64 : Int)) then
 some ((), false)
else
 loopO (S := ((Int) × (Unit)) × (Unit)) fu (fun ⟨⟨c, _⟩, _⟩ =>
 bif decide (c < (List.length a : Int)) then
 bif decide ((0 : Int) ≤ c ∧ c < (List.length a : Int)) then
 bif decide (Int.toNat c < List.length a) then
 Option.bind (p102 fu ((List.getD a (Int.toNat c) (dflt T_runtime_errorAddressString)).1, ())) fun ⟨_, f⟩ =>
 bif !f then
 inrO (some ((), false))
 else
 bif decide (c > (0 : Int)) then
 bif decide ((0 : Int) ≤ IntKind.wrap .i64 (c - (1 : Int)) ∧ IntKind.wrap .i64 (c - (1 : Int)) < (List.length a : Int)) then
 bif decide (Int.toNat (IntKind.wrap .i64 (c - (1 : Int))) < List.length a) then
 bif decide ((0 : Int) ≤ c ∧ c < (List.length a : Int)) then
 bif decide (Int.toNat c < List.length a) then
 bif !Op.bytesLess (ByteArray.toList ((List.getD a (Int.toNat (IntKind.wrap .i64 (c - (1 : Int)))) (dflt T_runtime_errorAddressString)).1)) (ByteArray.toList ((List.getD a (Int.toNat c) (dflt T_runtime_errorAddressString)).1)) then
 inrO (some ((), false))
 else
 some (.inl ((IntKind.wrap .i64 (c + (1 : Int)), ()), ()))
 else none
 else none
 else none
 else none
 else
 some (.inl ((IntKind.wrap .i64 (c + (1 : Int)), ()), ()))
 else none
 else none
 else
 inrO (some ((), true)))
 (((0 : Int), ()), ())
def e81 (fu : Nat) : Ent := ⟨81, (.cons (.hole (.sl .any T_runtime_errorAddressString)) .nil), .nil, (.hole .bool), p81 fu⟩
theorem g81 (fu : Nat) : (e81 fu).Good Try.prog := good_fx orders Try.func81 fu [(15, (.ent (e102 fu)))] [(6, ⟨[3], (.cons (.hole (.int .i64)) .nil), [], .nil, [0], []⟩)] rs81 40 (l := [e102 fu]) ⟨g102 fu, trivial⟩
def rs82 : List RVx := [(.tmp 2)]
def p82 (_ : Nat) : ((ByteArray) × ((ByteArray) × (Unit))) × (Unit) → Option ((Unit) × (Int)) := fun ⟨⟨a, c, _⟩, _⟩ =>
bif decide ((ByteArray.size a : Int) > (32 : Int)) then
 some ((), (131 : Int))
else
 bif decide ((ByteArray.size c : Int) > (32 : Int)) then
 some ((), (131 : Int))
 else
 bif !(ByteArray.toList c == ByteArray.toList (⟨#[]⟩ : ByteArray)) then
 bif (Op.bytesLess (ByteArray.toList c) (ByteArray.toList a) || ByteArray.toList c == ByteArray.toList a) then
 some ((), (132 : Int))
 else
 some ((), (0 : Int))
 else
 some ((), (0 : Int))
def e82 (fu : Nat) : Ent := ⟨82, (.cons (.agg 2 (.cons (.hole .str) (.cons (.hole .str) .nil))) .nil), .nil, (.hole (.int .i64)), p82 fu⟩
theorem g82 (fu : Nat) : (e82 fu).Good Try.prog := good_fx orders Try.func82 fu [] [] rs82 23 (l := []) trivial
def rs83 : List RVx := [(.tmp 4)]
def p83 (fu : Nat) : ((ByteArray) × ((ByteArray) × (Unit))) × ((ByteArray) × (Unit)) → Option ((Unit) × (Bool)) := fun ⟨⟨a, c, _⟩, f, _⟩ =>
Option.bind (p82 fu ((a, c, ()), ())) fun ⟨_, h⟩ =>
bif (h == (0 : Int)) then
 bif decide ((ByteArray.size f : Int) ≤ (32 : Int)) then
 bif !Op.bytesLess (ByteArray.toList f) (ByteArray.toList a) then
 bif ByteArray.toList c == ByteArray.toList (⟨#[]⟩ : ByteArray) then
 some ((), true)
 else
 some ((), Op.bytesLess (ByteArray.toList f) (ByteArray.toList c))
 else
 some ((), false)
 else
 some ((), false)
else
 some ((), false)
def e83 (fu : Nat) : Ent := ⟨83, (.cons (.agg 2 (.cons (.hole .str) (.cons (.hole .str) .nil))) (.cons (.hole .str) .nil)), .nil, (.hole .bool), p83 fu⟩
theorem g83 (fu : Nat) : (e83 fu).Good Try.prog := good_fx orders Try.func83 fu [(3, (.ent (e82 fu)))] [] rs83 30 (l := [e82 fu]) ⟨g82 fu, trivial⟩
def rs84 : List RVx := [(.tmp 4)]
def p84 (fu : Nat) : (List (D_api_Producer)) × ((Int) × (Unit)) → Option ((Unit) × (Int)) := fun ⟨a, c, _⟩ =>
loopO (S := ((Int) × (Unit)) × (Unit)) fu (fun ⟨⟨f, _⟩, _⟩ =>
 bif decide (f < (List.length a : Int)) then
 bif decide ((0 : Int) ≤ f ∧ f < (List.length a : Int)) then
 bif decide (Int.toNat f < List.length a) then
 bif (((List.getD a (Int.toNat f) (dflt T_api_Producer)).1) == c) then
 inrO (some ((), f))
 else
 some (.inl ((IntKind.wrap .i64 (f + (1 : Int)), ()), ()))
 else none
 else none
 else
 inrO (some ((), ((-1) : Int))))
 (((0 : Int), ()), ())
def e84 (fu : Nat) : Ent := ⟨84, (.cons (.hole (.sl .any T_api_Producer)) (.cons (.hole (.int .u64)) .nil)), .nil, (.hole (.int .i64)), p84 fu⟩
theorem g84 (fu : Nat) : (e84 fu).Good Try.prog := good_fx orders Try.func84 fu [] [(3, ⟨[5], (.cons (.hole (.int .i64)) .nil), [], .nil, [0, 1], []⟩)] rs84 20 (l := []) trivial
def rs42 : List RVx := [(.tmp 2)]
def p42 (fu : Nat) : (Z0) × (Unit) → Option ((Unit) × (Int)) := fun ⟨⟨a, c, f, _, h, i, j, _⟩, _⟩ =>
Option.bind (p79 fu (h, ())) fun ⟨_, k⟩ =>
Option.bind (p80 fu (i, ())) fun ⟨_, l⟩ =>
Option.bind (p81 fu (j, ())) fun ⟨_, m⟩ =>
Option.bind (p82 fu ((a, c, ()), ())) fun ⟨_, n⟩ =>
bif (n != (0 : Int)) then
 some ((), (165 : Int))
else
 bif (f == (0 : Int)) then
 some ((), (165 : Int))
 else
 bif !k then
 some ((), (165 : Int))
 else
 bif !l then
 some ((), (165 : Int))
 else
 bif !m then
 some ((), (165 : Int))
 else
 bif decide ((0 : Int) ≤ (List.length i : Int) ∧ ((List.length i : Int) : Int) ≤ (List.length i : Int) ∧ ((List.length i : Int) : Int) ≤ 9223372036854775807 ∧ (8 : Int) * (List.length i : Int) ≤ 140737488355328) then
 bif decide (Int.toNat (List.length i : Int) = List.length (List.replicate (Int.toNat (List.length i : Int)) (0 : Int) : List (Int))) then
 loopO (S := ((List (Int)) × ((Int) × (Unit))) × (Unit)) fu (fun ⟨⟨o, q, _⟩, _⟩ =>
 bif decide (q < (List.length h : Int)) then
 bif decide ((0 : Int) ≤ q ∧ q < (List.length h : Int)) then
 bif decide (Int.toNat q < List.length h) then
 Option.bind (p83 fu ((a, c, ()), ((List.getD h (Int.toNat q) (dflt T_api_Record)).2).1, ())) fun ⟨_, s⟩ =>
 Option.bind (p84 fu (i, ((((List.getD h (Int.toNat q) (dflt T_api_Record)).2).2).2).1, ())) fun ⟨_, t⟩ =>
 bif !s then
 inrO (some ((), (165 : Int)))
 else
 bif decide (t < (0 : Int)) then
 inrO (some ((), (165 : Int)))
 else
 bif decide ((0 : Int) ≤ t ∧ t < (List.length o : Int)) then
 bif decide (Int.toNat t < List.length o) then
 bif decide ((((((List.getD h (Int.toNat q) (dflt T_api_Record)).2).2).2).2) ≤ (List.getD o (Int.toNat t) (dflt (.int .u64)))) then
 inrO (some ((), (165 : Int)))
 else
 bif decide ((0 : Int) ≤ t ∧ t < (List.length i : Int)) then
 bif decide (Int.toNat t < List.length i) then
 bif decide ((((((List.getD h (Int.toNat q) (dflt T_api_Record)).2).2).2).2) > (((List.getD i (Int.toNat t) (dflt T_api_Producer)).2).1)) then
 inrO (some ((), (165 : Int)))
 else
 bif decide ((0 : Int) ≤ t ∧ t < (List.length o : Int)) then
 bif decide (Int.toNat t < List.length o) then
 bif decide (List.length o = List.length (List.set o (Int.toNat t) (((((List.getD h (Int.toNat q) (dflt T_api_Record)).2).2).2).2))) then
 some (.inl (((List.set o (Int.toNat t) (((((List.getD h (Int.toNat q) (dflt T_api_Record)).2).2).2).2)), IntKind.wrap .i64 (q + (1 : Int)), ()), ()))
 else none
 else none
 else none
 else none
 else none
 else none
 else none
 else none
 else none
 else
 inrO (loopO (S := ((Int) × (Unit)) × (Unit)) fu (fun ⟨⟨u, _⟩, _⟩ =>
 bif decide (u < (List.length i : Int)) then
 bif decide ((0 : Int) ≤ u ∧ u < (List.length i : Int)) then
 bif decide (Int.toNat u < List.length i) then
 bif !((((List.getD i (Int.toNat u) (dflt T_api_Producer)).2).2).1) then
 some (.inl ((IntKind.wrap .i64 (u + (1 : Int)), ()), ()))
 else
 bif decide (((((List.getD i (Int.toNat u) (dflt T_api_Producer)).2).2).2) ≥ (IntKind.wrap .u64 (List.length h : Int))) then
 inrO (some ((), (165 : Int)))
 else
 bif decide ((0 : Int) ≤ IntKind.wrap .i64 ((((List.getD i (Int.toNat u) (dflt T_api_Producer)).2).2).2) ∧ IntKind.wrap .i64 ((((List.getD i (Int.toNat u) (dflt T_api_Producer)).2).2).2) < (List.length h : Int)) then
 bif decide (Int.toNat (IntKind.wrap .i64 ((((List.getD i (Int.toNat u) (dflt T_api_Producer)).2).2).2)) < List.length h) then
 bif ((((((List.getD h (Int.toNat (IntKind.wrap .i64 ((((List.getD i (Int.toNat u) (dflt T_api_Producer)).2).2).2))) (dflt T_api_Record)).2).2).2).1) != ((List.getD i (Int.toNat u) (dflt T_api_Producer)).1)) then
 inrO (some ((), (165 : Int)))
 else
 bif decide ((0 : Int) ≤ IntKind.wrap .i64 ((((List.getD i (Int.toNat u) (dflt T_api_Producer)).2).2).2) ∧ IntKind.wrap .i64 ((((List.getD i (Int.toNat u) (dflt T_api_Producer)).2).2).2) < (List.length h : Int)) then
 bif decide (Int.toNat (IntKind.wrap .i64 ((((List.getD i (Int.toNat u) (dflt T_api_Producer)).2).2).2)) < List.length h) then
 bif ((((((List.getD h (Int.toNat (IntKind.wrap .i64 ((((List.getD i (Int.toNat u) (dflt T_api_Producer)).2).2).2))) (dflt T_api_Record)).2).2).2).2) != (((List.getD i (Int.toNat u) (dflt T_api_Producer)).2).1)) then
 inrO (some ((), (165 : Int)))
 else
 some (.inl ((IntKind.wrap .i64 (u + (1 : Int)), ()), ()))
 else none
 else none
 else none
 else none
 else none
 else none
 else
 inrO (loopO (S := ((Int) × (Unit)) × (Unit)) fu (fun ⟨⟨w, _⟩, _⟩ =>
 bif decide (w < (List.length j : Int)) then
 bif decide ((0 : Int) ≤ w ∧ w < (List.length j : Int)) then
 bif decide (Int.toNat w < List.length j) then
 bif decide (((List.getD j (Int.toNat w) (dflt T_runtime_errorAddressString)).2) > (IntKind.wrap .u64 (List.length h : Int))) then
 inrO (some ((), (165 : Int)))
 else
 some (.inl ((IntKind.wrap .i64 (w + (1 : Int)), ()), ()))
 else none
 else none
 else
 inrO (some ((), (0 : Int))))
 (((0 : Int), ()), ())))
 (((0 : Int), ()), ())))
 (((List.replicate (Int.toNat (List.length i : Int)) (0 : Int) : List (Int)), (0 : Int), ()), ())
 else none
 else none
def e42 (fu : Nat) : Ent := ⟨42, (.cons Y3 .nil), .nil, (.hole (.int .i64)), p42 fu⟩
theorem g42 (fu : Nat) : (e42 fu).Good Try.prog := good_fx orders Try.func42 fu [(4, (.ent (e79 fu))), (8, (.ent (e80 fu))), (12, (.ent (e81 fu))), (16, (.ent (e82 fu))), (39, (.ty (.int .u64))), (58, (.ent (e83 fu))), (64, (.ent (e84 fu)))] [(10, ⟨[6, 7], (.cons (.own .own 25 (.int .u64)) (.cons (.hole (.int .i64)) .nil)), [], .nil, [1], [0]⟩), (22, ⟨[11], (.cons (.hole (.int .i64)) .nil), [], .nil, [1], [0]⟩), (33, ⟨[13], (.cons (.hole (.int .i64)) .nil), [], .nil, [1], [0]⟩)] rs42 167 (l := [e79 fu, e80 fu, e81 fu, e82 fu, e83 fu, e84 fu]) ⟨g79 fu, g80 fu, g81 fu, g82 fu, g83 fu, g84 fu, trivial⟩
def rs43 : List RVx := [(.cell 4 true 2), (.cell 5 true 2), (.tmp 6)]
def p43 (fu : Nat) : ((ByteArray) × ((ByteArray) × (Unit))) × ((ByteArray) × (Unit)) → Option ((Unit) × (((ByteArray) × ((ByteArray) × (Unit))) × (((ByteArray) × ((ByteArray) × (Unit))) × ((Int) × (Unit))))) := fun ⟨⟨a, c, _⟩, f, _⟩ =>
Option.bind (p82 fu ((a, c, ()), ())) fun ⟨_, h⟩ =>
bif (h != (0 : Int)) then
 some ((), (((⟨#[]⟩ : ByteArray), (⟨#[]⟩ : ByteArray), ()), ((⟨#[]⟩ : ByteArray), (⟨#[]⟩ : ByteArray), ()), h, ()))
else
 bif decide ((ByteArray.size f : Int) > (32 : Int)) then
 some ((), (((⟨#[]⟩ : ByteArray), (⟨#[]⟩ : ByteArray), ()), ((⟨#[]⟩ : ByteArray), (⟨#[]⟩ : ByteArray), ()), (131 : Int), ()))
 else
 Option.bind (p83 fu ((a, c, ()), f, ())) fun ⟨_, i⟩ =>
 orK (E := ((Bool) × (Unit)) × (Unit))
 (bif (Op.bytesLess (ByteArray.toList f) (ByteArray.toList a) || ByteArray.toList f == ByteArray.toList a) then
 some (.inl ((true, ()), ()))
 else
 some (.inl ((!i, ()), ())))
 fun ⟨⟨j, _⟩, _⟩ =>
 bif j then
 some ((), (((⟨#[]⟩ : ByteArray), (⟨#[]⟩ : ByteArray), ()), ((⟨#[]⟩ : ByteArray), (⟨#[]⟩ : ByteArray), ()), (132 : Int), ()))
 else
 some ((), ((a, f, ()), (f, c, ()), (0 : Int), ()))
def e43 (fu : Nat) : Ent := ⟨43, (.cons (.agg 2 (.cons (.hole .str) (.cons (.hole .str) .nil))) (.cons (.hole .str) .nil)), .nil, Y4, p43 fu⟩
theorem g43 (fu : Nat) : (e43 fu).Good Try.prog := good_fx orders Try.func43 fu [(5, (.ent (e82 fu))), (25, (.ent (e83 fu)))] [(10, ⟨[31], (.cons (.hole .bool) .nil), [], .nil, [1, 2, 4, 5], [0, 16, 32]⟩)] rs43 42 (l := [e82 fu, e83 fu]) ⟨g82 fu, g83 fu, trivial⟩
def rs103 : List RVx := [(.cell 4 true 5)]
def p103 (_ : Nat) : ((Int) × ((ByteArray) × ((List (Int)) × ((Int) × ((Int) × (Unit)))))) × ((Int) × (Unit)) → Option ((Unit) × ((Int) × ((ByteArray) × ((List (Int)) × ((Int) × ((Int) × (Unit))))))) := fun ⟨⟨_, a, c, f, h, _⟩, i, _⟩ =>
bif decide (0 = List.length ([] : List (Int))) then
 bif decide (List.length ([] : List (Int)) + List.length c ≤ maxLen ∧ (List.length ([] : List (Int)) + List.length c) * 1 ≤ 140737488355328) then
 bif decide (List.length (([] : List (Int)) ++ c) = List.length (([] : List (Int)) ++ c)) then
 some ((), (IntKind.wrap .u64 i, a, (([] : List (Int)) ++ c), f, h, ()))
 else none
 else none
else none
def e103 (fu : Nat) : Ent := ⟨103, (.cons Y2 (.cons (.hole (.int .i64)) .nil)), .nil, Y5, p103 fu⟩
theorem g103 (fu : Nat) : (e103 fu).Good Try.prog := good_fx orders Try.func103 fu [(6, (.ty (.int .u8))), (9, (.ty (.int .u8)))] [] rs103 14 (l := []) trivial
def rs85 : List RVx := [(.tmp 4), (.tmp 5)]
def p85 (fu : Nat) : (List (D_api_Record)) × (((ByteArray) × ((ByteArray) × (Unit))) × (Unit)) → Option ((Unit) × ((List (D_api_Record)) × ((List (Int)) × (Unit)))) := fun ⟨a, ⟨c, f, _⟩, _⟩ =>
Option.bind (p79 fu (a, ())) fun ⟨_, h⟩ =>
bif !h then
 some ((), ([], [], ()))
else
 Option.bind (p82 fu ((c, f, ()), ())) fun ⟨_, i⟩ =>
 bif (i != (0 : Int)) then
 some ((), ([], [], ()))
 else
 loopO (S := ((List (D_api_Record)) × ((List (Int)) × ((Int) × (Unit)))) × (Unit)) fu (fun ⟨⟨j, k, l, _⟩, _⟩ =>
 bif decide (l < (List.length a : Int)) then
 bif decide (List.length k = List.length k) then
 bif decide (List.length k + List.length ([IntKind.wrap .u64 ((List.length j) : Int)]) ≤ maxLen ∧ (List.length k + List.length ([IntKind.wrap .u64 ((List.length j) : Int)])) * 8 ≤ 140737488355328) then
 bif decide ((0 : Int) ≤ l ∧ l < (List.length a : Int)) then
 bif decide (Int.toNat l < List.length a) then
 Option.bind (p83 fu ((c, f, ()), ((List.getD a (Int.toNat l) (dflt T_api_Record)).2).1, ())) fun ⟨_, m⟩ =>
 bif m then
 bif decide ((0 : Int) ≤ l ∧ l < (List.length a : Int)) then
 bif decide (Int.toNat l < List.length a) then
 Option.bind (p103 fu (((List.getD a (Int.toNat l) (dflt T_api_Record)).1, ((List.getD a (Int.toNat l) (dflt T_api_Record)).2).1, (((List.getD a (Int.toNat l) (dflt T_api_Record)).2).2).1, ((((List.getD a (Int.toNat l) (dflt T_api_Record)).2).2).2).1, ((((List.getD a (Int.toNat l) (dflt T_api_Record)).2).2).2).2, ()), ((List.length j) : Int), ())) fun ⟨_, ⟨n, o, q, s, t, _⟩⟩ =>
 bif decide (List.length q = List.length q) then
 bif decide (List.length j = List.length j) then
 bif decide (List.length j + List.length ([(n, o, q, s, t)]) ≤ maxLen ∧ (List.length j + List.length ([(n, o, q, s, t)])) * 64 ≤ 140737488355328) then
 bif decide (List.length (j ++ [(n, o, q, s, t)]) = List.length (j ++ [(n, o, q, s, t)])) then
 bif decide (List.length (k ++ [IntKind.wrap .u64 ((List.length j) : Int)]) = List.length (k ++ [IntKind.wrap .u64 ((List.length j) : Int)])) then
 some (.inl (((j ++ [(n, o, q, s, t)]), (k ++ [IntKind.wrap .u64 ((List.length j) : Int)]), IntKind.wrap .i64 (l + (1 : Int)), ()), ()))
 else none
 else none
 else none
 else none
 else none
 else none
 else none
 else
 bif decide (List.length j = List.length j) then
 bif decide (List.length (k ++ [IntKind.wrap .u64 ((List.length j) : Int)]) = List.length (k ++ [IntKind.wrap .u64 ((List.length j) : Int)])) then
 some (.inl ((j, (k ++ [IntKind.wrap .u64 ((List.length j) : Int)]), IntKind.wrap .i64 (l + (1 : Int)), ()), ()))
 else none
 else none
 else none
 else none
 else none
 else none
 else
 inrO (bif decide (List.length k = List.length k) then
 bif decide (List.length k + List.length ([IntKind.wrap .u64 ((List.length j) : Int)]) ≤ maxLen ∧ (List.length k + List.length ([IntKind.wrap .u64 ((List.length j) : Int)])) * 8 ≤ 140737488355328) then
 bif decide (List.length j = List.length j) then
 bif decide (List.length (k ++ [IntKind.wrap .u64 ((List.length j) : Int)]) = List.length (k ++ [IntKind.wrap .u64 ((List.length j) : Int)])) then
 some ((), (j, (k ++ [IntKind.wrap .u64 ((List.length j) : Int)]), ()))
 else none
 else none
 else none
 else none))
 (([], [], (0 : Int), ()), ())
def e85 (fu : Nat) : Ent := ⟨85, (.cons (.hole (.sl .any T_api_Record)) (.cons (.agg 2 (.cons (.hole .str) (.cons (.hole .str) .nil))) .nil)), .nil, (.tup 2 (.cons (.own .own 37 T_api_Record_n) (.cons (.own .own 25 (.int .u64)) .nil))), p85 fu⟩
theorem g85 (fu : Nat) : (e85 fu).Good Try.prog := good_fx orders Try.func85 fu [(4, (.ent (e79 fu))), (10, (.ent (e82 fu))), (26, (.ty (.int .u64))), (27, (.ty (.int .u64))), (35, (.ent (e83 fu))), (45, (.ent (e103 fu))), (46, (.ty T_api_Record_n)), (47, (.ty T_api_Record_n)), (57, (.ty (.int .u64))), (58, (.ty (.int .u64)))] [(9, ⟨[7, 8, 9], (.cons (.own .own 37 T_api_Record_n) (.cons (.own .own 25 (.int .u64)) (.cons (.hole (.int .i64)) .nil))), [], .nil, [0, 3], [0]⟩)] rs85 57 (l := [e79 fu, e82 fu, e83 fu, e103 fu]) ⟨g79 fu, g82 fu, g83 fu, g103 fu, trivial⟩
def rs104 : List RVx := [(.cell 4 true 4)]
def p104 (_ : Nat) : ((Int) × ((Int) × ((Bool) × ((Int) × (Unit))))) × ((List (Int)) × (Unit)) → Option ((Unit) × ((Int) × ((Int) × ((Bool) × ((Int) × (Unit)))))) := fun ⟨⟨a, c, f, h, _⟩, i, _⟩ =>
orK (E := ((Bool) × (Unit)) × (Unit))
 (bif f then
 bif decide ((List.length i : Int) > (0 : Int)) then
 bif decide (h < (IntKind.wrap .u64 (IntKind.wrap .i64 ((List.length i : Int) - (1 : Int))))) then
 bif decide ((0 : Int) ≤ IntKind.wrap .i64 ((IntKind.wrap .i64 h) + (1 : Int)) ∧ IntKind.wrap .i64 ((IntKind.wrap .i64 h) + (1 : Int)) < (List.length i : Int)) then
 bif decide (Int.toNat (IntKind.wrap .i64 ((IntKind.wrap .i64 h) + (1 : Int))) < List.length i) then
 bif decide ((0 : Int) ≤ IntKind.wrap .i64 h ∧ IntKind.wrap .i64 h < (List.length i : Int)) then
 bif decide (Int.toNat (IntKind.wrap .i64 h) < List.length i) then
 some (.inl ((decide ((List.getD i (Int.toNat (IntKind.wrap .i64 ((IntKind.wrap .i64 h) + (1 : Int)))) (dflt (.int .u64))) > (List.getD i (Int.toNat (IntKind.wrap .i64 h)) (dflt (.int .u64)))), ()), ()))
 else none
 else none
 else none
 else none
 else
 some (.inl ((false, ()), ()))
 else
 some (.inl ((false, ()), ()))
 else
 some (.inl ((false, ()), ())))
 fun ⟨⟨j, _⟩, _⟩ =>
bif j then
 bif decide ((0 : Int) ≤ IntKind.wrap .i64 h ∧ IntKind.wrap .i64 h < (List.length i : Int)) then
 bif decide (Int.toNat (IntKind.wrap .i64 h) < List.length i) then
 some ((), (a, c, true, (List.getD i (Int.toNat (IntKind.wrap .i64 h)) (dflt (.int .u64))), ()))
 else none
 else none
else
 some ((), (a, c, false, (0 : Int), ()))
def e104 (fu : Nat) : Ent := ⟨104, (.cons (.agg 4 (.cons (.hole (.int .u64)) (.cons (.hole (.int .u64)) (.cons (.hole .bool) (.cons (.hole (.int .u64)) .nil))))) (.cons (.hole (.sl .any (.int .u64))) .nil)), .nil, (.agg 4 (.cons (.hole (.int .u64)) (.cons (.hole (.int .u64)) (.cons (.hole .bool) (.cons (.hole (.int .u64)) .nil))))), p104 fu⟩
theorem g104 (fu : Nat) : (e104 fu).Good Try.prog := good_fx orders Try.func104 fu [] [(3, ⟨[42], (.cons (.hole .bool) .nil), [], .nil, [1, 2, 4, 5], [0, 16, 112]⟩)] rs104 52 (l := []) trivial
def rs86 : List RVx := [(.tmp 4)]
def p86 (fu : Nat) : (List (D_api_Producer)) × ((List (Int)) × (Unit)) → Option ((Unit) × (List (D_api_Producer))) := fun ⟨a, c, _⟩ =>
loopO (S := ((List (D_api_Producer)) × ((Int) × (Unit))) × (Unit)) fu (fun ⟨⟨f, h, _⟩, _⟩ =>
 bif decide (h < (List.length a : Int)) then
 bif decide ((0 : Int) ≤ h ∧ h < (List.length a : Int)) then
 bif decide (Int.toNat h < List.length a) then
 Option.bind (p104 fu (((List.getD a (Int.toNat h) (dflt T_api_Producer)).1, ((List.getD a (Int.toNat h) (dflt T_api_Producer)).2).1, (((List.getD a (Int.toNat h) (dflt T_api_Producer)).2).2).1, (((List.getD a (Int.toNat h) (dflt T_api_Producer)).2).2).2, ()), c, ())) fun ⟨_, ⟨i, j, k, l, _⟩⟩ =>
 bif decide (List.length f = List.length f) then
 bif decide (List.length f + List.length ([(i, j, k, l)]) ≤ maxLen ∧ (List.length f + List.length ([(i, j, k, l)])) * 32 ≤ 140737488355328) then
 bif decide (List.length (f ++ [(i, j, k, l)]) = List.length (f ++ [(i, j, k, l)])) then
 some (.inl (((f ++ [(i, j, k, l)]), IntKind.wrap .i64 (h + (1 : Int)), ()), ()))
 else none
 else none
 else none
 else none
 else none
 else
 inrO (bif decide (List.length f = List.length f) then
 some ((), f)
 else none))
 (([], (0 : Int), ()), ())
def e86 (fu : Nat) : Ent := ⟨86, (.cons (.hole (.sl .any T_api_Producer)) (.cons (.hole (.sl .any (.int .u64))) .nil)), .nil, (.own .own 39 T_api_Producer), p86 fu⟩
theorem g86 (fu : Nat) : (e86 fu).Good Try.prog := good_fx orders Try.func86 fu [(13, (.ent (e104 fu))), (14, (.ty T_api_Producer)), (15, (.ty T_api_Producer))] [(4, ⟨[5, 6], (.cons (.own .own 39 T_api_Producer) (.cons (.hole (.int .i64)) .nil)), [], .nil, [0, 1], []⟩)] rs86 23 (l := [e104 fu]) ⟨g104 fu, trivial⟩
def rs105 : List RVx := [(.tmp 4)]
def p105 (_ : Nat) : (List (Int)) × ((Int) × (Unit)) → Option ((Unit) × (Int)) := fun ⟨a, c, _⟩ =>
bif decide (c ≥ (IntKind.wrap .u64 (List.length a : Int))) then
 bif decide ((0 : Int) ≤ IntKind.wrap .i64 ((List.length a : Int) - (1 : Int)) ∧ IntKind.wrap .i64 ((List.length a : Int) - (1 : Int)) < (List.length a : Int)) then
 bif decide (Int.toNat (IntKind.wrap .i64 ((List.length a : Int) - (1 : Int))) < List.length a) then
 some ((), (List.getD a (Int.toNat (IntKind.wrap .i64 ((List.length a : Int) - (1 : Int)))) (dflt (.int .u64))))
 else none
 else none
else
 bif decide ((0 : Int) ≤ IntKind.wrap .i64 c ∧ IntKind.wrap .i64 c < (List.length a : Int)) then
 bif decide (Int.toNat (IntKind.wrap .i64 c) < List.length a) then
 some ((), (List.getD a (Int.toNat (IntKind.wrap .i64 c)) (dflt (.int .u64))))
 else none
 else none
def e105 (fu : Nat) : Ent := ⟨105, (.cons (.hole (.sl .any (.int .u64))) (.cons (.hole (.int .u64)) .nil)), .nil, (.hole (.int .u64)), p105 fu⟩
theorem g105 (fu : Nat) : (e105 fu).Good Try.prog := good_fx orders Try.func105 fu [] [] rs105 21 (l := []) trivial
def rs87 : List RVx := [(.tmp 4)]
def p87 (fu : Nat) : (List (D_runtime_errorAddressString)) × ((List (Int)) × (Unit)) → Option ((Unit) × (List (D_runtime_errorAddressString))) := fun ⟨a, c, _⟩ =>
loopO (S := ((List (D_runtime_errorAddressString)) × ((Int) × (Unit))) × (Unit)) fu (fun ⟨⟨f, h, _⟩, _⟩ =>
 bif decide (h < (List.length a : Int)) then
 bif decide ((List.length c : Int) > (0 : Int)) then
 bif decide ((0 : Int) ≤ h ∧ h < (List.length a : Int)) then
 bif decide (Int.toNat h < List.length a) then
 bif decide ((0 : Int) ≤ h ∧ h < (List.length a : Int)) then
 bif decide (Int.toNat h < List.length a) then
 Option.bind (p105 fu (c, (List.getD a (Int.toNat h) (dflt T_runtime_errorAddressString)).2, ())) fun ⟨_, i⟩ =>
 bif decide (List.length f = List.length f) then
 bif decide (List.length f + List.length ([((List.getD a (Int.toNat h) (dflt T_runtime_errorAddressString)).1, i)]) ≤ maxLen ∧ (List.length f + List.length ([((List.getD a (Int.toNat h) (dflt T_runtime_errorAddressString)).1, i)])) * 24 ≤ 140737488355328) then
 bif decide (List.length (f ++ [((List.getD a (Int.toNat h) (dflt T_runtime_errorAddressString)).1, i)]) = List.length (f ++ [((List.getD a (Int.toNat h) (dflt T_runtime_errorAddressString)).1, i)])) then
 some (.inl (((f ++ [((List.getD a (Int.toNat h) (dflt T_runtime_errorAddressString)).1, i)]), IntKind.wrap .i64 (h + (1 : Int)), ()), ()))
 else none
 else none
 else none
 else none
 else none
 else none
 else none
 else
 inrO (bif decide (List.length f = List.length f) then
 some ((), f)
 else none)
 else
 inrO (bif decide (List.length f = List.length f) then
 some ((), f)
 else none))
 (([], (0 : Int), ()), ())
def e87 (fu : Nat) : Ent := ⟨87, (.cons (.hole (.sl .any T_runtime_errorAddressString)) (.cons (.hole (.sl .any (.int .u64))) .nil)), .nil, (.own .own 41 T_runtime_errorAddressString), p87 fu⟩
theorem g87 (fu : Nat) : (e87 fu).Good Try.prog := good_fx orders Try.func87 fu [(24, (.ent (e105 fu))), (26, (.ty T_runtime_errorAddressString)), (27, (.ty T_runtime_errorAddressString))] [(4, ⟨[5, 6], (.cons (.own .own 41 T_runtime_errorAddressString) (.cons (.hole (.int .i64)) .nil)), [], .nil, [0, 1], []⟩)] rs87 35 (l := [e105 fu]) ⟨g105 fu, trivial⟩
def rs44 : List RVx := [(.cell 4 true 7)]
def p44 (fu : Nat) : (Z0) × (((ByteArray) × ((ByteArray) × (Unit))) × (Unit)) → Option ((Unit) × ((ByteArray) × ((ByteArray) × ((Int) × ((Int) × ((List (D_api_Record)) × ((List (D_api_Producer)) × ((List (D_runtime_errorAddressString)) × (Unit))))))))) := fun ⟨⟨_, _, a, _, c, f, h, _⟩, ⟨i, j, _⟩, _⟩ =>
Option.bind (p85 fu (c, (i, j, ()), ())) fun ⟨_, ⟨k, l, _⟩⟩ =>
bif decide (List.length l = List.length l) then
 Option.bind (p86 fu (f, l, ())) fun ⟨_, m⟩ =>
 bif decide (List.length l = List.length l) then
 Option.bind (p87 fu (h, l, ())) fun ⟨_, n⟩ =>
 bif decide (List.length k = List.length k) then
 bif decide (List.length m = List.length m) then
 bif decide (List.length n = List.length n) then
 some ((), (i, j, IntKind.wrap .u64 (a + (1 : Int)), (0 : Int), k, m, n, ()))
 else none
 else none
 else none
 else none
else none
def e44 (fu : Nat) : Ent := ⟨44, (.cons Y3 (.cons (.agg 2 (.cons (.hole .str) (.cons (.hole .str) .nil))) .nil)), .nil, Y1, p44 fu⟩
theorem g44 (fu : Nat) : (e44 fu).Good Try.prog := good_fx orders Try.func44 fu [(6, (.ent (e85 fu))), (20, (.ent (e86 fu))), (24, (.ent (e87 fu)))] [] rs44 28 (l := [e85 fu, e86 fu, e87 fu]) ⟨g85 fu, g86 fu, g87 fu, trivial⟩
def rs15 : List RVx := [(.cell 4 true 7), (.cell 5 true 7), (.tmp 6)]
def p15 (fu : Nat) : (Z0) × ((ByteArray) × (Unit)) → Option ((Unit) × ((Z0) × ((Z0) × ((Int) × (Unit))))) := fun ⟨⟨a, c, f, h, i, j, k, _⟩, l, _⟩ =>
orK (E := ((Bool) × (Unit)) × (Unit))
 (Option.bind (p42 fu ((a, c, f, h, i, j, k, ()), ())) fun ⟨_, m⟩ =>
 bif (m != (0 : Int)) then
 some (.inl ((true, ()), ()))
 else
 some (.inl ((((IntKind.wrap .u64 (f + (1 : Int))) == (0 : Int)), ()), ())))
 fun ⟨⟨n, _⟩, _⟩ =>
bif n then
 some ((), (((⟨#[]⟩ : ByteArray), (⟨#[]⟩ : ByteArray), (0 : Int), (0 : Int), [], [], [], ()), ((⟨#[]⟩ : ByteArray), (⟨#[]⟩ : ByteArray), (0 : Int), (0 : Int), [], [], [], ()), (172 : Int), ()))
else
 bif (h == (0 : Int)) then
 some ((), (((⟨#[]⟩ : ByteArray), (⟨#[]⟩ : ByteArray), (0 : Int), (0 : Int), [], [], [], ()), ((⟨#[]⟩ : ByteArray), (⟨#[]⟩ : ByteArray), (0 : Int), (0 : Int), [], [], [], ()), (171 : Int), ()))
 else
 Option.bind (p43 fu ((a, c, ()), l, ())) fun ⟨_, ⟨⟨o, q, _⟩, ⟨s, t, _⟩, u, _⟩⟩ =>
 bif (u != (0 : Int)) then
 some ((), (((⟨#[]⟩ : ByteArray), (⟨#[]⟩ : ByteArray), (0 : Int), (0 : Int), [], [], [], ()), ((⟨#[]⟩ : ByteArray), (⟨#[]⟩ : ByteArray), (0 : Int), (0 : Int), [], [], [], ()), u, ()))
 else
 Option.bind (p44 fu ((a, c, f, h, i, j, k, ()), (o, q, ()), ())) fun ⟨_, ⟨w, x, y, z, a0, c0, f0, _⟩⟩ =>
 Option.bind (p44 fu ((a, c, f, h, i, j, k, ()), (s, t, ()), ())) fun ⟨_, ⟨h0, i0, j0, k0, l0, m0, n0, _⟩⟩ =>
 bif decide (List.length a0 = List.length a0) then
 bif decide (List.length c0 = List.length c0) then
 bif decide (List.length f0 = List.length f0) then
 bif decide (List.length l0 = List.length l0) then
 bif decide (List.length m0 = List.length m0) then
 bif decide (List.length n0 = List.length n0) then
 some ((), ((w, x, y, z, a0, c0, f0, ()), (h0, i0, j0, k0, l0, m0, n0, ()), (0 : Int), ()))
 else none
 else none
 else none
 else none
 else none
 else none
def e15 (fu : Nat) : Ent := ⟨15, (.cons Y3 (.cons (.hole .str) .nil)), .nil, (.tup 3 (.cons Y1 (.cons Y1 (.cons (.hole (.int .i64)) .nil)))), p15 fu⟩
theorem g15 (fu : Nat) : (e15 fu).Good Try.prog := good_fx orders Try.func15 fu [(5, (.ent (e42 fu))), (29, (.ent (e43 fu))), (49, (.ent (e44 fu))), (52, (.ent (e44 fu)))] [(2, ⟨[18], (.cons (.hole .bool) .nil), [], .nil, [1, 2, 4, 5], [0, 16, 32]⟩)] rs15 45 (l := [e42 fu, e43 fu, e44 fu, e44 fu]) ⟨g42 fu, g43 fu, g44 fu, g44 fu, trivial⟩
def rs25 : List RVx := [(.tmp 4)]
def p25 (fu : Nat) : (List (D_api_Record)) × ((List (D_api_Record)) × (Unit)) → Option ((Unit) × (Bool)) := fun ⟨a, c, _⟩ =>
bif ((List.length a : Int) != (List.length c : Int)) then
 some ((), false)
else
 loopO (S := ((Int) × (Unit)) × (Unit)) fu (fun ⟨⟨f, _⟩, _⟩ =>
 bif decide (f < (List.length a : Int)) then
 bif decide ((0 : Int) ≤ f ∧ f < (List.length a : Int)) then
 bif decide (Int.toNat f < List.length a) then
 bif decide ((0 : Int) ≤ f ∧ f < (List.length c : Int)) then
 bif decide (Int.toNat f < List.length c) then
 bif (((List.getD a (Int.toNat f) (dflt T_api_Record)).1) != ((List.getD c (Int.toNat f) (dflt T_api_Record)).1)) then
 inrO (some ((), false))
 else
 bif decide ((0 : Int) ≤ f ∧ f < (List.length a : Int)) then
 bif decide (Int.toNat f < List.length a) then
 bif decide ((0 : Int) ≤ f ∧ f < (List.length c : Int)) then
 bif decide (Int.toNat f < List.length c) then
 bif !(ByteArray.toList (((List.getD a (Int.toNat f) (dflt T_api_Record)).2).1) == ByteArray.toList (((List.getD c (Int.toNat f) (dflt T_api_Record)).2).1)) then
 inrO (some ((), false))
 else
 bif decide ((0 : Int) ≤ f ∧ f < (List.length a : Int)) then
 bif decide (Int.toNat f < List.length a) then
 bif decide ((0 : Int) ≤ f ∧ f < (List.length c : Int)) then
 bif decide (Int.toNat f < List.length c) then
 bif !(ByteArray.toList (strOfNums ((((List.getD a (Int.toNat f) (dflt T_api_Record)).2).2).1)) == ByteArray.toList (strOfNums ((((List.getD c (Int.toNat f) (dflt T_api_Record)).2).2).1))) then
 inrO (some ((), false))
 else
 bif decide ((0 : Int) ≤ f ∧ f < (List.length a : Int)) then
 bif decide (Int.toNat f < List.length a) then
 bif decide ((0 : Int) ≤ f ∧ f < (List.length c : Int)) then
 bif decide (Int.toNat f < List.length c) then
 bif ((((((List.getD a (Int.toNat f) (dflt T_api_Record)).2).2).2).1) != (((((List.getD c (Int.toNat f) (dflt T_api_Record)).2).2).2).1)) then
 inrO (some ((), false))
 else
 bif decide ((0 : Int) ≤ f ∧ f < (List.length a : Int)) then
 bif decide (Int.toNat f < List.length a) then
 bif decide ((0 : Int) ≤ f ∧ f < (List.length c : Int)) then
 bif decide (Int.toNat f < List.length c) then
 bif ((((((List.getD a (Int.toNat f) (dflt T_api_Record)).2).2).2).2) != (((((List.getD c (Int.toNat f) (dflt T_api_Record)).2).2).2).2)) then
 inrO (some ((), false))
 else
 some (.inl ((IntKind.wrap .i64 (f + (1 : Int)), ()), ()))
 else none
 else none
 else none
 else none
 else none
 else none
 else none
 else none
 else none
 else none
 else none
 else none
 else none
 else none
 else none
 else none
 else none
 else none
 else none
 else none
 else
 inrO (some ((), true)))
 (((0 : Int), ()), ())
def e25 (fu : Nat) : Ent := ⟨25, (.cons (.hole (.sl .any T_api_Record)) (.cons (.hole (.sl .any T_api_Record)) .nil)), .nil, (.hole .bool), p25 fu⟩
theorem g25 (fu : Nat) : (e25 fu).Good Try.prog := good_fx orders Try.func25 fu [] [(6, ⟨[5], (.cons (.hole (.int .i64)) .nil), [], .nil, [0, 1], []⟩)] rs25 82 (l := []) trivial
def rs26 : List RVx := [(.tmp 4)]
def p26 (fu : Nat) : (List (D_api_Producer)) × ((List (D_api_Producer)) × (Unit)) → Option ((Unit) × (Bool)) := fun ⟨a, c, _⟩ =>
bif ((List.length a : Int) != (List.length c : Int)) then
 some ((), false)
else
 loopO (S := ((Int) × (Unit)) × (Unit)) fu (fun ⟨⟨f, _⟩, _⟩ =>
 bif decide (f < (List.length a : Int)) then
 bif decide ((0 : Int) ≤ f ∧ f < (List.length a : Int)) then
 bif decide (Int.toNat f < List.length a) then
 bif decide ((0 : Int) ≤ f ∧ f < (List.length c : Int)) then
 bif decide (Int.toNat f < List.length c) then
 bif !(((List.getD a (Int.toNat f) (dflt T_api_Producer)).1) == ((List.getD c (Int.toNat f) (dflt T_api_Producer)).1) && ((((List.getD a (Int.toNat f) (dflt T_api_Producer)).2).1) == (((List.getD c (Int.toNat f) (dflt T_api_Producer)).2).1) && (((((List.getD a (Int.toNat f) (dflt T_api_Producer)).2).2).1) == ((((List.getD c (Int.toNat f) (dflt T_api_Producer)).2).2).1) && (((((List.getD a (Int.toNat f) (dflt T_api_Producer)).2).2).2) == ((((List.getD c (Int.toNat f) (dflt T_api_Producer)).2).2).2) && true)))) then
 inrO (some ((), false))
 else
 some (.inl ((IntKind.wrap .i64 (f + (1 : Int)), ()), ()))
 else none
 else none
 else none
 else none
 else
 inrO (some ((), true)))
 (((0 : Int), ()), ())
def e26 (fu : Nat) : Ent := ⟨26, (.cons (.hole (.sl .any T_api_Producer)) (.cons (.hole (.sl .any T_api_Producer)) .nil)), .nil, (.hole .bool), p26 fu⟩
theorem g26 (fu : Nat) : (e26 fu).Good Try.prog := good_fx orders Try.func26 fu [] [(6, ⟨[5], (.cons (.hole (.int .i64)) .nil), [], .nil, [0, 1], []⟩)] rs26 26 (l := []) trivial
def rs27 : List RVx := [(.tmp 4)]
def p27 (fu : Nat) : (List (D_runtime_errorAddressString)) × ((List (D_runtime_errorAddressString)) × (Unit)) → Option ((Unit) × (Bool)) := fun ⟨a, c, _⟩ =>
bif ((List.length a : Int) != (List.length c : Int)) then
 some ((), false)
else
 loopO (S := ((Int) × (Unit)) × (Unit)) fu (fun ⟨⟨f, _⟩, _⟩ =>
 bif decide (f < (List.length a : Int)) then
 bif decide ((0 : Int) ≤ f ∧ f < (List.length a : Int)) then
 bif decide (Int.toNat f < List.length a) then
 bif decide ((0 : Int) ≤ f ∧ f < (List.length c : Int)) then
 bif decide (Int.toNat f < List.length c) then
 bif !(((List.getD a (Int.toNat f) (dflt T_runtime_errorAddressString)).1) == ((List.getD c (Int.toNat f) (dflt T_runtime_errorAddressString)).1) && (((List.getD a (Int.toNat f) (dflt T_runtime_errorAddressString)).2) == ((List.getD c (Int.toNat f) (dflt T_runtime_errorAddressString)).2) && true)) then
 inrO (some ((), false))
 else
 some (.inl ((IntKind.wrap .i64 (f + (1 : Int)), ()), ()))
 else none
 else none
 else none
 else none
 else
 inrO (some ((), true)))
 (((0 : Int), ()), ())
def e27 (fu : Nat) : Ent := ⟨27, (.cons (.hole (.sl .any T_runtime_errorAddressString)) (.cons (.hole (.sl .any T_runtime_errorAddressString)) .nil)), .nil, (.hole .bool), p27 fu⟩
theorem g27 (fu : Nat) : (e27 fu).Good Try.prog := good_fx orders Try.func27 fu [] [(6, ⟨[5], (.cons (.hole (.int .i64)) .nil), [], .nil, [0, 1], []⟩)] rs27 26 (l := []) trivial
def rs12 : List RVx := [(.tmp 4)]
def p12 (fu : Nat) : (Z0) × ((Z0) × (Unit)) → Option ((Unit) × (Bool)) := fun ⟨⟨a, c, f, h, i, j, k, _⟩, ⟨l, m, n, o, q, s, t, _⟩, _⟩ =>
Option.bind (p25 fu (i, q, ())) fun ⟨_, u⟩ =>
Option.bind (p26 fu (j, s, ())) fun ⟨_, w⟩ =>
Option.bind (p27 fu (k, t, ())) fun ⟨_, x⟩ =>
bif u then
 bif w then
 bif x then
 bif (a == l && (c == m && true)) then
 bif (f == n) then
 some ((), (h == o))
 else
 some ((), false)
 else
 some ((), false)
 else
 some ((), false)
 else
 some ((), false)
else
 some ((), false)
def e12 (fu : Nat) : Ent := ⟨12, (.cons Y3 (.cons Y3 .nil)), .nil, (.hole .bool), p12 fu⟩
theorem g12 (fu : Nat) : (e12 fu).Good Try.prog := good_fx orders Try.func12 fu [(7, (.ent (e25 fu))), (13, (.ent (e26 fu))), (19, (.ent (e27 fu)))] [] rs12 51 (l := [e25 fu, e26 fu, e27 fu]) ⟨g25 fu, g26 fu, g27 fu, trivial⟩
def rs4 : List RVx := [(.tmp 4)]
def p4 (fu : Nat) : (Z0) × ((ByteArray) × (Unit)) → Option ((Unit) × (Bool)) := fun ⟨⟨a, c, f, h, i, j, k, _⟩, l, _⟩ =>
Option.bind (p9 fu ()) fun ⟨_, m⟩ =>
orK (E := ((ByteArray) × (Unit)) × (Unit))
 (Option.bind (p14 fu ((a, c, f, h, i, j, k, ()), ())) fun ⟨_, n⟩ =>
 bif decide (List.length n = List.length n) then
 some (.inl ((strOfNums n, ()), ()))
 else none)
 fun ⟨⟨o, _⟩, _⟩ =>
Option.bind (p10 fu ((a, c, f, h, i, j, k, ()), l, ())) fun ⟨_, ⟨⟨q, s, t, u, w, x, y, _⟩, ⟨z, a0, c0, f0, h0, i0, j0, _⟩, k0, _⟩⟩ =>
Option.bind (p15 fu ((a, c, f, h, i, j, k, ()), l, ())) fun ⟨_, ⟨⟨l0, m0, n0, o0, q0, s0, t0, _⟩, ⟨u0, w0, x0, y0, z0, a1, c1, _⟩, f1, _⟩⟩ =>
bif decide (List.length w = List.length w) then
 bif decide (List.length x = List.length x) then
 bif decide (List.length y = List.length y) then
 bif decide (List.length q0 = List.length q0) then
 bif decide (List.length s0 = List.length s0) then
 bif decide (List.length t0 = List.length t0) then
 Option.bind (p12 fu ((q, s, t, u, w, x, y, ()), (l0, m0, n0, o0, q0, s0, t0, ()), ())) fun ⟨_, h1⟩ =>
 orK (E := ((Bool) × (Unit)) × ((Z0) × (Unit)))
 (bif decide (List.length h0 = List.length h0) then
 bif decide (List.length i0 = List.length i0) then
 bif decide (List.length j0 = List.length j0) then
 bif decide (List.length z0 = List.length z0) then
 bif decide (List.length a1 = List.length a1) then
 bif decide (List.length c1 = List.length c1) then
 Option.bind (p12 fu ((z, a0, c0, f0, h0, i0, j0, ()), (u0, w0, x0, y0, z0, a1, c1, ()), ())) fun ⟨_, i1⟩ =>
 bif decide (List.length w = List.length w) then
 bif decide (List.length x = List.length x) then
 bif decide (List.length y = List.length y) then
 some (.inl ((i1, ()), ((q, s, t, u, w, x, y, ()), ())))
 else none
 else none
 else none
 else none
 else none
 else none
 else none
 else none
 else none)
 fun ⟨⟨j1, _⟩, ⟨⟨_, _, _, _, k1, _, _, _⟩, _⟩⟩ =>
 loopO (S := ((Int) × (Unit)) × (Unit)) fu (fun ⟨⟨l1, _⟩, _⟩ =>
 bif decide (l1 < (List.length k1 : Int)) then
 loopO (S := ((Int) × (Unit)) × (Unit)) fu (fun ⟨⟨m1, _⟩, _⟩ =>
 bif decide ((0 : Int) ≤ l1 ∧ l1 < (List.length k1 : Int)) then
 bif decide (Int.toNat l1 < List.length k1) then
 bif decide (m1 < (List.length ((((List.getD k1 (Int.toNat l1) (dflt T_api_Record)).2).2).1) : Int)) then
 bif decide ((0 : Int) ≤ l1 ∧ l1 < (List.length k1 : Int)) then
 bif decide (Int.toNat l1 < List.length k1) then
 bif decide ((0 : Int) ≤ m1 ∧ m1 < (List.length ((((List.getD k1 (Int.toNat l1) (dflt T_api_Record)).2).2).1) : Int)) then
 bif decide (Int.toNat m1 < List.length ((((List.getD k1 (Int.toNat l1) (dflt T_api_Record)).2).2).1)) then
 bif decide ((0 : Int) ≤ m1 ∧ m1 < (List.length ((((List.getD k1 (Int.toNat l1) (dflt T_api_Record)).2).2).1) : Int)) then
 some (.inl ((IntKind.wrap .i64 (m1 + (1 : Int)), ()), ()))
 else none
 else none
 else none
 else none
 else none
 else
 inrO (some (.inl ((IntKind.wrap .i64 (l1 + (1 : Int)), ()), ())))
 else none
 else none)
 (((0 : Int), ()), ())
 else
 inrO (bif m then
 bif h1 then
 bif j1 then
 bif (k0 == f1) then
 Option.bind (p14 fu ((a, c, f, h, i, j, k, ()), ())) fun ⟨_, n1⟩ =>
 bif decide (List.length n1 = List.length n1) then
 some ((), ByteArray.toList (strOfNums n1) == ByteArray.toList o)
 else none
 else
 some ((), false)
 else
 some ((), false)
 else
 some ((), false)
 else
 some ((), false)))
 (((0 : Int), ()), ())
 else none
 else none
 else none
 else none
 else none
else none
def e4 (fu : Nat) : Ent := ⟨4, (.cons Y3 (.cons (.hole .str) .nil)), .nil, (.hole .bool), p4 fu⟩
theorem g4 (fu : Nat) : (e4 fu).Good Try.prog := good_fz orders Try.func4 fu [(2, (.ent (e9 fu))), (5, (.ent (e14 fu))), (10, (.ent (e10 fu))), (22, (.ent (e15 fu))), (34, (.ent (e12 fu))), (38, (.ent (e12 fu))), (88, (.ent (e14 fu)))] [(2, ⟨[6], (.cons (.hole .str) .nil), [], .nil, [1, 2, 5], [0]⟩), (6, ⟨[14], (.cons (.hole .bool) .nil), [(176, 30, 7)], (.cons Y7 .nil), [2, 5, 6, 7, 9, 12, 13], [0]⟩), (9, ⟨[15], (.cons (.hole (.int .i64)) .nil), [], .nil, [2, 5, 6, 7, 9, 12, 13, 14], [0, 176]⟩), (14, ⟨[16], (.cons (.hole (.int .i64)) .nil), [], .nil, [2, 5, 6, 7, 9, 12, 13, 14, 15], [0, 176]⟩)] [(2, .zone)] rs4 89 (l := [e9 fu, e14 fu, e10 fu, e15 fu, e12 fu, e12 fu, e14 fu]) ⟨g9 fu, g14 fu, g10 fu, g15 fu, g12 fu, g12 fu, g14 fu, trivial⟩ (ls := []) trivial
end Go.Proofs.Ytmjmhobeiamgiaa
