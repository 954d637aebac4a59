/-
  The functions, typed.
-/
import Derived.Test.YtlmnhbobgfpanaaNsE
import Derived.Test.YtlmnhbobgfpanaaSpR
import Derived.Test.YtlmnhbobgfpanaaDaN
import Derived.Test.YtlmnhbobgfpanaaRows
namespace Go.Proofs.Ytlmnhbobgfpanaa
set_option maxRecDepth 1000000
open Go.RowKit
abbrev D_api_Range := (ByteArray) × (ByteArray)
abbrev T_api_Record : Tp := (.pair (.int .u64) (.pair .str (.pair (.sl .any (.int .u8)) (.pair (.int .u64) (.int .u64)))))
abbrev D_api_Record := (Int) × ((ByteArray) × ((List (Int)) × ((Int) × (Int))))
abbrev T_api_Record_n : Tp := (.pair (.int .u64) (.pair .str (.pair (.sl .new (.int .u8)) (.pair (.int .u64) (.int .u64)))))
theorem orders : Try.prog.follows .mixedOrders = true := by kernel_rfl
abbrev Y0 : Sh := (.agg 5 (.cons (.hole (.int .u64)) (.cons (.hole .str) (.cons (.hole (.sl .any (.int .u8))) (.cons (.hole (.int .u64)) (.cons (.hole (.int .u64)) .nil))))))
abbrev Y1 : Sh := (.agg 5 (.cons (.hole (.int .u64)) (.cons (.hole .str) (.cons (.hole (.sl .new (.int .u8))) (.cons (.hole (.int .u64)) (.cons (.hole (.int .u64)) .nil))))))
abbrev Y2 : Sh := (.agg 5 (.cons (.hole (.int .u64)) (.cons (.hole .str) (.cons (.own (.own (some [.int .u8])) 5 (.int .u8)) (.cons (.hole (.int .u64)) (.cons (.hole (.int .u64)) .nil))))))
abbrev Y3 : Sh := (.tup 3 (.cons (.own (.own (some [.int .u64, .str, .sl, .int .u64, .int .u64])) 27 T_api_Record_n) (.cons (.hole (.int .u64)) (.cons (.hole (.int .i64)) .nil))))
abbrev Y4 : Sh := (.tup 2 (.cons (.own (.own (some [.int .u64, .str, .sl, .int .u64, .int .u64])) 27 T_api_Record_n) (.cons (.own (.own (some [.int .u64])) 24 (.int .u64)) .nil)))
abbrev Y5 : Sh := (.agg 5 (.cons (.hole (.int .u64)) (.cons (.hole .str) (.cons (.own (.own none) 5 (.int .u8)) (.cons (.hole (.int .u64)) (.cons (.hole (.int .u64)) .nil))))))
abbrev Y6 : Sh := (.box 63 3 (.cons (.hole (.sl .any T_api_Record)) (.cons (.own (.own (some [.int .u64])) 24 (.int .u64)) (.cons (.mown false (.int .u64) (.sl .any (.int .u64))) .nil))))
abbrev Y7 : Sh := (.agg 3 (.cons (.hole (.sl .any T_api_Record)) (.cons (.own (.own (some [.int .u64])) 24 (.int .u64)) (.cons (.mown false (.int .u64) (.sl .any (.int .u64))) .nil))))
abbrev Y8 : Sh := (.tup 4 (.cons (.own (.own (some [.int .u64, .str, .sl, .int .u64, .int .u64])) 27 T_api_Record_n) (.cons (.own (.own (some [.int .u64])) 24 (.int .u64)) (.cons (.own (.own (some [.int .u64])) 24 (.int .u64)) (.cons (.hole (.int .i64)) .nil)))))
def rs22 : List RVx := [(.tmp 2)]
def p22 (_ : Nat) : ((Int) × ((ByteArray) × ((List (Int)) × ((Int) × ((Int) × (Unit)))))) × (Unit) → Option ((Unit) × (Int)) := fun ⟨⟨_, a, c, _, _, _⟩, _⟩ =>
bif decide ((ByteArray.size a : Int) > (32 : Int)) then
 some ((), (131 : Int))
else
 bif decide ((List.length c : Int) > (256 : Int)) then
 some ((), (144 : Int))
 else
 some ((), (0 : Int))
def e22 (fu : Nat) : Ent := ⟨22, (.cons Y0 .nil), .nil, (.hole (.int .i64)), p22 fu⟩
theorem g22 (fu : Nat) : (e22 fu).Good Try.prog := good_fx orders Try.func22 fu [] [] rs22 13 (l := []) trivial
def rs14 : List RVx := [(.tmp 2)]
def p14 (fu : Nat) : (List (D_api_Record)) × (Unit) → Option ((Unit) × (Bool)) := fun ⟨a, _⟩ =>
loopO (S := ((Int) × (Unit)) × (Unit)) fu (fun ⟨⟨c, _⟩, _⟩ =>
 bif decide (c < (List.length a : Int)) then
 bif decide ((0 : Int) ≤ c ∧ c < (List.length a : Int)) then
 bif decide (Int.toNat c < List.length a) then
 bif (((List.getD a (Int.toNat c) (dflt T_api_Record)).1) != (IntKind.wrap .u64 c)) then
 inrO (some ((), false))
 else
 Option.bind (p22 fu (((List.getD a (Int.toNat c) (dflt T_api_Record)).1, ((List.getD a (Int.toNat c) (dflt T_api_Record)).2).1, (((List.getD a (Int.toNat c) (dflt T_api_Record)).2).2).1, ((((List.getD a (Int.toNat c) (dflt T_api_Record)).2).2).2).1, ((((List.getD a (Int.toNat c) (dflt T_api_Record)).2).2).2).2, ()), ())) fun ⟨_, f⟩ =>
 bif (f != (0 : Int)) then
 inrO (some ((), false))
 else
 some (.inl ((IntKind.wrap .i64 (c + (1 : Int)), ()), ()))
 else none
 else none
 else
 inrO (some ((), decide ((List.length a : Int) ≤ (4096 : Int)))))
 (((0 : Int), ()), ())
def e14 (fu : Nat) : Ent := ⟨14, (.cons (.hole (.sl .any T_api_Record)) .nil), .nil, (.hole .bool), p14 fu⟩
theorem g14 (fu : Nat) : (e14 fu).Good Try.prog := good_fx orders Try.func14 fu [(18, (.ent (e22 fu)))] [(3, ⟨[7], (.cons (.hole (.int .i64)) .nil), [], .nil, [0, 5, 6], []⟩)] rs14 26 (l := [e22 fu]) ⟨g22 fu, trivial⟩
def rs36 : List RVx := [(.tmp 2)]
def p36 (_ : Nat) : (Int) × (Unit) → Option ((Unit) × ((List (Int)) × (Unit))) := fun ⟨a, _⟩ =>
bif decide ((0 : Int) ≤ 0 ∧ (0 : Int) ≤ a ∧ (a : Int) ≤ 9223372036854775807 ∧ (1 : Int) * a ≤ 140737488355328) then
 bif decide (0 = List.length (List.replicate 0 (0 : Int) : List (Int))) then
 some ((), ((List.replicate 0 (0 : Int) : List (Int)), ()))
 else none
else none
def e36 (fu : Nat) : Ent := ⟨36, (.cons (.hole (.int .i64)) .nil), .nil, (.box 73 1 (.cons (.own .app 5 (.int .u8)) .nil)), p36 fu⟩
theorem g36 (fu : Nat) : (e36 fu).Good Try.prog := good_fx orders Try.func36 fu [(2, (.ty (.int .u8)))] [] rs36 6 (l := []) trivial
def rs39 : List RVx := [(.tmp 4)]
def p39 (_ : Nat) : ((List (Int)) × (Unit)) × ((List (Int)) × (Unit)) → Option ((((List (Int)) × (Unit)) × ((Unit) × (Unit))) × (List (Int))) := fun ⟨⟨a, _⟩, c, _⟩ =>
bif ((List.length c : Int) == (0 : Int)) then
 bif decide (List.length a = List.length a) then
 some (((a, ()), (), ()), [])
 else none
else
 bif decide (List.length a = List.length a) then
 bif decide (List.length a + List.length c ≤ maxLen ∧ (List.length a + List.length c) * 1 ≤ 140737488355328) then
 bif decide ((0 : Int) ≤ ((List.length (a ++ c)) : Int)) then
 bif decide ((0 : Int) ≤ ((List.length (a ++ c)) : Int)) then
 bif decide ((0 : Int) ≤ ((List.length a) : Int)) then
 bif decide (Int.toNat ((List.length a) : Int) ≤ Int.toNat ((List.length (a ++ c)) : Int) ∧ Int.toNat ((List.length (a ++ c)) : Int) ≤ Int.toNat ((List.length (a ++ c)) : Int) ∧ Int.toNat ((List.length (a ++ c)) : Int) ≤ List.length (a ++ c) ∧ 0 + (List.length (a ++ c)) ≤ List.length (a ++ c)) then
 bif decide (List.length (a ++ c) = List.length (a ++ c)) then
 some ((((a ++ c), ()), (), ()), slice' (a ++ c) (Int.toNat ((List.length a) : Int)) (some (Int.toNat ((List.length (a ++ c)) : Int))))
 else none
 else none
 else none
 else none
 else none
 else none
 else none
def e39 (fu : Nat) : Ent := ⟨39, (.cons (.box 73 1 (.cons (.own .app 5 (.int .u8)) .nil)) (.cons (.hole (.sl .any (.int .u8))) .nil)), (.cons (.agg 1 (.cons (.own .app 5 (.int .u8)) .nil)) (.cons .dead .nil)), (.hole (.sl .new (.int .u8))), p39 fu⟩
theorem g39 (fu : Nat) : (e39 fu).Good Try.prog := good_fx orders Try.func39 fu [(15, (.ty (.int .u8)))] [] rs39 32 (l := []) trivial
def rs38 : List RVx := [(.cell 3 true 5)]
def p38 (fu : Nat) : ((Int) × ((ByteArray) × ((List (Int)) × ((Int) × ((Int) × (Unit)))))) × ((((List (Int)) × (Unit)) × (Unit)) × (Unit)) → Option ((((Unit) × (Unit)) × (((List (Int)) × (Unit)) × ((Unit) × (Unit)))) × ((Int) × ((ByteArray) × ((List (Int)) × ((Int) × ((Int) × (Unit))))))) := fun ⟨⟨a, c, f, h, i, _⟩, ⟨⟨j, _⟩, _⟩, _⟩ =>
bif decide (List.length j = List.length j) then
 Option.bind (p39 fu ((j, ()), f, ())) fun ⟨⟨⟨k, _⟩, _, _⟩, l⟩ =>
 bif decide (List.length k = List.length k) then
 some ((((), ()), (k, ()), (), ()), (a, c, l, h, i, ()))
 else none
else none
def e38 (fu : Nat) : Ent := ⟨38, (.cons Y0 (.cons (.box 66 1 (.cons (.box 73 1 (.cons (.own .app 5 (.int .u8)) .nil)) .nil)) .nil)), (.cons (.agg 1 (.cons (.ptr 1) .nil)) (.cons (.agg 1 (.cons (.own .app 5 (.int .u8)) .nil)) (.cons .dead .nil))), Y1, p38 fu⟩
theorem g38 (fu : Nat) : (e38 fu).Good Try.prog := good_fx orders Try.func38 fu [(5, (.ent (e39 fu)))] [] rs38 10 (l := [e39 fu]) ⟨g39 fu, trivial⟩
def rs37 : List RVx := [(.tmp 4)]
def p37 (fu : Nat) : (List (D_api_Record)) × (((Unit) × ((((List (Int)) × (Unit)) × (Unit)) × (Unit))) × (Unit)) → Option ((((Unit) × (Unit)) × (((List (Int)) × (Unit)) × ((Unit) × (Unit)))) × (List (D_api_Record))) := fun ⟨a, ⟨_, ⟨⟨⟨c, _⟩, _⟩, _⟩⟩, _⟩ =>
bif ((List.length a : Int) == (0 : Int)) then
 bif decide (List.length c = List.length c) then
 some ((((), ()), (c, ()), (), ()), [])
 else none
else
 bif decide ((0 : Int) ≤ (List.length a : Int) ∧ ((List.length a : Int) : Int) ≤ (List.length a : Int) ∧ ((List.length a : Int) : Int) ≤ 9223372036854775807 ∧ (64 : Int) * (List.length a : Int) ≤ 140737488355328) then
 bif decide (Int.toNat (List.length a : Int) = List.length (List.replicate (Int.toNat (List.length a : Int)) ((0 : Int), (⟨#[]⟩ : ByteArray), [], (0 : Int), (0 : Int)) : List (D_api_Record))) then
 bif decide (List.length c = List.length c) then
 loopO (S := ((List (D_api_Record)) × ((Int) × (Unit))) × (((Unit) × (Unit)) × (((List (Int)) × (Unit)) × (Unit)))) fu (fun ⟨⟨f, h, _⟩, ⟨⟨_, _⟩, ⟨i, _⟩, _⟩⟩ =>
 bif decide (h < (List.length a : Int)) then
 bif decide ((0 : Int) ≤ h ∧ h < (List.length a : Int)) then
 bif decide (Int.toNat h < List.length a) then
 bif decide (List.length i = List.length i) then
 Option.bind (p38 fu (((List.getD a (Int.toNat h) (dflt T_api_Record)).1, ((List.getD a (Int.toNat h) (dflt T_api_Record)).2).1, (((List.getD a (Int.toNat h) (dflt T_api_Record)).2).2).1, ((((List.getD a (Int.toNat h) (dflt T_api_Record)).2).2).2).1, ((((List.getD a (Int.toNat h) (dflt T_api_Record)).2).2).2).2, ()), ((i, ()), ()), ())) fun ⟨⟨⟨_, _⟩, ⟨j, _⟩, _, _⟩, ⟨k, l, m, n, o, _⟩⟩ =>
 bif decide ((0 : Int) ≤ h ∧ h < (List.length f : Int)) then
 bif decide (Int.toNat h < List.length f) then
 bif decide (List.length f = List.length (List.set f (Int.toNat h) (k, l, m, n, o))) then
 bif decide (List.length j = List.length j) then
 some (.inl (((List.set f (Int.toNat h) (k, l, m, n, o)), IntKind.wrap .i64 (h + (1 : Int)), ()), (((), ()), (j, ()), ())))
 else none
 else none
 else none
 else none
 else none
 else none
 else none
 else
 inrO (bif decide (List.length i = List.length i) then
 bif decide (List.length f = List.length f) then
 some ((((), ()), (i, ()), (), ()), f)
 else none
 else none))
 (((List.replicate (Int.toNat (List.length a : Int)) ((0 : Int), (⟨#[]⟩ : ByteArray), [], (0 : Int), (0 : Int)) : List (D_api_Record)), (0 : Int), ()), (((), ()), (c, ()), ()))
 else none
 else none
 else none
def e37 (fu : Nat) : Ent := ⟨37, (.cons (.hole (.sl .any T_api_Record)) (.cons (.clo 38 0 .nil 1 (.cons (.box 66 1 (.cons (.box 73 1 (.cons (.own .app 5 (.int .u8)) .nil)) .nil)) .nil)) .nil)), (.cons (.agg 1 (.cons (.ptr 1) .nil)) (.cons (.agg 1 (.cons (.own .app 5 (.int .u8)) .nil)) (.cons .dead .nil))), (.own (.own (some [.int .u64, .str, .sl, .int .u64, .int .u64])) 27 T_api_Record_n), p37 fu⟩
theorem g37 (fu : Nat) : (e37 fu).Good Try.prog := good_fx orders Try.func37 fu [(7, (.ty T_api_Record_n)), (23, (.ent (e38 fu)))] [(7, ⟨[5, 16], (.cons (.own (.own (some [.int .u64, .str, .sl, .int .u64, .int .u64])) 27 T_api_Record_n) (.cons (.hole (.int .i64)) .nil)), [(0, 66, 1), (1, 73, 1)], (.cons (.agg 1 (.cons (.ptr 1) .nil)) (.cons (.agg 1 (.cons (.own .app 5 (.int .u8)) .nil)) .nil)), [1, 14, 15], [2]⟩)] rs37 29 (l := [e38 fu]) ⟨g38 fu, trivial⟩
def rs24 : List RVx := [(.tmp 2)]
def p24 (fu : Nat) : (List (D_api_Record)) × (Unit) → Option ((Unit) × (List (D_api_Record))) := fun ⟨a, _⟩ =>
loopO (S := ((Int) × ((Int) × (Unit))) × (Unit)) fu (fun ⟨⟨c, f, _⟩, _⟩ =>
 bif decide (f < (List.length a : Int)) then
 bif decide ((0 : Int) ≤ f ∧ f < (List.length a : Int)) then
 bif decide (Int.toNat f < List.length a) then
 some (.inl ((IntKind.wrap .i64 (c + (List.length ((((List.getD a (Int.toNat f) (dflt T_api_Record)).2).2).1) : Int)), IntKind.wrap .i64 (f + (1 : Int)), ()), ()))
 else none
 else none
 else
 inrO (Option.bind (p36 fu (c, ())) fun ⟨_, ⟨h, _⟩⟩ =>
 bif decide (List.length h = List.length h) then
 Option.bind (p37 fu (a, ((), (((h, ()), ()), ())), ())) fun ⟨⟨⟨_, _⟩, ⟨_, _⟩, _, _⟩, i⟩ =>
 bif decide (List.length i = List.length i) then
 some ((), i)
 else none
 else none))
 (((0 : Int), (0 : Int), ()), ())
def e24 (fu : Nat) : Ent := ⟨24, (.cons (.hole (.sl .any T_api_Record)) .nil), .nil, (.own (.own (some [.int .u64, .str, .sl, .int .u64, .int .u64])) 27 T_api_Record_n), p24 fu⟩
theorem g24 (fu : Nat) : (e24 fu).Good Try.prog := good_fx orders Try.func24 fu [(20, (.ent (e36 fu))), (25, (.ent (e37 fu)))] [(4, ⟨[3, 8], (.cons (.hole (.int .i64)) (.cons (.hole (.int .i64)) .nil)), [], .nil, [0, 7], []⟩)] rs24 25 (l := [e36 fu, e37 fu]) ⟨g36 fu, g37 fu, trivial⟩
def rs43 : List RVx := [(.tmp 2)]
def p43 (_ : Nat) : (List (Int)) × (Unit) → Option ((Unit) × (List (Int))) := fun ⟨a, _⟩ =>
bif ((List.length a : Int) == (0 : Int)) then
 some ((), [])
else
 bif decide ((0 : Int) ≤ (List.length a : Int) ∧ ((List.length a : Int) : Int) ≤ (List.length a : Int) ∧ ((List.length a : Int) : Int) ≤ 9223372036854775807 ∧ (1 : Int) * (List.length a : Int) ≤ 140737488355328) then
 bif decide (Int.toNat (List.length a : Int) = List.length (List.replicate (Int.toNat (List.length a : Int)) (0 : Int) : List (Int))) then
 bif decide (Int.toNat (List.length a : Int) = List.length (copyL (List.replicate (Int.toNat (List.length a : Int)) (0 : Int) : List (Int)) 0 (Int.toNat (List.length a : Int)) a)) then
 some ((), (copyL (List.replicate (Int.toNat (List.length a : Int)) (0 : Int) : List (Int)) 0 (Int.toNat (List.length a : Int)) a))
 else none
 else none
 else none
def e43 (fu : Nat) : Ent := ⟨43, (.cons (.hole (.sl .any (.int .u8))) .nil), .nil, (.own (.own (some [.int .u8])) 5 (.int .u8)), p43 fu⟩
theorem g43 (fu : Nat) : (e43 fu).Good Try.prog := good_fx orders Try.func43 fu [(7, (.ty (.int .u8)))] [] rs43 14 (l := []) trivial
def rs35 : List RVx := [(.cell 2 true 5)]
def p35 (fu : Nat) : ((Int) × ((ByteArray) × ((List (Int)) × ((Int) × ((Int) × (Unit)))))) × (Unit) → Option ((Unit) × ((Int) × ((ByteArray) × ((List (Int)) × ((Int) × ((Int) × (Unit))))))) := fun ⟨⟨a, c, f, h, i, _⟩, _⟩ =>
Option.bind (p43 fu (f, ())) fun ⟨_, j⟩ =>
bif decide (List.length j = List.length j) then
 some ((), (a, c, j, h, i, ()))
else none
def e35 (fu : Nat) : Ent := ⟨35, (.cons Y0 .nil), .nil, Y2, p35 fu⟩
theorem g35 (fu : Nat) : (e35 fu).Good Try.prog := good_fx orders Try.func35 fu [(4, (.ent (e43 fu)))] [] rs35 8 (l := [e43 fu]) ⟨g43 fu, trivial⟩
def rs23 : List RVx := [(.tmp 4)]
def p23 (fu : Nat) : (List (D_api_Record)) × (((Int) × ((ByteArray) × ((List (Int)) × ((Int) × ((Int) × (Unit)))))) × (Unit)) → Option (((Unit) × (Unit)) × (List (D_api_Record))) := fun ⟨a, ⟨c, f, h, i, j, _⟩, _⟩ =>
Option.bind (p35 fu ((c, f, h, i, j, ()), ())) fun ⟨_, ⟨_, k, l, m, n, _⟩⟩ =>
bif decide (List.length l = List.length l) then
 bif decide (List.length a = List.length a) then
 bif decide (List.length a + List.length ([(IntKind.wrap .u64 ((List.length a) : Int), k, l, m, n)]) ≤ maxLen ∧ (List.length a + List.length ([(IntKind.wrap .u64 ((List.length a) : Int), k, l, m, n)])) * 64 ≤ 140737488355328) then
 bif decide (List.length (a ++ [(IntKind.wrap .u64 ((List.length a) : Int), k, l, m, n)]) = List.length (a ++ [(IntKind.wrap .u64 ((List.length a) : Int), k, l, m, n)])) then
 some (((), ()), (a ++ [(IntKind.wrap .u64 ((List.length a) : Int), k, l, m, n)]))
 else none
 else none
 else none
else none
def e23 (fu : Nat) : Ent := ⟨23, (.cons (.own (.own (some [.int .u64, .str, .sl, .int .u64, .int .u64])) 27 T_api_Record_n) (.cons Y0 .nil)), (.cons .dead .nil), (.own (.own (some [.int .u64, .str, .sl, .int .u64, .int .u64])) 27 T_api_Record_n), p23 fu⟩
theorem g23 (fu : Nat) : (e23 fu).Good Try.prog := good_fx orders Try.func23 fu [(3, (.ent (e35 fu))), (12, (.ty T_api_Record_n)), (13, (.ty T_api_Record_n))] [] rs23 15 (l := [e35 fu]) ⟨g35 fu, trivial⟩
def rs8 : List RVx := [(.tmp 4), (.tmp 5), (.tmp 6)]
def p8 (fu : Nat) : (List (D_api_Record)) × (((Int) × ((ByteArray) × ((List (Int)) × ((Int) × ((Int) × (Unit)))))) × (Unit)) → Option ((Unit) × ((List (D_api_Record)) × ((Int) × ((Int) × (Unit))))) := fun ⟨a, ⟨c, f, h, i, j, _⟩, _⟩ =>
Option.bind (p14 fu (a, ())) fun ⟨_, k⟩ =>
bif !k then
 some ((), ([], (0 : Int), (1 : Int), ()))
else
 Option.bind (p22 fu ((c, f, h, i, j, ()), ())) fun ⟨_, l⟩ =>
 bif (l != (0 : Int)) then
 some ((), ([], (0 : Int), l, ()))
 else
 bif decide ((List.length a : Int) ≥ (4096 : Int)) then
 some ((), ([], (0 : Int), (143 : Int), ()))
 else
 Option.bind (p24 fu (a, ())) fun ⟨_, m⟩ =>
 bif decide (List.length m = List.length m) then
 Option.bind (p23 fu (m, (c, f, h, i, j, ()), ())) fun ⟨⟨_, _⟩, n⟩ =>
 bif decide (List.length n = List.length n) then
 some ((), (n, IntKind.wrap .u64 (List.length a : Int), (0 : Int), ()))
 else none
 else none
def e8 (fu : Nat) : Ent := ⟨8, (.cons (.hole (.sl .any T_api_Record)) (.cons Y0 .nil)), .nil, Y3, p8 fu⟩
theorem g8 (fu : Nat) : (e8 fu).Good Try.prog := good_fx orders Try.func8 fu [(5, (.ent (e14 fu))), (11, (.ent (e22 fu))), (26, (.ent (e24 fu))), (28, (.ent (e23 fu)))] [] rs8 26 (l := [e14 fu, e22 fu, e24 fu, e23 fu]) ⟨g14 fu, g22 fu, g24 fu, g23 fu, trivial⟩
def rs21 : List RVx := [(.tmp 2)]
def p21 (fu : Nat) : (ByteArray) × (Unit) → Option ((Unit) × (Bool)) := fun ⟨a, _⟩ =>
loopO (S := ((Int) × (Unit)) × (Unit)) fu (fun ⟨⟨c, _⟩, _⟩ =>
 bif decide (c < (List.length (numsOf a) : Int)) then
 bif decide ((0 : Int) ≤ c ∧ c < (List.length (numsOf a) : Int)) then
 bif decide (Int.toNat c < List.length (numsOf a)) then
 bif decide ((List.getD (numsOf a) (Int.toNat c) (dflt (.int .u8))) < (97 : Int)) then
 bif decide ((List.getD (numsOf a) (Int.toNat c) (dflt (.int .u8))) < (48 : Int)) then
 bif ((List.getD (numsOf a) (Int.toNat c) (dflt (.int .u8))) != (45 : Int)) then
 bif ((List.getD (numsOf a) (Int.toNat c) (dflt (.int .u8))) != (95 : Int)) then
 bif ((List.getD (numsOf a) (Int.toNat c) (dflt (.int .u8))) != (46 : Int)) then
 inrO (some ((), false))
 else
 some (.inl ((IntKind.wrap .i64 (c + (1 : Int)), ()), ()))
 else
 some (.inl ((IntKind.wrap .i64 (c + (1 : Int)), ()), ()))
 else
 some (.inl ((IntKind.wrap .i64 (c + (1 : Int)), ()), ()))
 else
 bif decide ((List.getD (numsOf a) (Int.toNat c) (dflt (.int .u8))) > (57 : Int)) then
 bif ((List.getD (numsOf a) (Int.toNat c) (dflt (.int .u8))) != (45 : Int)) then
 bif ((List.getD (numsOf a) (Int.toNat c) (dflt (.int .u8))) != (95 : Int)) then
 bif ((List.getD (numsOf a) (Int.toNat c) (dflt (.int .u8))) != (46 : Int)) then
 inrO (some ((), false))
 else
 some (.inl ((IntKind.wrap .i64 (c + (1 : Int)), ()), ()))
 else
 some (.inl ((IntKind.wrap .i64 (c + (1 : Int)), ()), ()))
 else
 some (.inl ((IntKind.wrap .i64 (c + (1 : Int)), ()), ()))
 else
 some (.inl ((IntKind.wrap .i64 (c + (1 : Int)), ()), ()))
 else
 bif decide ((List.getD (numsOf a) (Int.toNat c) (dflt (.int .u8))) > (122 : Int)) then
 bif decide ((List.getD (numsOf a) (Int.toNat c) (dflt (.int .u8))) < (48 : Int)) then
 bif ((List.getD (numsOf a) (Int.toNat c) (dflt (.int .u8))) != (45 : Int)) then
 bif ((List.getD (numsOf a) (Int.toNat c) (dflt (.int .u8))) != (95 : Int)) then
 bif ((List.getD (numsOf a) (Int.toNat c) (dflt (.int .u8))) != (46 : Int)) then
 inrO (some ((), false))
 else
 some (.inl ((IntKind.wrap .i64 (c + (1 : Int)), ()), ()))
 else
 some (.inl ((IntKind.wrap .i64 (c + (1 : Int)), ()), ()))
 else
 some (.inl ((IntKind.wrap .i64 (c + (1 : Int)), ()), ()))
 else
 bif decide ((List.getD (numsOf a) (Int.toNat c) (dflt (.int .u8))) > (57 : Int)) then
 bif ((List.getD (numsOf a) (Int.toNat c) (dflt (.int .u8))) != (45 : Int)) then
 bif ((List.getD (numsOf a) (Int.toNat c) (dflt (.int .u8))) != (95 : Int)) then
 bif ((List.getD (numsOf a) (Int.toNat c) (dflt (.int .u8))) != (46 : Int)) then
 inrO (some ((), false))
 else
 some (.inl ((IntKind.wrap .i64 (c + (1 : Int)), ()), ()))
 else
 some (.inl ((IntKind.wrap .i64 (c + (1 : Int)), ()), ()))
 else
 some (.inl ((IntKind.wrap .i64 (c + (1 : Int)), ()), ()))
 else
 some (.inl ((IntKind.wrap .i64 (c + (1 : Int)), ()), ()))
 else
 some (.inl ((IntKind.wrap .i64 (c + (1 : Int)), ()), ()))
 else none
 else none
 else
 inrO (bif decide ((ByteArray.size a : Int) ≥ (1 : Int)) then
 some ((), decide ((ByteArray.size a : Int) ≤ (32 : Int)))
 else
 some ((), false)))
 (((0 : Int), ()), ())
def e21 (fu : Nat) : Ent := ⟨21, (.cons (.hole .str) .nil), .nil, (.hole .bool), p21 fu⟩
theorem g21 (fu : Nat) : (e21 fu).Good Try.prog := good_fx orders Try.func21 fu [] [(3, ⟨[8], (.cons (.hole (.int .i64)) .nil), [], .nil, [0, 6, 7], []⟩)] rs21 47 (l := []) trivial
def rs5 : List RVx := [(.tmp 0)]
def p5 (fu : Nat) : Unit → Option ((Unit) × (Bool)) := fun _ =>
Option.bind (p8 fu ([], ((0 : Int), (⟨#[107]⟩ : ByteArray), ([] : List Int), (0 : Int), (0 : Int), ()), ())) fun ⟨_, ⟨a, c, f, _⟩⟩ =>
bif (f == (0 : Int)) then
 bif (c == (0 : Int)) then
 bif (((List.length a) : Int) == (1 : Int)) then
 bif decide ((0 : Int) ≤ 0 ∧ 0 < (List.length a : Int)) then
 bif decide (0 < List.length a) then
 bif ByteArray.toList (((List.getD a 0 (dflt T_api_Record)).2).1) == ByteArray.toList (⟨#[107]⟩ : ByteArray) then
 Option.bind (p21 fu ((⟨#[97, 45, 49]⟩ : ByteArray), ())) fun ⟨_, h⟩ =>
 some ((), h)
 else
 some ((), false)
 else none
 else none
 else
 some ((), false)
 else
 some ((), false)
else
 some ((), false)
def e5 (fu : Nat) : Ent := ⟨5, .nil, .nil, (.hole .bool), p5 fu⟩
theorem g5 (fu : Nat) : (e5 fu).Good Try.prog := good_fx orders Try.func5 fu [(2, (.ent (e8 fu))), (29, (.ent (e21 fu)))] [] rs5 31 (l := [e8 fu, e21 fu]) ⟨g8 fu, g21 fu, trivial⟩
def rs7 : List RVx := [(.tmp 2)]
def p7 (fu : Nat) : (List (D_api_Record)) × (Unit) → Option ((Unit) × (List (D_api_Record))) := fun ⟨a, _⟩ =>
bif decide ((0 : Int) ≤ 0 ∧ (0 : Int) ≤ IntKind.wrap .i64 ((List.length a : Int) + (1 : Int)) ∧ (IntKind.wrap .i64 ((List.length a : Int) + (1 : Int)) : Int) ≤ 9223372036854775807 ∧ (64 : Int) * (IntKind.wrap .i64 ((List.length a : Int) + (1 : Int))) ≤ 140737488355328) then
 bif decide (0 = List.length (List.replicate 0 ((0 : Int), (⟨#[]⟩ : ByteArray), [], (0 : Int), (0 : Int)) : List (D_api_Record))) then
 loopO (S := ((List (D_api_Record)) × ((Int) × (Unit))) × (Unit)) fu (fun ⟨⟨c, f, _⟩, _⟩ =>
 bif decide (f < (List.length a : Int)) then
 bif decide ((0 : Int) ≤ f ∧ f < (List.length a : Int)) then
 bif decide (Int.toNat f < List.length a) then
 bif decide (0 = List.length ([] : List (Int))) then
 bif decide (List.length ([] : List (Int)) + List.length ((((List.getD a (Int.toNat f) (dflt T_api_Record)).2).2).1) ≤ maxLen ∧ (List.length ([] : List (Int)) + List.length ((((List.getD a (Int.toNat f) (dflt T_api_Record)).2).2).1)) * 1 ≤ 140737488355328) then
 bif decide (List.length (([] : List (Int)) ++ (((List.getD a (Int.toNat f) (dflt T_api_Record)).2).2).1) = List.length (([] : List (Int)) ++ (((List.getD a (Int.toNat f) (dflt T_api_Record)).2).2).1)) then
 bif decide (List.length c = List.length c) then
 bif decide (List.length c + List.length ([((List.getD a (Int.toNat f) (dflt T_api_Record)).1, ((List.getD a (Int.toNat f) (dflt T_api_Record)).2).1, (([] : List (Int)) ++ (((List.getD a (Int.toNat f) (dflt T_api_Record)).2).2).1), ((((List.getD a (Int.toNat f) (dflt T_api_Record)).2).2).2).1, ((((List.getD a (Int.toNat f) (dflt T_api_Record)).2).2).2).2)]) ≤ maxLen ∧ (List.length c + List.length ([((List.getD a (Int.toNat f) (dflt T_api_Record)).1, ((List.getD a (Int.toNat f) (dflt T_api_Record)).2).1, (([] : List (Int)) ++ (((List.getD a (Int.toNat f) (dflt T_api_Record)).2).2).1), ((((List.getD a (Int.toNat f) (dflt T_api_Record)).2).2).2).1, ((((List.getD a (Int.toNat f) (dflt T_api_Record)).2).2).2).2)])) * 64 ≤ 140737488355328) then
 bif decide (List.length (c ++ [((List.getD a (Int.toNat f) (dflt T_api_Record)).1, ((List.getD a (Int.toNat f) (dflt T_api_Record)).2).1, (([] : List (Int)) ++ (((List.getD a (Int.toNat f) (dflt T_api_Record)).2).2).1), ((((List.getD a (Int.toNat f) (dflt T_api_Record)).2).2).2).1, ((((List.getD a (Int.toNat f) (dflt T_api_Record)).2).2).2).2)]) = List.length (c ++ [((List.getD a (Int.toNat f) (dflt T_api_Record)).1, ((List.getD a (Int.toNat f) (dflt T_api_Record)).2).1, (([] : List (Int)) ++ (((List.getD a (Int.toNat f) (dflt T_api_Record)).2).2).1), ((((List.getD a (Int.toNat f) (dflt T_api_Record)).2).2).2).1, ((((List.getD a (Int.toNat f) (dflt T_api_Record)).2).2).2).2)])) then
 some (.inl (((c ++ [((List.getD a (Int.toNat f) (dflt T_api_Record)).1, ((List.getD a (Int.toNat f) (dflt T_api_Record)).2).1, (([] : List (Int)) ++ (((List.getD a (Int.toNat f) (dflt T_api_Record)).2).2).1), ((((List.getD a (Int.toNat f) (dflt T_api_Record)).2).2).2).1, ((((List.getD a (Int.toNat f) (dflt T_api_Record)).2).2).2).2)]), IntKind.wrap .i64 (f + (1 : Int)), ()), ()))
 else none
 else none
 else none
 else none
 else none
 else none
 else none
 else none
 else
 inrO (bif decide (List.length c = List.length c) then
 some ((), c)
 else none))
 (((List.replicate 0 ((0 : Int), (⟨#[]⟩ : ByteArray), [], (0 : Int), (0 : Int)) : List (D_api_Record)), (0 : Int), ()), ())
 else none
else none
def e7 (fu : Nat) : Ent := ⟨7, (.cons (.hole (.sl .any T_api_Record)) .nil), .nil, (.own (.own (some [.int .u64, .str, .sl, .int .u64, .int .u64])) 27 T_api_Record_n), p7 fu⟩
theorem g7 (fu : Nat) : (e7 fu).Good Try.prog := good_fx orders Try.func7 fu [(4, (.ty T_api_Record_n)), (17, (.ty (.int .u8))), (20, (.ty (.int .u8))), (25, (.ty T_api_Record_n)), (26, (.ty T_api_Record_n))] [(4, ⟨[3, 4], (.cons (.own (.own (some [.int .u64, .str, .sl, .int .u64, .int .u64])) 27 T_api_Record_n) (.cons (.hole (.int .i64)) .nil)), [], .nil, [0], []⟩)] rs7 30 (l := []) trivial
def rs40 : List RVx := [(.tmp 2)]
def p40 (_ : Nat) : (ByteArray) × (Unit) → Option ((Unit) × (Bool)) := fun ⟨a, _⟩ =>
some ((), decide ((ByteArray.size a : Int) ≤ (32 : Int)))
def e40 (fu : Nat) : Ent := ⟨40, (.cons (.hole .str) .nil), .nil, (.hole .bool), p40 fu⟩
theorem g40 (fu : Nat) : (e40 fu).Good Try.prog := good_fx orders Try.func40 fu [] [] rs40 6 (l := []) trivial
def rs41 : List RVx := [(.cell 2 true 2)]
def p41 (_ : Nat) : ((ByteArray) × ((ByteArray) × (Unit))) × (Unit) → Option ((Unit) × ((ByteArray) × ((Bool) × (Unit)))) := fun ⟨⟨_, a, _⟩, _⟩ =>
some ((), (a, ByteArray.toList a == ByteArray.toList (⟨#[]⟩ : ByteArray), ()))
def e41 (fu : Nat) : Ent := ⟨41, (.cons (.agg 2 (.cons (.hole .str) (.cons (.hole .str) .nil))) .nil), .nil, (.agg 2 (.cons (.hole .str) (.cons (.hole .bool) .nil))), p41 fu⟩
theorem g41 (fu : Nat) : (e41 fu).Good Try.prog := good_fx orders Try.func41 fu [] [] rs41 9 (l := []) trivial
def rs42 : List RVx := [(.tmp 4)]
def p42 (_ : Nat) : ((ByteArray) × ((Bool) × (Unit))) × ((ByteArray) × (Unit)) → Option ((Unit) × (Bool)) := fun ⟨⟨a, c, _⟩, f, _⟩ =>
bif c then
 some ((), true)
else
 some ((), !(Op.bytesLess (ByteArray.toList a) (ByteArray.toList f) || ByteArray.toList a == ByteArray.toList f))
def e42 (fu : Nat) : Ent := ⟨42, (.cons (.agg 2 (.cons (.hole .str) (.cons (.hole .bool) .nil))) (.cons (.hole .str) .nil)), .nil, (.hole .bool), p42 fu⟩
theorem g42 (fu : Nat) : (e42 fu).Good Try.prog := good_fx orders Try.func42 fu [] [] rs42 13 (l := []) trivial
def rs26 : List RVx := [(.tmp 2)]
def p26 (fu : Nat) : ((ByteArray) × ((ByteArray) × (Unit))) × (Unit) → Option ((Unit) × (Int)) := fun ⟨⟨a, c, _⟩, _⟩ =>
Option.bind (p40 fu (a, ())) fun ⟨_, f⟩ =>
bif !f then
 some ((), (131 : Int))
else
 Option.bind (p40 fu (c, ())) fun ⟨_, h⟩ =>
 bif !h then
 some ((), (131 : Int))
 else
 Option.bind (p41 fu ((a, c, ()), ())) fun ⟨_, ⟨i, j, _⟩⟩ =>
 Option.bind (p42 fu ((i, j, ()), a, ())) fun ⟨_, k⟩ =>
 bif !k then
 some ((), (132 : Int))
 else
 some ((), (0 : Int))
def e26 (fu : Nat) : Ent := ⟨26, (.cons (.agg 2 (.cons (.hole .str) (.cons (.hole .str) .nil))) .nil), .nil, (.hole (.int .i64)), p26 fu⟩
theorem g26 (fu : Nat) : (e26 fu).Good Try.prog := good_fx orders Try.func26 fu [(4, (.ent (e40 fu))), (9, (.ent (e40 fu))), (14, (.ent (e41 fu))), (17, (.ent (e42 fu)))] [] rs26 19 (l := [e40 fu, e40 fu, e41 fu, e42 fu]) ⟨g40 fu, g40 fu, g41 fu, g42 fu, trivial⟩
def rs27 : List RVx := [(.tmp 4)]
def p27 (fu : Nat) : ((ByteArray) × ((ByteArray) × (Unit))) × ((ByteArray) × (Unit)) → Option ((Unit) × (Bool)) := fun ⟨⟨a, c, _⟩, f, _⟩ =>
Option.bind (p26 fu ((a, c, ()), ())) fun ⟨_, h⟩ =>
bif (h == (0 : Int)) then
 Option.bind (p40 fu (f, ())) fun ⟨_, i⟩ =>
 bif i then
 bif !Op.bytesLess (ByteArray.toList f) (ByteArray.toList a) then
 Option.bind (p41 fu ((a, c, ()), ())) fun ⟨_, ⟨j, k, _⟩⟩ =>
 Option.bind (p42 fu ((j, k, ()), f, ())) fun ⟨_, l⟩ =>
 some ((), l)
 else
 some ((), false)
 else
 some ((), false)
else
 some ((), false)
def e27 (fu : Nat) : Ent := ⟨27, (.cons (.agg 2 (.cons (.hole .str) (.cons (.hole .str) .nil))) (.cons (.hole .str) .nil)), .nil, (.hole .bool), p27 fu⟩
theorem g27 (fu : Nat) : (e27 fu).Good Try.prog := good_fx orders Try.func27 fu [(3, (.ent (e26 fu))), (7, (.ent (e40 fu))), (17, (.ent (e41 fu))), (19, (.ent (e42 fu)))] [] rs27 24 (l := [e26 fu, e40 fu, e41 fu, e42 fu]) ⟨g26 fu, g40 fu, g41 fu, g42 fu, trivial⟩
def rs16 : List RVx := [(.tmp 4), (.tmp 5)]
def p16 (fu : Nat) : (List (D_api_Record)) × (((ByteArray) × ((ByteArray) × (Unit))) × (Unit)) → Option ((Unit) × ((List (D_api_Record)) × ((List (Int)) × (Unit)))) := fun ⟨a, ⟨c, f, _⟩, _⟩ =>
Option.bind (p14 fu (a, ())) fun ⟨_, h⟩ =>
bif !h then
 some ((), ([], [], ()))
else
 Option.bind (p26 fu ((c, f, ()), ())) fun ⟨_, i⟩ =>
 bif (i != (0 : Int)) then
 some ((), ([], [], ()))
 else
 loopO (S := ((List (D_api_Record)) × ((List (Int)) × ((Int) × (Unit)))) × (Unit)) fu (fun ⟨⟨j, k, l, _⟩, _⟩ =>
 bif decide (l < (List.length a : Int)) then
 bif decide ((0 : Int) ≤ l ∧ l < (List.length a : Int)) then
 bif decide (Int.toNat l < List.length a) then
 bif decide (List.length k = List.length k) then
 bif decide (List.length k + List.length ([IntKind.wrap .u64 ((List.length j) : Int)]) ≤ maxLen ∧ (List.length k + List.length ([IntKind.wrap .u64 ((List.length j) : Int)])) * 8 ≤ 140737488355328) then
 Option.bind (p27 fu ((c, f, ()), ((List.getD a (Int.toNat l) (dflt T_api_Record)).2).1, ())) fun ⟨_, m⟩ =>
 bif m then
 bif decide (List.length j = List.length j) then
 Option.bind (p23 fu (j, ((List.getD a (Int.toNat l) (dflt T_api_Record)).1, ((List.getD a (Int.toNat l) (dflt T_api_Record)).2).1, (((List.getD a (Int.toNat l) (dflt T_api_Record)).2).2).1, ((((List.getD a (Int.toNat l) (dflt T_api_Record)).2).2).2).1, ((((List.getD a (Int.toNat l) (dflt T_api_Record)).2).2).2).2, ()), ())) fun ⟨⟨_, _⟩, n⟩ =>
 bif decide (List.length n = List.length n) then
 bif decide (List.length (k ++ [IntKind.wrap .u64 ((List.length j) : Int)]) = List.length (k ++ [IntKind.wrap .u64 ((List.length j) : Int)])) then
 some (.inl ((n, (k ++ [IntKind.wrap .u64 ((List.length j) : Int)]), IntKind.wrap .i64 (l + (1 : Int)), ()), ()))
 else none
 else none
 else none
 else
 bif decide (List.length j = List.length j) then
 bif decide (List.length (k ++ [IntKind.wrap .u64 ((List.length j) : Int)]) = List.length (k ++ [IntKind.wrap .u64 ((List.length j) : Int)])) then
 some (.inl ((j, (k ++ [IntKind.wrap .u64 ((List.length j) : Int)]), IntKind.wrap .i64 (l + (1 : Int)), ()), ()))
 else none
 else none
 else none
 else none
 else none
 else none
 else
 inrO (bif decide (List.length k = List.length k) then
 bif decide (List.length k + List.length ([IntKind.wrap .u64 ((List.length j) : Int)]) ≤ maxLen ∧ (List.length k + List.length ([IntKind.wrap .u64 ((List.length j) : Int)])) * 8 ≤ 140737488355328) then
 bif decide (List.length j = List.length j) then
 bif decide (List.length (k ++ [IntKind.wrap .u64 ((List.length j) : Int)]) = List.length (k ++ [IntKind.wrap .u64 ((List.length j) : Int)])) then
 some ((), (j, (k ++ [IntKind.wrap .u64 ((List.length j) : Int)]), ()))
 else none
 else none
 else none
 else none))
 (([], [], (0 : Int), ()), ())
def e16 (fu : Nat) : Ent := ⟨16, (.cons (.hole (.sl .any T_api_Record)) (.cons (.agg 2 (.cons (.hole .str) (.cons (.hole .str) .nil))) .nil)), .nil, Y4, p16 fu⟩
theorem g16 (fu : Nat) : (e16 fu).Good Try.prog := good_fx orders Try.func16 fu [(4, (.ent (e14 fu))), (8, (.ent (e26 fu))), (27, (.ty (.int .u64))), (28, (.ty (.int .u64))), (33, (.ent (e27 fu))), (36, (.ent (e23 fu))), (45, (.ty (.int .u64))), (46, (.ty (.int .u64)))] [(8, ⟨[6, 7, 20], (.cons (.own (.own (some [.int .u64, .str, .sl, .int .u64, .int .u64])) 27 T_api_Record_n) (.cons (.own (.own (some [.int .u64])) 24 (.int .u64)) (.cons (.hole (.int .i64)) .nil))), [], .nil, [3, 18, 19], [0]⟩)] rs16 45 (l := [e14 fu, e26 fu, e27 fu, e23 fu]) ⟨g14 fu, g26 fu, g27 fu, g23 fu, trivial⟩
def rs15 : List RVx := [(.tmp 2)]
def p15 (fu : Nat) : (List (D_api_Record)) × (Unit) → Option ((Unit) × (Bool)) := fun ⟨a, _⟩ =>
bif decide ((List.length a : Int) > (4096 : Int)) then
 some ((), false)
else
 loopO (S := ((Int) × (Unit)) × (Unit)) fu (fun ⟨⟨c, _⟩, _⟩ =>
 bif decide (c < (List.length a : Int)) then
 bif decide ((0 : Int) ≤ c ∧ c < (List.length a : Int)) then
 bif decide (Int.toNat c < List.length a) then
 bif (((List.getD a (Int.toNat c) (dflt T_api_Record)).1) != (IntKind.wrap .u64 c)) then
 inrO (some ((), false))
 else
 bif decide ((0 : Int) ≤ c ∧ c < (List.length a : Int)) then
 bif decide (Int.toNat c < List.length a) then
 bif decide ((ByteArray.size (((List.getD a (Int.toNat c) (dflt T_api_Record)).2).1) : Int) > (32 : Int)) then
 inrO (some ((), false))
 else
 bif decide ((0 : Int) ≤ c ∧ c < (List.length a : Int)) then
 bif decide (Int.toNat c < List.length a) then
 bif decide ((List.length ((((List.getD a (Int.toNat c) (dflt T_api_Record)).2).2).1) : Int) > (256 : Int)) then
 inrO (some ((), false))
 else
 some (.inl ((IntKind.wrap .i64 (c + (1 : Int)), ()), ()))
 else none
 else none
 else none
 else none
 else none
 else none
 else
 inrO (some ((), true)))
 (((0 : Int), ()), ())
def e15 (fu : Nat) : Ent := ⟨15, (.cons (.hole (.sl .any T_api_Record)) .nil), .nil, (.hole .bool), p15 fu⟩
theorem g15 (fu : Nat) : (e15 fu).Good Try.prog := good_fx orders Try.func15 fu [] [(6, ⟨[3], (.cons (.hole (.int .i64)) .nil), [], .nil, [0], []⟩)] rs15 39 (l := []) trivial
def rs28 : List RVx := [(.tmp 2)]
def p28 (_ : Nat) : ((ByteArray) × ((ByteArray) × (Unit))) × (Unit) → Option ((Unit) × (Int)) := fun ⟨⟨a, c, _⟩, _⟩ =>
bif decide ((ByteArray.size a : Int) > (32 : Int)) then
 some ((), (131 : Int))
else
 bif decide ((ByteArray.size c : Int) > (32 : Int)) then
 some ((), (131 : Int))
 else
 bif !(ByteArray.toList c == ByteArray.toList (⟨#[]⟩ : ByteArray)) then
 bif (Op.bytesLess (ByteArray.toList c) (ByteArray.toList a) || ByteArray.toList c == ByteArray.toList a) then
 some ((), (132 : Int))
 else
 some ((), (0 : Int))
 else
 some ((), (0 : Int))
def e28 (fu : Nat) : Ent := ⟨28, (.cons (.agg 2 (.cons (.hole .str) (.cons (.hole .str) .nil))) .nil), .nil, (.hole (.int .i64)), p28 fu⟩
theorem g28 (fu : Nat) : (e28 fu).Good Try.prog := good_fx orders Try.func28 fu [] [] rs28 23 (l := []) trivial
def rs29 : List RVx := [(.tmp 4)]
def p29 (fu : Nat) : ((ByteArray) × ((ByteArray) × (Unit))) × ((ByteArray) × (Unit)) → Option ((Unit) × (Bool)) := fun ⟨⟨a, c, _⟩, f, _⟩ =>
Option.bind (p28 fu ((a, c, ()), ())) fun ⟨_, h⟩ =>
bif (h == (0 : Int)) then
 bif decide ((ByteArray.size f : Int) ≤ (32 : Int)) then
 bif !Op.bytesLess (ByteArray.toList f) (ByteArray.toList a) then
 bif ByteArray.toList c == ByteArray.toList (⟨#[]⟩ : ByteArray) then
 some ((), true)
 else
 some ((), Op.bytesLess (ByteArray.toList f) (ByteArray.toList c))
 else
 some ((), false)
 else
 some ((), false)
else
 some ((), false)
def e29 (fu : Nat) : Ent := ⟨29, (.cons (.agg 2 (.cons (.hole .str) (.cons (.hole .str) .nil))) (.cons (.hole .str) .nil)), .nil, (.hole .bool), p29 fu⟩
theorem g29 (fu : Nat) : (e29 fu).Good Try.prog := good_fx orders Try.func29 fu [(3, (.ent (e28 fu)))] [] rs29 30 (l := [e28 fu]) ⟨g28 fu, trivial⟩
def rs25 : List RVx := [(.cell 4 true 5)]
def p25 (_ : Nat) : ((Int) × ((ByteArray) × ((List (Int)) × ((Int) × ((Int) × (Unit)))))) × ((Int) × (Unit)) → Option ((Unit) × ((Int) × ((ByteArray) × ((List (Int)) × ((Int) × ((Int) × (Unit))))))) := fun ⟨⟨_, a, c, f, h, _⟩, i, _⟩ =>
bif decide (0 = List.length ([] : List (Int))) then
 bif decide (List.length ([] : List (Int)) + List.length c ≤ maxLen ∧ (List.length ([] : List (Int)) + List.length c) * 1 ≤ 140737488355328) then
 bif decide (List.length (([] : List (Int)) ++ c) = List.length (([] : List (Int)) ++ c)) then
 some ((), (IntKind.wrap .u64 i, a, (([] : List (Int)) ++ c), f, h, ()))
 else none
 else none
else none
def e25 (fu : Nat) : Ent := ⟨25, (.cons Y0 (.cons (.hole (.int .i64)) .nil)), .nil, Y5, p25 fu⟩
theorem g25 (fu : Nat) : (e25 fu).Good Try.prog := good_fx orders Try.func25 fu [(6, (.ty (.int .u8))), (9, (.ty (.int .u8)))] [] rs25 14 (l := []) trivial
def rs17 : List RVx := [(.tmp 4), (.tmp 5)]
def p17 (fu : Nat) : (List (D_api_Record)) × (((ByteArray) × ((ByteArray) × (Unit))) × (Unit)) → Option ((Unit) × ((List (D_api_Record)) × ((List (Int)) × (Unit)))) := fun ⟨a, ⟨c, f, _⟩, _⟩ =>
Option.bind (p15 fu (a, ())) fun ⟨_, h⟩ =>
bif !h then
 some ((), ([], [], ()))
else
 Option.bind (p28 fu ((c, f, ()), ())) fun ⟨_, i⟩ =>
 bif (i != (0 : Int)) then
 some ((), ([], [], ()))
 else
 loopO (S := ((List (D_api_Record)) × ((List (Int)) × ((Int) × (Unit)))) × (Unit)) fu (fun ⟨⟨j, k, l, _⟩, _⟩ =>
 bif decide (l < (List.length a : Int)) then
 bif decide (List.length k = List.length k) then
 bif decide (List.length k + List.length ([IntKind.wrap .u64 ((List.length j) : Int)]) ≤ maxLen ∧ (List.length k + List.length ([IntKind.wrap .u64 ((List.length j) : Int)])) * 8 ≤ 140737488355328) then
 bif decide ((0 : Int) ≤ l ∧ l < (List.length a : Int)) then
 bif decide (Int.toNat l < List.length a) then
 Option.bind (p29 fu ((c, f, ()), ((List.getD a (Int.toNat l) (dflt T_api_Record)).2).1, ())) fun ⟨_, m⟩ =>
 bif m then
 bif decide ((0 : Int) ≤ l ∧ l < (List.length a : Int)) then
 bif decide (Int.toNat l < List.length a) then
 Option.bind (p25 fu (((List.getD a (Int.toNat l) (dflt T_api_Record)).1, ((List.getD a (Int.toNat l) (dflt T_api_Record)).2).1, (((List.getD a (Int.toNat l) (dflt T_api_Record)).2).2).1, ((((List.getD a (Int.toNat l) (dflt T_api_Record)).2).2).2).1, ((((List.getD a (Int.toNat l) (dflt T_api_Record)).2).2).2).2, ()), ((List.length j) : Int), ())) fun ⟨_, ⟨n, o, q, s, t, _⟩⟩ =>
 bif decide (List.length q = List.length q) then
 bif decide (List.length j = List.length j) then
 bif decide (List.length j + List.length ([(n, o, q, s, t)]) ≤ maxLen ∧ (List.length j + List.length ([(n, o, q, s, t)])) * 64 ≤ 140737488355328) then
 bif decide (List.length (j ++ [(n, o, q, s, t)]) = List.length (j ++ [(n, o, q, s, t)])) then
 bif decide (List.length (k ++ [IntKind.wrap .u64 ((List.length j) : Int)]) = List.length (k ++ [IntKind.wrap .u64 ((List.length j) : Int)])) then
 some (.inl (((j ++ [(n, o, q, s, t)]), (k ++ [IntKind.wrap .u64 ((List.length j) : Int)]), IntKind.wrap .i64 (l + (1 : Int)), ()), ()))
 else none
 else none
 else none
 else none
 else none
 else none
 else none
 else
 bif decide (List.length j = List.length j) then
 bif decide (List.length (k ++ [IntKind.wrap .u64 ((List.length j) : Int)]) = List.length (k ++ [IntKind.wrap .u64 ((List.length j) : Int)])) then
 some (.inl ((j, (k ++ [IntKind.wrap .u64 ((List.length j) : Int)]), IntKind.wrap .i64 (l + (1 : Int)), ()), ()))
 else none
 else none
 else none
 else none
 else none
 else none
 else
 inrO (bif decide (List.length k = List.length k) then
 bif decide (List.length k + List.length ([IntKind.wrap .u64 ((List.length j) : Int)]) ≤ maxLen ∧ (List.length k + List.length ([IntKind.wrap .u64 ((List.length j) : Int)])) * 8 ≤ 140737488355328) then
 bif decide (List.length j = List.length j) then
 bif decide (List.length (k ++ [IntKind.wrap .u64 ((List.length j) : Int)]) = List.length (k ++ [IntKind.wrap .u64 ((List.length j) : Int)])) then
 some ((), (j, (k ++ [IntKind.wrap .u64 ((List.length j) : Int)]), ()))
 else none
 else none
 else none
 else none))
 (([], [], (0 : Int), ()), ())
def e17 (fu : Nat) : Ent := ⟨17, (.cons (.hole (.sl .any T_api_Record)) (.cons (.agg 2 (.cons (.hole .str) (.cons (.hole .str) .nil))) .nil)), .nil, Y4, p17 fu⟩
theorem g17 (fu : Nat) : (e17 fu).Good Try.prog := good_fx orders Try.func17 fu [(4, (.ent (e15 fu))), (10, (.ent (e28 fu))), (26, (.ty (.int .u64))), (27, (.ty (.int .u64))), (35, (.ent (e29 fu))), (45, (.ent (e25 fu))), (46, (.ty T_api_Record_n)), (47, (.ty T_api_Record_n)), (57, (.ty (.int .u64))), (58, (.ty (.int .u64)))] [(9, ⟨[7, 8, 9], (.cons (.own (.own (some [.int .u64, .str, .sl, .int .u64, .int .u64])) 27 T_api_Record_n) (.cons (.own (.own (some [.int .u64])) 24 (.int .u64)) (.cons (.hole (.int .i64)) .nil))), [], .nil, [0, 3], [0]⟩)] rs17 57 (l := [e15 fu, e28 fu, e29 fu, e25 fu]) ⟨g15 fu, g28 fu, g29 fu, g25 fu, trivial⟩
def rs10 : List RVx := [(.tmp 4)]
def p10 (fu : Nat) : (List (D_api_Record)) × ((List (D_api_Record)) × (Unit)) → Option ((Unit) × (Bool)) := fun ⟨a, c, _⟩ =>
bif ((List.length a : Int) != (List.length c : Int)) then
 some ((), false)
else
 loopO (S := ((Int) × (Unit)) × (Unit)) fu (fun ⟨⟨f, _⟩, _⟩ =>
 bif decide (f < (List.length a : Int)) then
 bif decide ((0 : Int) ≤ f ∧ f < (List.length a : Int)) then
 bif decide (Int.toNat f < List.length a) then
 bif decide ((0 : Int) ≤ f ∧ f < (List.length c : Int)) then
 bif decide (Int.toNat f < List.length c) then
 bif (((List.getD a (Int.toNat f) (dflt T_api_Record)).1) != ((List.getD c (Int.toNat f) (dflt T_api_Record)).1)) then
 inrO (some ((), false))
 else
 bif decide ((0 : Int) ≤ f ∧ f < (List.length a : Int)) then
 bif decide (Int.toNat f < List.length a) then
 bif decide ((0 : Int) ≤ f ∧ f < (List.length c : Int)) then
 bif decide (Int.toNat f < List.length c) then
 bif !(ByteArray.toList (((List.getD a (Int.toNat f) (dflt T_api_Record)).2).1) == ByteArray.toList (((List.getD c (Int.toNat f) (dflt T_api_Record)).2).1)) then
 inrO (some ((), false))
 else
 bif decide ((0 : Int) ≤ f ∧ f < (List.length a : Int)) then
 bif decide (Int.toNat f < List.length a) then
 bif decide ((0 : Int) ≤ f ∧ f < (List.length c : Int)) then
 bif decide (Int.toNat f < List.length c) then
 bif !(ByteArray.toList (strOfNums ((((List.getD a (Int.toNat f) (dflt T_api_Record)).2).2).1)) == ByteArray.toList (strOfNums ((((List.getD c (Int.toNat f) (dflt T_api_Record)).2).2).1))) then
 inrO (some ((), false))
 else
 bif decide ((0 : Int) ≤ f ∧ f < (List.length a : Int)) then
 bif decide (Int.toNat f < List.length a) then
 bif decide ((0 : Int) ≤ f ∧ f < (List.length c : Int)) then
 bif decide (Int.toNat f < List.length c) then
 bif ((((((List.getD a (Int.toNat f) (dflt T_api_Record)).2).2).2).1) != (((((List.getD c (Int.toNat f) (dflt T_api_Record)).2).2).2).1)) then
 inrO (some ((), false))
 else
 bif decide ((0 : Int) ≤ f ∧ f < (List.length a : Int)) then
 bif decide (Int.toNat f < List.length a) then
 bif decide ((0 : Int) ≤ f ∧ f < (List.length c : Int)) then
 bif decide (Int.toNat f < List.length c) then
 bif ((((((List.getD a (Int.toNat f) (dflt T_api_Record)).2).2).2).2) != (((((List.getD c (Int.toNat f) (dflt T_api_Record)).2).2).2).2)) then
 inrO (some ((), false))
 else
 some (.inl ((IntKind.wrap .i64 (f + (1 : Int)), ()), ()))
 else none
 else none
 else none
 else none
 else none
 else none
 else none
 else none
 else none
 else none
 else none
 else none
 else none
 else none
 else none
 else none
 else none
 else none
 else none
 else none
 else
 inrO (some ((), true)))
 (((0 : Int), ()), ())
def e10 (fu : Nat) : Ent := ⟨10, (.cons (.hole (.sl .any T_api_Record)) (.cons (.hole (.sl .any T_api_Record)) .nil)), .nil, (.hole .bool), p10 fu⟩
theorem g10 (fu : Nat) : (e10 fu).Good Try.prog := good_fx orders Try.func10 fu [] [(6, ⟨[5], (.cons (.hole (.int .i64)) .nil), [], .nil, [0, 1], []⟩)] rs10 82 (l := []) trivial
def rs18 : List RVx := [(.tmp 4)]
def p18 (fu : Nat) : (List (Int)) × ((List (Int)) × (Unit)) → Option ((Unit) × (Bool)) := fun ⟨a, c, _⟩ =>
bif ((List.length a : Int) != (List.length c : Int)) then
 some ((), false)
else
 loopO (S := ((Int) × (Unit)) × (Unit)) fu (fun ⟨⟨f, _⟩, _⟩ =>
 bif decide (f < (List.length a : Int)) then
 bif decide ((0 : Int) ≤ f ∧ f < (List.length a : Int)) then
 bif decide (Int.toNat f < List.length a) then
 bif decide ((0 : Int) ≤ f ∧ f < (List.length c : Int)) then
 bif decide (Int.toNat f < List.length c) then
 bif ((List.getD a (Int.toNat f) (dflt (.int .u64))) != (List.getD c (Int.toNat f) (dflt (.int .u64)))) then
 inrO (some ((), false))
 else
 some (.inl ((IntKind.wrap .i64 (f + (1 : Int)), ()), ()))
 else none
 else none
 else none
 else none
 else
 inrO (some ((), true)))
 (((0 : Int), ()), ())
def e18 (fu : Nat) : Ent := ⟨18, (.cons (.hole (.sl .any (.int .u64))) (.cons (.hole (.sl .any (.int .u64))) .nil)), .nil, (.hole .bool), p18 fu⟩
theorem g18 (fu : Nat) : (e18 fu).Good Try.prog := good_fx orders Try.func18 fu [] [(6, ⟨[5], (.cons (.hole (.int .i64)) .nil), [], .nil, [0, 1], []⟩)] rs18 26 (l := []) trivial
def rs31 : List RVx := [(.tmp 2)]
def p31_1 (_ : Nat) : ((List (D_api_Record)) × ((List (Int)) × ((List ((Int) × (List (Int)))) × (Unit)))) × (Unit) → Option ((((List (D_api_Record)) × ((List (Int)) × ((List ((Int) × (List (Int)))) × (Unit)))) × ((Unit) × ((Unit) × (Unit)))) × (Bool)) := fun ⟨⟨a, c, f, _⟩, _⟩ =>
bif decide (List.length c = List.length c) then
 some (((a, c, f, ()), (), (), ()), decide ((List.length a : Int) > (0 : Int)))
else none
def e31_1 (fu : Nat) : Ent := ⟨31, (.cons Y6 .nil), (.cons Y7 (.cons .dead (.cons .dead .nil))), (.hole .bool), p31_1 fu⟩
theorem g31_1 (fu : Nat) : (e31_1 fu).Good Try.prog := good_fx orders Try.func31 fu [] [] rs31 9 (l := []) trivial
def rs32 : List RVx := [(.tmp 4)]
def p32_1 (fu : Nat) : ((List (D_api_Record)) × ((List (Int)) × ((List ((Int) × (List (Int)))) × (Unit)))) × (((List (D_api_Record)) × ((List (Int)) × ((List ((Int) × (List (Int)))) × (Unit)))) × (Unit)) → Option ((((List (D_api_Record)) × ((List (Int)) × ((List ((Int) × (List (Int)))) × (Unit)))) × ((Unit) × ((Unit) × (((List (D_api_Record)) × ((List (Int)) × ((List ((Int) × (List (Int)))) × (Unit)))) × ((Unit) × ((Unit) × (Unit))))))) × (Bool)) := fun ⟨⟨a, c, f, _⟩, ⟨h, i, j, _⟩, _⟩ =>
bif decide (List.length c = List.length c) then
 Option.bind (p31_1 fu ((a, c, f, ()), ())) fun ⟨⟨⟨k, l, m, _⟩, _, _, _⟩, n⟩ =>
 bif !n then
 bif decide (List.length l = List.length l) then
 bif decide (List.length i = List.length i) then
 some (((k, l, m, ()), (), (), (h, i, j, ()), (), (), ()), false)
 else none
 else none
 else
 bif decide ((0 : Int) ≤ 0 ∧ 0 < (List.length k : Int)) then
 bif decide (0 < List.length k) then
 bif ((List.length (Option.getD (lookM (.int .u64) j (((((List.getD k 0 (dflt T_api_Record)).2).2).2).1)) ([])) : Int) == (0 : Int)) then
 bif decide (List.length l = List.length l) then
 bif decide (List.length i = List.length i) then
 some (((k, l, m, ()), (), (), (h, i, j, ()), (), (), ()), true)
 else none
 else none
 else
 bif decide ((0 : Int) ≤ 0 ∧ 0 < (List.length (Option.getD (lookM (.int .u64) j (((((List.getD k 0 (dflt T_api_Record)).2).2).2).1)) ([])) : Int)) then
 bif decide (0 < List.length (Option.getD (lookM (.int .u64) j (((((List.getD k 0 (dflt T_api_Record)).2).2).2).1)) ([]))) then
 bif decide (List.length l = List.length l) then
 bif decide (List.length i = List.length i) then
 some (((k, l, m, ()), (), (), (h, i, j, ()), (), (), ()), decide ((List.getD (Option.getD (lookM (.int .u64) j (((((List.getD k 0 (dflt T_api_Record)).2).2).2).1)) ([])) 0 (dflt (.int .u64))) ≥ (((((List.getD k 0 (dflt T_api_Record)).2).2).2).2)))
 else none
 else none
 else none
 else none
 else none
 else none
else none
def e32_1 (fu : Nat) : Ent := ⟨32, (.cons Y6 (.cons Y6 .nil)), (.cons Y7 (.cons .dead (.cons .dead (.cons Y7 (.cons .dead (.cons .dead .nil)))))), (.hole .bool), p32_1 fu⟩
theorem g32_1 (fu : Nat) : (e32_1 fu).Good Try.prog := good_fx orders Try.func32 fu [(2, (.ent (e31_1 fu)))] [] rs32 34 (l := [e31_1 fu]) ⟨g31_1 fu, trivial⟩
def rs33 : List RVx := [(.cell 4 true 5)]
def p33_1 (_ : Nat) : ((List (D_api_Record)) × ((List (Int)) × ((List ((Int) × (List (Int)))) × (Unit)))) × ((Int) × (Unit)) → Option ((((List (D_api_Record)) × ((List (Int)) × ((List ((Int) × (List (Int)))) × (Unit)))) × ((Unit) × ((Unit) × (Unit)))) × ((Int) × ((ByteArray) × ((List (Int)) × ((Int) × ((Int) × (Unit))))))) := fun ⟨⟨a, c, f, _⟩, h, _⟩ =>
bif decide ((0 : Int) ≤ 0 ∧ 0 < (List.length a : Int)) then
 bif decide (0 < List.length a) then
 bif decide (1 ≤ List.length a) then
 bif decide (List.length c = List.length c) then
 bif decide (List.length c + List.length ([h]) ≤ maxLen ∧ (List.length c + List.length ([h])) * 8 ≤ 140737488355328) then
 bif decide (1 ≤ List.length (Option.getD (lookM (.int .u64) f (((((List.getD a 0 (dflt T_api_Record)).2).2).2).1)) ([]))) then
 bif decide (List.length (c ++ [h]) = List.length (c ++ [h])) then
 some (((List.drop 1 a, (c ++ [h]), (setM (.int .u64) f (((((List.getD a 0 (dflt T_api_Record)).2).2).2).1) (List.drop 1 (Option.getD (lookM (.int .u64) f (((((List.getD a 0 (dflt T_api_Record)).2).2).2).1)) ([])))), ()), (), (), ()), ((List.getD a 0 (dflt T_api_Record)).1, ((List.getD a 0 (dflt T_api_Record)).2).1, (((List.getD a 0 (dflt T_api_Record)).2).2).1, ((((List.getD a 0 (dflt T_api_Record)).2).2).2).1, ((((List.getD a 0 (dflt T_api_Record)).2).2).2).2, ()))
 else none
 else none
 else none
 else none
 else none
 else none
else none
def e33_1 (fu : Nat) : Ent := ⟨33, (.cons Y6 (.cons (.hole (.int .u64)) .nil)), (.cons Y7 (.cons .dead (.cons .dead .nil))), Y0, p33_1 fu⟩
theorem g33_1 (fu : Nat) : (e33_1 fu).Good Try.prog := good_fx orders Try.func33 fu [(24, (.ty (.int .u64))), (25, (.ty (.int .u64)))] [] rs33 45 (l := []) trivial
def rs19 : List RVx := [(.tmp 4), (.tmp 5), (.tmp 6), (.tmp 7)]
def p19 (fu : Nat) : (List (D_api_Record)) × ((List (D_api_Record)) × (Unit)) → Option ((Unit) × ((List (D_api_Record)) × ((List (Int)) × ((List (Int)) × ((Int) × (Unit)))))) := fun ⟨a, c, _⟩ =>
orK (E := ((Bool) × (Unit)) × (Unit))
 (Option.bind (p14 fu (a, ())) fun ⟨_, f⟩ =>
 bif !f then
 some (.inl ((true, ()), ()))
 else
 Option.bind (p14 fu (c, ())) fun ⟨_, h⟩ =>
 some (.inl ((!h, ()), ())))
 fun ⟨⟨i, _⟩, _⟩ =>
bif i then
 some ((), ([], [], [], (1 : Int), ()))
else
 bif decide ((IntKind.wrap .i64 ((List.length a : Int) + (List.length c : Int))) > (4096 : Int)) then
 some ((), ([], [], [], (143 : Int), ()))
 else
 Option.bind (pNewSrc fu (a, ())) fun ⟨_, ⟨j, _, k, _⟩⟩ =>
 Option.bind (pNewSrc fu (c, ())) fun ⟨_, ⟨l, _, m, _⟩⟩ =>
 loopO (S := ((List (D_api_Record)) × (Unit)) × (((List (D_api_Record)) × ((List (Int)) × ((List ((Int) × (List (Int)))) × (Unit)))) × (((List (D_api_Record)) × ((List (Int)) × ((List ((Int) × (List (Int)))) × (Unit)))) × (Unit)))) fu (fun ⟨⟨n, _⟩, ⟨⟨o, q, s, _⟩, ⟨t, u, w, _⟩, _⟩⟩ =>
 orK (E := (Unit) × (((List (D_api_Record)) × ((List (Int)) × ((List ((Int) × (List (Int)))) × (Unit)))) × (((List (D_api_Record)) × ((List (Int)) × ((List ((Int) × (List (Int)))) × (Unit)))) × (Unit))))
 (bif decide (List.length q = List.length q) then
 Option.bind (p31_1 fu ((o, q, s, ()), ())) fun ⟨⟨⟨x, y, z, _⟩, _, _, _⟩, a0⟩ =>
 bif a0 then
 bif decide (List.length y = List.length y) then
 bif decide (List.length u = List.length u) then
 some (.inl ((), ((x, y, z, ()), (t, u, w, ()), ())))
 else none
 else none
 else
 bif decide (List.length u = List.length u) then
 Option.bind (p31_1 fu ((t, u, w, ()), ())) fun ⟨⟨⟨c0, f0, h0, _⟩, _, _, _⟩, i0⟩ =>
 bif i0 then
 bif decide (List.length y = List.length y) then
 bif decide (List.length f0 = List.length f0) then
 some (.inl ((), ((x, y, z, ()), (c0, f0, h0, ()), ())))
 else none
 else none
 else
 inrO (inrO (bif decide (List.length y = List.length y) then
 bif decide (List.length y + List.length ([IntKind.wrap .u64 ((List.length n) : Int)]) ≤ maxLen ∧ (List.length y + List.length ([IntKind.wrap .u64 ((List.length n) : Int)])) * 8 ≤ 140737488355328) then
 bif decide (List.length f0 = List.length f0) then
 bif decide (List.length f0 + List.length ([IntKind.wrap .u64 ((List.length n) : Int)]) ≤ maxLen ∧ (List.length f0 + List.length ([IntKind.wrap .u64 ((List.length n) : Int)])) * 8 ≤ 140737488355328) then
 bif decide (List.length n = List.length n) then
 bif decide (List.length (y ++ [IntKind.wrap .u64 ((List.length n) : Int)]) = List.length (y ++ [IntKind.wrap .u64 ((List.length n) : Int)])) then
 bif decide (List.length (f0 ++ [IntKind.wrap .u64 ((List.length n) : Int)]) = List.length (f0 ++ [IntKind.wrap .u64 ((List.length n) : Int)])) then
 some ((), (n, (y ++ [IntKind.wrap .u64 ((List.length n) : Int)]), (f0 ++ [IntKind.wrap .u64 ((List.length n) : Int)]), (0 : Int), ()))
 else none
 else none
 else none
 else none
 else none
 else none
 else none))
 else none
 else none)
 fun ⟨_, ⟨⟨o, q, s, _⟩, ⟨t, u, w, _⟩, _⟩⟩ =>
 bif decide (List.length q = List.length q) then
 bif decide (List.length u = List.length u) then
 Option.bind (p32_1 fu ((o, q, s, ()), (t, u, w, ()), ())) fun ⟨⟨⟨j0, k0, l0, _⟩, _, _, ⟨m0, n0, o0, _⟩, _, _, _⟩, q0⟩ =>
 bif q0 then
 bif decide (List.length k0 = List.length k0) then
 Option.bind (p33_1 fu ((j0, k0, l0, ()), IntKind.wrap .u64 ((List.length n) : Int), ())) fun ⟨⟨⟨s0, t0, u0, _⟩, _, _, _⟩, ⟨w0, x0, y0, z0, a1, _⟩⟩ =>
 bif decide (List.length n = List.length n) then
 Option.bind (p23 fu (n, (w0, x0, y0, z0, a1, ()), ())) fun ⟨⟨_, _⟩, c1⟩ =>
 bif decide (List.length c1 = List.length c1) then
 bif decide (List.length t0 = List.length t0) then
 bif decide (List.length n0 = List.length n0) then
 some (.inl ((c1, ()), ((s0, t0, u0, ()), (m0, n0, o0, ()), ())))
 else none
 else none
 else none
 else none
 else none
 else
 bif decide (List.length n0 = List.length n0) then
 bif decide (List.length k0 = List.length k0) then
 Option.bind (p32_1 fu ((m0, n0, o0, ()), (j0, k0, l0, ()), ())) fun ⟨⟨⟨f1, h1, i1, _⟩, _, _, ⟨j1, k1, l1, _⟩, _, _, _⟩, m1⟩ =>
 bif m1 then
 bif decide (List.length h1 = List.length h1) then
 Option.bind (p33_1 fu ((f1, h1, i1, ()), IntKind.wrap .u64 ((List.length n) : Int), ())) fun ⟨⟨⟨n1, o1, q1, _⟩, _, _, _⟩, ⟨s1, t1, u1, w1, x1, _⟩⟩ =>
 bif decide (List.length n = List.length n) then
 Option.bind (p23 fu (n, (s1, t1, u1, w1, x1, ()), ())) fun ⟨⟨_, _⟩, y1⟩ =>
 bif decide (List.length y1 = List.length y1) then
 bif decide (List.length k1 = List.length k1) then
 bif decide (List.length o1 = List.length o1) then
 some (.inl ((y1, ()), ((j1, k1, l1, ()), (n1, o1, q1, ()), ())))
 else none
 else none
 else none
 else none
 else none
 else
 inrO (some ((), ([], [], [], (145 : Int), ())))
 else none
 else none
 else none
 else none)
 (([], ()), ((j, [], k, ()), (l, [], m, ()), ()))
def e19 (fu : Nat) : Ent := ⟨19, (.cons (.hole (.sl .any T_api_Record)) (.cons (.hole (.sl .any T_api_Record)) .nil)), .nil, Y8, p19 fu⟩
theorem g19 (fu : Nat) : (e19 fu).Good Try.prog := good_fx orders Try.func19 fu [(5, (.ent (e14 fu))), (9, (.ent (e14 fu))), (28, (.ent (eNewSrc fu))), (30, (.ent (eNewSrc fu))), (34, (.ent (e31_1 fu))), (37, (.ent (e31_1 fu))), (42, (.ent (e32_1 fu))), (48, (.ent (e32_1 fu))), (61, (.ent (e33_1 fu))), (62, (.ent (e23 fu))), (74, (.ty (.int .u64))), (75, (.ty (.int .u64))), (81, (.ty (.int .u64))), (82, (.ty (.int .u64)))] [(2, ⟨[20], (.cons (.hole .bool) .nil), [], .nil, [0, 1], []⟩), (10, ⟨[8], (.cons (.own (.own (some [.int .u64, .str, .sl, .int .u64, .int .u64])) 27 T_api_Record_n) .nil), [(192, 63, 3), (224, 63, 3)], (.cons Y7 (.cons Y7 .nil)), [9, 10], []⟩), (11, ⟨[], .nil, [(192, 63, 3), (224, 63, 3)], (.cons Y7 (.cons Y7 .nil)), [8, 9, 10], [272]⟩)] rs19 72 (l := [e14 fu, e14 fu, eNewSrc fu, eNewSrc fu, e31_1 fu, e31_1 fu, e32_1 fu, e32_1 fu, e33_1 fu, e23 fu]) ⟨g14 fu, g14 fu, gNewSrc fu, gNewSrc fu, g31_1 fu, g31_1 fu, g32_1 fu, g32_1 fu, g33_1 fu, g23 fu, trivial⟩
def rs34 : List RVx := [(.tmp 4)]
def p34 (fu : Nat) : (List (D_api_Record)) × (((Int) × ((ByteArray) × ((List (Int)) × ((Int) × ((Int) × (Unit)))))) × (Unit)) → Option ((Unit) × (Bool)) := fun ⟨a, ⟨_, _, _, c, f, _⟩, _⟩ =>
loopO (S := ((Int) × (Unit)) × (Unit)) fu (fun ⟨⟨h, _⟩, _⟩ =>
 bif decide (h < (List.length a : Int)) then
 bif decide ((0 : Int) ≤ h ∧ h < (List.length a : Int)) then
 bif decide (Int.toNat h < List.length a) then
 bif ((((((List.getD a (Int.toNat h) (dflt T_api_Record)).2).2).2).1) == c) then
 bif decide ((0 : Int) ≤ h ∧ h < (List.length a : Int)) then
 bif decide (Int.toNat h < List.length a) then
 bif decide ((((((List.getD a (Int.toNat h) (dflt T_api_Record)).2).2).2).2) < f) then
 inrO (some ((), true))
 else
 some (.inl ((IntKind.wrap .i64 (h + (1 : Int)), ()), ()))
 else none
 else none
 else
 some (.inl ((IntKind.wrap .i64 (h + (1 : Int)), ()), ()))
 else none
 else none
 else
 inrO (some ((), false)))
 (((0 : Int), ()), ())
def e34 (fu : Nat) : Ent := ⟨34, (.cons (.hole (.sl .any T_api_Record)) (.cons Y0 .nil)), .nil, (.hole .bool), p34 fu⟩
theorem g34 (fu : Nat) : (e34 fu).Good Try.prog := good_fx orders Try.func34 fu [] [(3, ⟨[5], (.cons (.hole (.int .i64)) .nil), [], .nil, [0, 3], [0]⟩)] rs34 30 (l := []) trivial
def rs20 : List RVx := [(.tmp 4), (.tmp 5), (.tmp 6), (.tmp 7)]
def p20 (fu : Nat) : (List (D_api_Record)) × ((List (D_api_Record)) × (Unit)) → Option ((Unit) × ((List (D_api_Record)) × ((List (Int)) × ((List (Int)) × ((Int) × (Unit)))))) := fun ⟨a, c, _⟩ =>
Option.bind (p15 fu (a, ())) fun ⟨_, f⟩ =>
Option.bind (p15 fu (c, ())) fun ⟨_, h⟩ =>
orK (E := ((Bool) × (Unit)) × (Unit))
 (bif !f then
 some (.inl ((true, ()), ()))
 else
 some (.inl ((!h, ()), ())))
 fun ⟨⟨i, _⟩, _⟩ =>
bif i then
 some ((), ([], [], [], (1 : Int), ()))
else
 bif decide ((IntKind.wrap .i64 ((List.length a : Int) + (List.length c : Int))) > (4096 : Int)) then
 some ((), ([], [], [], (143 : Int), ()))
 else
 loopO (S := ((List (D_api_Record)) × ((List (D_api_Record)) × ((List (D_api_Record)) × ((List (Int)) × ((List (Int)) × (Unit)))))) × (Unit)) fu (fun ⟨⟨j, k, l, m, n, _⟩, _⟩ =>
 bif decide ((IntKind.wrap .i64 ((List.length j : Int) + (List.length k : Int))) > (0 : Int)) then
 orK (E := ((Bool) × (Unit)) × (Unit))
 (bif decide ((List.length j : Int) > (0 : Int)) then
 bif decide ((0 : Int) ≤ 0 ∧ 0 < (List.length j : Int)) then
 bif decide (0 < List.length j) then
 Option.bind (p34 fu (k, ((List.getD j 0 (dflt T_api_Record)).1, ((List.getD j 0 (dflt T_api_Record)).2).1, (((List.getD j 0 (dflt T_api_Record)).2).2).1, ((((List.getD j 0 (dflt T_api_Record)).2).2).2).1, ((((List.getD j 0 (dflt T_api_Record)).2).2).2).2, ()), ())) fun ⟨_, o⟩ =>
 some (.inl ((!o, ()), ()))
 else none
 else none
 else
 some (.inl ((false, ()), ())))
 fun ⟨⟨q, _⟩, _⟩ =>
 orK (E := ((Bool) × (Unit)) × (Unit))
 (orK (E := ((Bool) × (Unit)) × (Unit))
 (bif !q then
 some (.inl ((decide ((List.length k : Int) > (0 : Int)), ()), ()))
 else
 some (.inl ((false, ()), ())))
 fun ⟨⟨s, _⟩, _⟩ =>
 bif s then
 bif decide ((0 : Int) ≤ 0 ∧ 0 < (List.length k : Int)) then
 bif decide (0 < List.length k) then
 Option.bind (p34 fu (j, ((List.getD k 0 (dflt T_api_Record)).1, ((List.getD k 0 (dflt T_api_Record)).2).1, (((List.getD k 0 (dflt T_api_Record)).2).2).1, ((((List.getD k 0 (dflt T_api_Record)).2).2).2).1, ((((List.getD k 0 (dflt T_api_Record)).2).2).2).2, ()), ())) fun ⟨_, t⟩ =>
 some (.inl ((!t, ()), ()))
 else none
 else none
 else
 some (.inl ((false, ()), ())))
 fun ⟨⟨u, _⟩, _⟩ =>
 bif q then
 bif decide (List.length m = List.length m) then
 bif decide (List.length m + List.length ([IntKind.wrap .u64 ((List.length l) : Int)]) ≤ maxLen ∧ (List.length m + List.length ([IntKind.wrap .u64 ((List.length l) : Int)])) * 8 ≤ 140737488355328) then
 bif decide ((0 : Int) ≤ 0 ∧ 0 < (List.length j : Int)) then
 bif decide (0 < List.length j) then
 Option.bind (p25 fu (((List.getD j 0 (dflt T_api_Record)).1, ((List.getD j 0 (dflt T_api_Record)).2).1, (((List.getD j 0 (dflt T_api_Record)).2).2).1, ((((List.getD j 0 (dflt T_api_Record)).2).2).2).1, ((((List.getD j 0 (dflt T_api_Record)).2).2).2).2, ()), ((List.length l) : Int), ())) fun ⟨_, ⟨w, x, y, z, a0, _⟩⟩ =>
 bif decide (List.length y = List.length y) then
 bif decide (List.length l = List.length l) then
 bif decide (List.length l + List.length ([(w, x, y, z, a0)]) ≤ maxLen ∧ (List.length l + List.length ([(w, x, y, z, a0)])) * 64 ≤ 140737488355328) then
 bif decide (1 ≤ List.length j) then
 bif decide (List.length (l ++ [(w, x, y, z, a0)]) = List.length (l ++ [(w, x, y, z, a0)])) then
 bif decide (List.length (m ++ [IntKind.wrap .u64 ((List.length l) : Int)]) = List.length (m ++ [IntKind.wrap .u64 ((List.length l) : Int)])) then
 bif decide (List.length n = List.length n) then
 some (.inl ((List.drop 1 j, k, (l ++ [(w, x, y, z, a0)]), (m ++ [IntKind.wrap .u64 ((List.length l) : Int)]), n, ()), ()))
 else none
 else none
 else none
 else none
 else none
 else none
 else none
 else none
 else none
 else none
 else none
 else
 bif u then
 bif decide (List.length n = List.length n) then
 bif decide (List.length n + List.length ([IntKind.wrap .u64 ((List.length l) : Int)]) ≤ maxLen ∧ (List.length n + List.length ([IntKind.wrap .u64 ((List.length l) : Int)])) * 8 ≤ 140737488355328) then
 bif decide ((0 : Int) ≤ 0 ∧ 0 < (List.length k : Int)) then
 bif decide (0 < List.length k) then
 Option.bind (p25 fu (((List.getD k 0 (dflt T_api_Record)).1, ((List.getD k 0 (dflt T_api_Record)).2).1, (((List.getD k 0 (dflt T_api_Record)).2).2).1, ((((List.getD k 0 (dflt T_api_Record)).2).2).2).1, ((((List.getD k 0 (dflt T_api_Record)).2).2).2).2, ()), ((List.length l) : Int), ())) fun ⟨_, ⟨c0, f0, h0, i0, j0, _⟩⟩ =>
 bif decide (List.length h0 = List.length h0) then
 bif decide (List.length l = List.length l) then
 bif decide (List.length l + List.length ([(c0, f0, h0, i0, j0)]) ≤ maxLen ∧ (List.length l + List.length ([(c0, f0, h0, i0, j0)])) * 64 ≤ 140737488355328) then
 bif decide (1 ≤ List.length k) then
 bif decide (List.length (l ++ [(c0, f0, h0, i0, j0)]) = List.length (l ++ [(c0, f0, h0, i0, j0)])) then
 bif decide (List.length m = List.length m) then
 bif decide (List.length (n ++ [IntKind.wrap .u64 ((List.length l) : Int)]) = List.length (n ++ [IntKind.wrap .u64 ((List.length l) : Int)])) then
 some (.inl ((j, List.drop 1 k, (l ++ [(c0, f0, h0, i0, j0)]), m, (n ++ [IntKind.wrap .u64 ((List.length l) : Int)]), ()), ()))
 else none
 else none
 else none
 else none
 else none
 else none
 else none
 else none
 else none
 else none
 else none
 else
 inrO (some ((), ([], [], [], (145 : Int), ())))
 else
 inrO (bif decide (List.length m = List.length m) then
 bif decide (List.length m + List.length ([IntKind.wrap .u64 ((List.length l) : Int)]) ≤ maxLen ∧ (List.length m + List.length ([IntKind.wrap .u64 ((List.length l) : Int)])) * 8 ≤ 140737488355328) then
 bif decide (List.length n = List.length n) then
 bif decide (List.length n + List.length ([IntKind.wrap .u64 ((List.length l) : Int)]) ≤ maxLen ∧ (List.length n + List.length ([IntKind.wrap .u64 ((List.length l) : Int)])) * 8 ≤ 140737488355328) then
 bif decide (List.length l = List.length l) then
 bif decide (List.length (m ++ [IntKind.wrap .u64 ((List.length l) : Int)]) = List.length (m ++ [IntKind.wrap .u64 ((List.length l) : Int)])) then
 bif decide (List.length (n ++ [IntKind.wrap .u64 ((List.length l) : Int)]) = List.length (n ++ [IntKind.wrap .u64 ((List.length l) : Int)])) then
 some ((), (l, (m ++ [IntKind.wrap .u64 ((List.length l) : Int)]), (n ++ [IntKind.wrap .u64 ((List.length l) : Int)]), (0 : Int), ()))
 else none
 else none
 else none
 else none
 else none
 else none
 else none))
 ((a, c, [], [], [], ()), ())
def e20 (fu : Nat) : Ent := ⟨20, (.cons (.hole (.sl .any T_api_Record)) (.cons (.hole (.sl .any T_api_Record)) .nil)), .nil, Y8, p20 fu⟩
theorem g20 (fu : Nat) : (e20 fu).Good Try.prog := good_fx orders Try.func20 fu [(5, (.ent (e15 fu))), (8, (.ent (e15 fu))), (48, (.ent (e34 fu))), (64, (.ent (e34 fu))), (75, (.ty (.int .u64))), (76, (.ty (.int .u64))), (84, (.ent (e25 fu))), (85, (.ty T_api_Record_n)), (86, (.ty T_api_Record_n)), (97, (.ty (.int .u64))), (98, (.ty (.int .u64))), (106, (.ent (e25 fu))), (107, (.ty T_api_Record_n)), (108, (.ty T_api_Record_n)), (124, (.ty (.int .u64))), (125, (.ty (.int .u64))), (128, (.ty (.int .u64))), (129, (.ty (.int .u64)))] [(4, ⟨[27], (.cons (.hole .bool) .nil), [], .nil, [0, 1], []⟩), (13, ⟨[0, 1, 10, 11, 12], (.cons (.hole (.sl .any T_api_Record)) (.cons (.hole (.sl .any T_api_Record)) (.cons (.own (.own (some [.int .u64, .str, .sl, .int .u64, .int .u64])) 27 T_api_Record_n) (.cons (.own (.own (some [.int .u64])) 24 (.int .u64)) (.cons (.own (.own (some [.int .u64])) 24 (.int .u64)) .nil))))), [], .nil, [], []⟩), (18, ⟨[13], (.cons (.hole .bool) .nil), [], .nil, [0, 1, 10, 11, 12, 14], [304, 305, 306]⟩), (21, ⟨[14], (.cons (.hole .bool) .nil), [], .nil, [0, 1, 10, 11, 12, 13], [304, 305, 306]⟩), (22, ⟨[56], (.cons (.hole .bool) .nil), [], .nil, [0, 1, 10, 11, 12, 13, 14], [304, 305, 306]⟩)] rs20 114 (l := [e15 fu, e15 fu, e34 fu, e34 fu, e25 fu, e25 fu]) ⟨g15 fu, g15 fu, g34 fu, g34 fu, g25 fu, g25 fu, trivial⟩
def rs4 : List RVx := [(.tmp 6)]
def p4 (fu : Nat) : (List (D_api_Record)) × ((List (D_api_Record)) × (((ByteArray) × ((ByteArray) × (Unit))) × (Unit))) → Option ((Unit) × (Bool)) := fun ⟨a, c, ⟨f, h, _⟩, _⟩ =>
Option.bind (p5 fu ()) fun ⟨_, i⟩ =>
Option.bind (p7 fu (a, ())) fun ⟨_, j⟩ =>
orK (E := ((List (D_api_Record)) × ((List (D_api_Record)) × (Unit))) × (Unit))
 (Option.bind (p7 fu (c, ())) fun ⟨_, k⟩ =>
 bif decide (List.length j = List.length j) then
 bif decide (List.length k = List.length k) then
 some (.inl ((j, k, ()), ()))
 else none
 else none)
 fun ⟨⟨l, m, _⟩, _⟩ =>
Option.bind (p16 fu (l, (f, h, ()), ())) fun ⟨_, ⟨n, o, _⟩⟩ =>
Option.bind (p17 fu (a, (f, h, ()), ())) fun ⟨_, ⟨q, s, _⟩⟩ =>
orK (E := ((Bool) × (Unit)) × (Unit))
 (bif decide (List.length n = List.length n) then
 bif decide (List.length q = List.length q) then
 Option.bind (p10 fu (n, q, ())) fun ⟨_, t⟩ =>
 bif t then
 bif decide (List.length o = List.length o) then
 bif decide (List.length s = List.length s) then
 Option.bind (p18 fu (o, s, ())) fun ⟨_, u⟩ =>
 some (.inl ((u, ()), ()))
 else none
 else none
 else
 some (.inl ((false, ()), ()))
 else none
 else none)
 fun ⟨⟨w, _⟩, _⟩ =>
bif decide (List.length n = List.length n) then
 bif spP n then
 Option.bind (p19 fu (l, m, ())) fun ⟨_, ⟨x, y, z, a0, _⟩⟩ =>
 Option.bind (p20 fu (a, c, ())) fun ⟨_, ⟨c0, f0, h0, i0, _⟩⟩ =>
 orK (E := ((Bool) × (Unit)) × (Unit))
 (bif decide (List.length x = List.length x) then
 bif decide (List.length c0 = List.length c0) then
 Option.bind (p10 fu (x, c0, ())) fun ⟨_, j0⟩ =>
 bif j0 then
 bif decide (List.length y = List.length y) then
 bif decide (List.length f0 = List.length f0) then
 Option.bind (p18 fu (y, f0, ())) fun ⟨_, k0⟩ =>
 bif k0 then
 bif decide (List.length z = List.length z) then
 bif decide (List.length h0 = List.length h0) then
 Option.bind (p18 fu (z, h0, ())) fun ⟨_, l0⟩ =>
 some (.inl ((l0, ()), ()))
 else none
 else none
 else
 some (.inl ((false, ()), ()))
 else none
 else none
 else
 some (.inl ((false, ()), ()))
 else none
 else none)
 fun ⟨⟨m0, _⟩, _⟩ =>
 bif decide (List.length x = List.length x) then
 bif spP x then
 orK (E := ((Bool) × (Unit)) × (Unit))
 (Option.bind (p10 fu (l, a, ())) fun ⟨_, n0⟩ =>
 bif n0 then
 Option.bind (p10 fu (m, c, ())) fun ⟨_, o0⟩ =>
 some (.inl ((o0, ()), ()))
 else
 some (.inl ((false, ()), ())))
 fun ⟨⟨q0, _⟩, _⟩ =>
 bif i then
 bif w then
 bif m0 then
 bif q0 then
 some ((), (a0 == i0))
 else
 some ((), false)
 else
 some ((), false)
 else
 some ((), false)
 else
 some ((), false)
 else none
 else none
 else none
else none
def e4 (fu : Nat) : Ent := ⟨4, (.cons (.hole (.sl .any T_api_Record)) (.cons (.hole (.sl .any T_api_Record)) (.cons (.agg 2 (.cons (.hole .str) (.cons (.hole .str) .nil))) .nil))), .nil, (.hole .bool), p4 fu⟩
theorem g4 (fu : Nat) : (e4 fu).Good Try.prog := good_fz orders Try.func4 fu [(2, (.ent (e5 fu))), (5, (.ent (e7 fu))), (8, (.ent (e7 fu))), (12, (.ent (e16 fu))), (20, (.ent (e17 fu))), (28, (.ent (e10 fu))), (32, (.ent (e18 fu))), (36, (.spo (sSpo fu))), (39, (.ent (e19 fu))), (51, (.ent (e20 fu))), (63, (.ent (e10 fu))), (67, (.ent (e18 fu))), (72, (.ent (e18 fu))), (76, (.spo (sSpo fu))), (79, (.ent (e10 fu))), (83, (.ent (e10 fu)))] [(3, ⟨[8, 9], (.cons (.hole (.sl .new T_api_Record_n)) (.cons (.hole (.sl .new T_api_Record_n)) .nil)), [], .nil, [0, 1, 5, 7], [0]⟩), (6, ⟨[14], (.cons (.hole .bool) .nil), [], .nil, [0, 1, 7, 8, 9, 10], [144]⟩), (10, ⟨[23], (.cons (.hole .bool) .nil), [], .nil, [0, 1, 7, 8, 9, 14, 15, 18, 22], [432]⟩), (12, ⟨[24], (.cons (.hole .bool) .nil), [], .nil, [7, 14, 18, 22, 23], []⟩)] [(3, .zone)] rs4 106 (l := [e5 fu, e7 fu, e7 fu, e16 fu, e17 fu, e10 fu, e18 fu, e19 fu, e20 fu, e10 fu, e18 fu, e18 fu, e10 fu, e10 fu]) ⟨g5 fu, g7 fu, g7 fu, g16 fu, g17 fu, g10 fu, g18 fu, g19 fu, g20 fu, g10 fu, g18 fu, g18 fu, g10 fu, g10 fu, trivial⟩ (ls := [sSpo fu, sSpo fu]) ⟨gSpo fu, gSpo fu, trivial⟩
end Go.Proofs.Ytlmnhbobgfpanaa
