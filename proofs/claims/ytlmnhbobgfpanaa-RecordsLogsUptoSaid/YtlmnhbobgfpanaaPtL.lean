/-
  The functions, typed.
-/
import Derived.Test.YtlmnhbobgfpanaaNsE
import Derived.Test.YtlmnhbobgfpanaaSpR
import Derived.Test.YtlmnhbobgfpanaaDaN
import Derived.Test.YtlmnhbobgfpanaaRows
namespace Go.Proofs.Ytlmnhbobgfpanaa
set_option maxRecDepth 1000000
open Go.RowKit
abbrev T_api_Record : Tp := (.pair (.int .u64) (.pair .str (.pair (.sl .any (.int .u8)) (.pair (.int .u64) (.int .u64)))))
abbrev D_api_Record := (Int) × ((ByteArray) × ((List (Int)) × ((Int) × (Int))))
abbrev T_api_Record_n : Tp := (.pair (.int .u64) (.pair .str (.pair (.sl .new (.int .u8)) (.pair (.int .u64) (.int .u64)))))
theorem orders : Try.prog.follows .mixedOrders = true := by kernel_rfl
abbrev Y0 : Sh := (.agg 5 (.cons (.hole (.int .u64)) (.cons (.hole .str) (.cons (.hole (.sl .any (.int .u8))) (.cons (.hole (.int .u64)) (.cons (.hole (.int .u64)) .nil))))))
abbrev Y1 : Sh := (.agg 5 (.cons (.hole (.int .u64)) (.cons (.hole .str) (.cons (.hole (.sl .new (.int .u8))) (.cons (.hole (.int .u64)) (.cons (.hole (.int .u64)) .nil))))))
abbrev Y2 : Sh := (.agg 5 (.cons (.hole (.int .u64)) (.cons (.hole .str) (.cons (.own (.own (some [.int .u8])) 5 (.int .u8)) (.cons (.hole (.int .u64)) (.cons (.hole (.int .u64)) .nil))))))
abbrev Y3 : Sh := (.tup 3 (.cons (.own (.own (some [.int .u64, .str, .sl, .int .u64, .int .u64])) 27 T_api_Record_n) (.cons (.hole (.int .u64)) (.cons (.hole (.int .i64)) .nil))))
abbrev Y4 : Sh := (.agg 5 (.cons (.hole (.int .u64)) (.cons (.hole .str) (.cons (.own (.own none) 5 (.int .u8)) (.cons (.hole (.int .u64)) (.cons (.hole (.int .u64)) .nil))))))
abbrev Y5 : Sh := (.tup 2 (.cons (.own (.own (some [.int .u64, .str, .sl, .int .u64, .int .u64])) 27 T_api_Record_n) (.cons (.hole (.int .i64)) .nil)))
abbrev Z6 : Type := (List (D_api_Record)) × ((Int) × ((Int) × ((ByteArray) × ((List (Int)) × ((Int) × ((Int) × ((Int) × ((Int) × (Unit)))))))))
abbrev Y7 : Sh := (.agg 9 (.cons (.hole (.sl .any T_api_Record)) (.cons (.hole (.int .u16)) (.cons (.hole (.int .u64)) (.cons (.hole .str) (.cons (.hole (.sl .any (.int .u8))) (.cons (.hole (.int .u64)) (.cons (.hole (.int .u64)) (.cons (.hole (.int .u64)) (.cons (.hole (.int .i64)) .nil))))))))))
def rs22 : List RVx := [(.tmp 2)]
def p22 (_ : Nat) : ((Int) × ((ByteArray) × ((List (Int)) × ((Int) × ((Int) × (Unit)))))) × (Unit) → Option ((Unit) × (Int)) := fun ⟨⟨_, a, c, _, _, _⟩, _⟩ =>
bif decide ((ByteArray.size a : Int) > (32 : Int)) then
 some ((), (131 : Int))
else
 bif decide ((List.length c : Int) > (256 : Int)) then
 some ((), (144 : Int))
 else
 some ((), (0 : Int))
def e22 (fu : Nat) : Ent := ⟨22, (.cons Y0 .nil), .nil, (.hole (.int .i64)), p22 fu⟩
theorem g22 (fu : Nat) : (e22 fu).Good Try.prog := good_fx orders Try.func22 fu [] [] rs22 13 (l := []) trivial
def rs14 : List RVx := [(.tmp 2)]
def p14 (fu : Nat) : (List (D_api_Record)) × (Unit) → Option ((Unit) × (Bool)) := fun ⟨a, _⟩ =>
loopO (S := ((Int) × (Unit)) × (Unit)) fu (fun ⟨⟨c, _⟩, _⟩ =>
 bif decide (c < (List.length a : Int)) then
 bif decide ((0 : Int) ≤ c ∧ c < (List.length a : Int)) then
 bif decide (Int.toNat c < List.length a) then
 bif (((List.getD a (Int.toNat c) (dflt T_api_Record)).1) != (IntKind.wrap .u64 c)) then
 inrO (some ((), false))
 else
 Option.bind (p22 fu (((List.getD a (Int.toNat c) (dflt T_api_Record)).1, ((List.getD a (Int.toNat c) (dflt T_api_Record)).2).1, (((List.getD a (Int.toNat c) (dflt T_api_Record)).2).2).1, ((((List.getD a (Int.toNat c) (dflt T_api_Record)).2).2).2).1, ((((List.getD a (Int.toNat c) (dflt T_api_Record)).2).2).2).2, ()), ())) fun ⟨_, f⟩ =>
 bif (f != (0 : Int)) then
 inrO (some ((), false))
 else
 some (.inl ((IntKind.wrap .i64 (c + (1 : Int)), ()), ()))
 else none
 else none
 else
 inrO (some ((), decide ((List.length a : Int) ≤ (4096 : Int)))))
 (((0 : Int), ()), ())
def e14 (fu : Nat) : Ent := ⟨14, (.cons (.hole (.sl .any T_api_Record)) .nil), .nil, (.hole .bool), p14 fu⟩
theorem g14 (fu : Nat) : (e14 fu).Good Try.prog := good_fx orders Try.func14 fu [(18, (.ent (e22 fu)))] [(3, ⟨[7], (.cons (.hole (.int .i64)) .nil), [], .nil, [0, 5, 6], []⟩)] rs14 26 (l := [e22 fu]) ⟨g22 fu, trivial⟩
def rs36 : List RVx := [(.tmp 2)]
def p36 (_ : Nat) : (Int) × (Unit) → Option ((Unit) × ((List (Int)) × (Unit))) := fun ⟨a, _⟩ =>
bif decide ((0 : Int) ≤ 0 ∧ (0 : Int) ≤ a ∧ (a : Int) ≤ 9223372036854775807 ∧ (1 : Int) * a ≤ 140737488355328) then
 bif decide (0 = List.length (List.replicate 0 (0 : Int) : List (Int))) then
 some ((), ((List.replicate 0 (0 : Int) : List (Int)), ()))
 else none
else none
def e36 (fu : Nat) : Ent := ⟨36, (.cons (.hole (.int .i64)) .nil), .nil, (.box 73 1 (.cons (.own .app 5 (.int .u8)) .nil)), p36 fu⟩
theorem g36 (fu : Nat) : (e36 fu).Good Try.prog := good_fx orders Try.func36 fu [(2, (.ty (.int .u8)))] [] rs36 6 (l := []) trivial
def rs39 : List RVx := [(.tmp 4)]
def p39 (_ : Nat) : ((List (Int)) × (Unit)) × ((List (Int)) × (Unit)) → Option ((((List (Int)) × (Unit)) × ((Unit) × (Unit))) × (List (Int))) := fun ⟨⟨a, _⟩, c, _⟩ =>
bif ((List.length c : Int) == (0 : Int)) then
 bif decide (List.length a = List.length a) then
 some (((a, ()), (), ()), [])
 else none
else
 bif decide (List.length a = List.length a) then
 bif decide (List.length a + List.length c ≤ maxLen ∧ (List.length a + List.length c) * 1 ≤ 140737488355328) then
 bif decide ((0 : Int) ≤ ((List.length (a ++ c)) : Int)) then
 bif decide ((0 : Int) ≤ ((List.length (a ++ c)) : Int)) then
 bif decide ((0 : Int) ≤ ((List.length a) : Int)) then
 bif decide (Int.toNat ((List.length a) : Int) ≤ Int.toNat ((List.length (a ++ c)) : Int) ∧ Int.toNat ((List.length (a ++ c)) : Int) ≤ Int.toNat ((List.length (a ++ c)) : Int) ∧ Int.toNat ((List.length (a ++ c)) : Int) ≤ List.length (a ++ c) ∧ 0 + (List.length (a ++ c)) ≤ List.length (a ++ c)) then
 bif decide (List.length (a ++ c) = List.length (a ++ c)) then
 some ((((a ++ c), ()), (), ()), slice' (a ++ c) (Int.toNat ((List.length a) : Int)) (some (Int.toNat ((List.length (a ++ c)) : Int))))
 else none
 else none
 else none
 else none
 else none
 else none
 else none
def e39 (fu : Nat) : Ent := ⟨39, (.cons (.box 73 1 (.cons (.own .app 5 (.int .u8)) .nil)) (.cons (.hole (.sl .any (.int .u8))) .nil)), (.cons (.agg 1 (.cons (.own .app 5 (.int .u8)) .nil)) (.cons .dead .nil)), (.hole (.sl .new (.int .u8))), p39 fu⟩
theorem g39 (fu : Nat) : (e39 fu).Good Try.prog := good_fx orders Try.func39 fu [(15, (.ty (.int .u8)))] [] rs39 32 (l := []) trivial
def rs38 : List RVx := [(.cell 3 true 5)]
def p38 (fu : Nat) : ((Int) × ((ByteArray) × ((List (Int)) × ((Int) × ((Int) × (Unit)))))) × ((((List (Int)) × (Unit)) × (Unit)) × (Unit)) → Option ((((Unit) × (Unit)) × (((List (Int)) × (Unit)) × ((Unit) × (Unit)))) × ((Int) × ((ByteArray) × ((List (Int)) × ((Int) × ((Int) × (Unit))))))) := fun ⟨⟨a, c, f, h, i, _⟩, ⟨⟨j, _⟩, _⟩, _⟩ =>
bif decide (List.length j = List.length j) then
 Option.bind (p39 fu ((j, ()), f, ())) fun ⟨⟨⟨k, _⟩, _, _⟩, l⟩ =>
 bif decide (List.length k = List.length k) then
 some ((((), ()), (k, ()), (), ()), (a, c, l, h, i, ()))
 else none
else none
def e38 (fu : Nat) : Ent := ⟨38, (.cons Y0 (.cons (.box 66 1 (.cons (.box 73 1 (.cons (.own .app 5 (.int .u8)) .nil)) .nil)) .nil)), (.cons (.agg 1 (.cons (.ptr 1) .nil)) (.cons (.agg 1 (.cons (.own .app 5 (.int .u8)) .nil)) (.cons .dead .nil))), Y1, p38 fu⟩
theorem g38 (fu : Nat) : (e38 fu).Good Try.prog := good_fx orders Try.func38 fu [(5, (.ent (e39 fu)))] [] rs38 10 (l := [e39 fu]) ⟨g39 fu, trivial⟩
def rs37 : List RVx := [(.tmp 4)]
def p37 (fu : Nat) : (List (D_api_Record)) × (((Unit) × ((((List (Int)) × (Unit)) × (Unit)) × (Unit))) × (Unit)) → Option ((((Unit) × (Unit)) × (((List (Int)) × (Unit)) × ((Unit) × (Unit)))) × (List (D_api_Record))) := fun ⟨a, ⟨_, ⟨⟨⟨c, _⟩, _⟩, _⟩⟩, _⟩ =>
bif ((List.length a : Int) == (0 : Int)) then
 bif decide (List.length c = List.length c) then
 some ((((), ()), (c, ()), (), ()), [])
 else none
else
 bif decide ((0 : Int) ≤ (List.length a : Int) ∧ ((List.length a : Int) : Int) ≤ (List.length a : Int) ∧ ((List.length a : Int) : Int) ≤ 9223372036854775807 ∧ (64 : Int) * (List.length a : Int) ≤ 140737488355328) then
 bif decide (Int.toNat (List.length a : Int) = List.length (List.replicate (Int.toNat (List.length a : Int)) ((0 : Int), (⟨#[]⟩ : ByteArray), [], (0 : Int), (0 : Int)) : List (D_api_Record))) then
 bif decide (List.length c = List.length c) then
 loopO (S := ((List (D_api_Record)) × ((Int) × (Unit))) × (((Unit) × (Unit)) × (((List (Int)) × (Unit)) × (Unit)))) fu (fun ⟨⟨f, h, _⟩, ⟨⟨_, _⟩, ⟨i, _⟩, _⟩⟩ =>
 bif decide (h < (List.length a : Int)) then
 bif decide ((0 : Int) ≤ h ∧ h < (List.length a : Int)) then
 bif decide (Int.toNat h < List.length a) then
 bif decide (List.length i = List.length i) then
 Option.bind (p38 fu (((List.getD a (Int.toNat h) (dflt T_api_Record)).1, ((List.getD a (Int.toNat h) (dflt T_api_Record)).2).1, (((List.getD a (Int.toNat h) (dflt T_api_Record)).2).2).1, ((((List.getD a (Int.toNat h) (dflt T_api_Record)).2).2).2).1, ((((List.getD a (Int.toNat h) (dflt T_api_Record)).2).2).2).2, ()), ((i, ()), ()), ())) fun ⟨⟨⟨_, _⟩, ⟨j, _⟩, _, _⟩, ⟨k, l, m, n, o, _⟩⟩ =>
 bif decide ((0 : Int) ≤ h ∧ h < (List.length f : Int)) then
 bif decide (Int.toNat h < List.length f) then
 bif decide (List.length f = List.length (List.set f (Int.toNat h) (k, l, m, n, o))) then
 bif decide (List.length j = List.length j) then
 some (.inl (((List.set f (Int.toNat h) (k, l, m, n, o)), IntKind.wrap .i64 (h + (1 : Int)), ()), (((), ()), (j, ()), ())))
 else none
 else none
 else none
 else none
 else none
 else none
 else none
 else
 inrO (bif decide (List.length i = List.length i) then
 bif decide (List.length f = List.length f) then
 some ((((), ()), (i, ()), (), ()), f)
 else none
 else none))
 (((List.replicate (Int.toNat (List.length a : Int)) ((0 : Int), (⟨#[]⟩ : ByteArray), [], (0 : Int), (0 : Int)) : List (D_api_Record)), (0 : Int), ()), (((), ()), (c, ()), ()))
 else none
 else none
 else none
def e37 (fu : Nat) : Ent := ⟨37, (.cons (.hole (.sl .any T_api_Record)) (.cons (.clo 38 0 .nil 1 (.cons (.box 66 1 (.cons (.box 73 1 (.cons (.own .app 5 (.int .u8)) .nil)) .nil)) .nil)) .nil)), (.cons (.agg 1 (.cons (.ptr 1) .nil)) (.cons (.agg 1 (.cons (.own .app 5 (.int .u8)) .nil)) (.cons .dead .nil))), (.own (.own (some [.int .u64, .str, .sl, .int .u64, .int .u64])) 27 T_api_Record_n), p37 fu⟩
theorem g37 (fu : Nat) : (e37 fu).Good Try.prog := good_fx orders Try.func37 fu [(7, (.ty T_api_Record_n)), (23, (.ent (e38 fu)))] [(7, ⟨[5, 16], (.cons (.own (.own (some [.int .u64, .str, .sl, .int .u64, .int .u64])) 27 T_api_Record_n) (.cons (.hole (.int .i64)) .nil)), [(0, 66, 1), (1, 73, 1)], (.cons (.agg 1 (.cons (.ptr 1) .nil)) (.cons (.agg 1 (.cons (.own .app 5 (.int .u8)) .nil)) .nil)), [1, 14, 15], [2]⟩)] rs37 29 (l := [e38 fu]) ⟨g38 fu, trivial⟩
def rs24 : List RVx := [(.tmp 2)]
def p24 (fu : Nat) : (List (D_api_Record)) × (Unit) → Option ((Unit) × (List (D_api_Record))) := fun ⟨a, _⟩ =>
loopO (S := ((Int) × ((Int) × (Unit))) × (Unit)) fu (fun ⟨⟨c, f, _⟩, _⟩ =>
 bif decide (f < (List.length a : Int)) then
 bif decide ((0 : Int) ≤ f ∧ f < (List.length a : Int)) then
 bif decide (Int.toNat f < List.length a) then
 some (.inl ((IntKind.wrap .i64 (c + (List.length ((((List.getD a (Int.toNat f) (dflt T_api_Record)).2).2).1) : Int)), IntKind.wrap .i64 (f + (1 : Int)), ()), ()))
 else none
 else none
 else
 inrO (Option.bind (p36 fu (c, ())) fun ⟨_, ⟨h, _⟩⟩ =>
 bif decide (List.length h = List.length h) then
 Option.bind (p37 fu (a, ((), (((h, ()), ()), ())), ())) fun ⟨⟨⟨_, _⟩, ⟨_, _⟩, _, _⟩, i⟩ =>
 bif decide (List.length i = List.length i) then
 some ((), i)
 else none
 else none))
 (((0 : Int), (0 : Int), ()), ())
def e24 (fu : Nat) : Ent := ⟨24, (.cons (.hole (.sl .any T_api_Record)) .nil), .nil, (.own (.own (some [.int .u64, .str, .sl, .int .u64, .int .u64])) 27 T_api_Record_n), p24 fu⟩
theorem g24 (fu : Nat) : (e24 fu).Good Try.prog := good_fx orders Try.func24 fu [(20, (.ent (e36 fu))), (25, (.ent (e37 fu)))] [(4, ⟨[3, 8], (.cons (.hole (.int .i64)) (.cons (.hole (.int .i64)) .nil)), [], .nil, [0, 7], []⟩)] rs24 25 (l := [e36 fu, e37 fu]) ⟨g36 fu, g37 fu, trivial⟩
def rs43 : List RVx := [(.tmp 2)]
def p43 (_ : Nat) : (List (Int)) × (Unit) → Option ((Unit) × (List (Int))) := fun ⟨a, _⟩ =>
bif ((List.length a : Int) == (0 : Int)) then
 some ((), [])
else
 bif decide ((0 : Int) ≤ (List.length a : Int) ∧ ((List.length a : Int) : Int) ≤ (List.length a : Int) ∧ ((List.length a : Int) : Int) ≤ 9223372036854775807 ∧ (1 : Int) * (List.length a : Int) ≤ 140737488355328) then
 bif decide (Int.toNat (List.length a : Int) = List.length (List.replicate (Int.toNat (List.length a : Int)) (0 : Int) : List (Int))) then
 bif decide (Int.toNat (List.length a : Int) = List.length (copyL (List.replicate (Int.toNat (List.length a : Int)) (0 : Int) : List (Int)) 0 (Int.toNat (List.length a : Int)) a)) then
 some ((), (copyL (List.replicate (Int.toNat (List.length a : Int)) (0 : Int) : List (Int)) 0 (Int.toNat (List.length a : Int)) a))
 else none
 else none
 else none
def e43 (fu : Nat) : Ent := ⟨43, (.cons (.hole (.sl .any (.int .u8))) .nil), .nil, (.own (.own (some [.int .u8])) 5 (.int .u8)), p43 fu⟩
theorem g43 (fu : Nat) : (e43 fu).Good Try.prog := good_fx orders Try.func43 fu [(7, (.ty (.int .u8)))] [] rs43 14 (l := []) trivial
def rs35 : List RVx := [(.cell 2 true 5)]
def p35 (fu : Nat) : ((Int) × ((ByteArray) × ((List (Int)) × ((Int) × ((Int) × (Unit)))))) × (Unit) → Option ((Unit) × ((Int) × ((ByteArray) × ((List (Int)) × ((Int) × ((Int) × (Unit))))))) := fun ⟨⟨a, c, f, h, i, _⟩, _⟩ =>
Option.bind (p43 fu (f, ())) fun ⟨_, j⟩ =>
bif decide (List.length j = List.length j) then
 some ((), (a, c, j, h, i, ()))
else none
def e35 (fu : Nat) : Ent := ⟨35, (.cons Y0 .nil), .nil, Y2, p35 fu⟩
theorem g35 (fu : Nat) : (e35 fu).Good Try.prog := good_fx orders Try.func35 fu [(4, (.ent (e43 fu)))] [] rs35 8 (l := [e43 fu]) ⟨g43 fu, trivial⟩
def rs23 : List RVx := [(.tmp 4)]
def p23 (fu : Nat) : (List (D_api_Record)) × (((Int) × ((ByteArray) × ((List (Int)) × ((Int) × ((Int) × (Unit)))))) × (Unit)) → Option (((Unit) × (Unit)) × (List (D_api_Record))) := fun ⟨a, ⟨c, f, h, i, j, _⟩, _⟩ =>
Option.bind (p35 fu ((c, f, h, i, j, ()), ())) fun ⟨_, ⟨_, k, l, m, n, _⟩⟩ =>
bif decide (List.length l = List.length l) then
 bif decide (List.length a = List.length a) then
 bif decide (List.length a + List.length ([(IntKind.wrap .u64 ((List.length a) : Int), k, l, m, n)]) ≤ maxLen ∧ (List.length a + List.length ([(IntKind.wrap .u64 ((List.length a) : Int), k, l, m, n)])) * 64 ≤ 140737488355328) then
 bif decide (List.length (a ++ [(IntKind.wrap .u64 ((List.length a) : Int), k, l, m, n)]) = List.length (a ++ [(IntKind.wrap .u64 ((List.length a) : Int), k, l, m, n)])) then
 some (((), ()), (a ++ [(IntKind.wrap .u64 ((List.length a) : Int), k, l, m, n)]))
 else none
 else none
 else none
else none
def e23 (fu : Nat) : Ent := ⟨23, (.cons (.own (.own (some [.int .u64, .str, .sl, .int .u64, .int .u64])) 27 T_api_Record_n) (.cons Y0 .nil)), (.cons .dead .nil), (.own (.own (some [.int .u64, .str, .sl, .int .u64, .int .u64])) 27 T_api_Record_n), p23 fu⟩
theorem g23 (fu : Nat) : (e23 fu).Good Try.prog := good_fx orders Try.func23 fu [(3, (.ent (e35 fu))), (12, (.ty T_api_Record_n)), (13, (.ty T_api_Record_n))] [] rs23 15 (l := [e35 fu]) ⟨g35 fu, trivial⟩
def rs8 : List RVx := [(.tmp 4), (.tmp 5), (.tmp 6)]
def p8 (fu : Nat) : (List (D_api_Record)) × (((Int) × ((ByteArray) × ((List (Int)) × ((Int) × ((Int) × (Unit)))))) × (Unit)) → Option ((Unit) × ((List (D_api_Record)) × ((Int) × ((Int) × (Unit))))) := fun ⟨a, ⟨c, f, h, i, j, _⟩, _⟩ =>
Option.bind (p14 fu (a, ())) fun ⟨_, k⟩ =>
bif !k then
 some ((), ([], (0 : Int), (1 : Int), ()))
else
 Option.bind (p22 fu ((c, f, h, i, j, ()), ())) fun ⟨_, l⟩ =>
 bif (l != (0 : Int)) then
 some ((), ([], (0 : Int), l, ()))
 else
 bif decide ((List.length a : Int) ≥ (4096 : Int)) then
 some ((), ([], (0 : Int), (143 : Int), ()))
 else
 Option.bind (p24 fu (a, ())) fun ⟨_, m⟩ =>
 bif decide (List.length m = List.length m) then
 Option.bind (p23 fu (m, (c, f, h, i, j, ()), ())) fun ⟨⟨_, _⟩, n⟩ =>
 bif decide (List.length n = List.length n) then
 some ((), (n, IntKind.wrap .u64 (List.length a : Int), (0 : Int), ()))
 else none
 else none
def e8 (fu : Nat) : Ent := ⟨8, (.cons (.hole (.sl .any T_api_Record)) (.cons Y0 .nil)), .nil, Y3, p8 fu⟩
theorem g8 (fu : Nat) : (e8 fu).Good Try.prog := good_fx orders Try.func8 fu [(5, (.ent (e14 fu))), (11, (.ent (e22 fu))), (26, (.ent (e24 fu))), (28, (.ent (e23 fu)))] [] rs8 26 (l := [e14 fu, e22 fu, e24 fu, e23 fu]) ⟨g14 fu, g22 fu, g24 fu, g23 fu, trivial⟩
def rs21 : List RVx := [(.tmp 2)]
def p21 (fu : Nat) : (ByteArray) × (Unit) → Option ((Unit) × (Bool)) := fun ⟨a, _⟩ =>
loopO (S := ((Int) × (Unit)) × (Unit)) fu (fun ⟨⟨c, _⟩, _⟩ =>
 bif decide (c < (List.length (numsOf a) : Int)) then
 bif decide ((0 : Int) ≤ c ∧ c < (List.length (numsOf a) : Int)) then
 bif decide (Int.toNat c < List.length (numsOf a)) then
 bif decide ((List.getD (numsOf a) (Int.toNat c) (dflt (.int .u8))) < (97 : Int)) then
 bif decide ((List.getD (numsOf a) (Int.toNat c) (dflt (.int .u8))) < (48 : Int)) then
 bif ((List.getD (numsOf a) (Int.toNat c) (dflt (.int .u8))) != (45 : Int)) then
 bif ((List.getD (numsOf a) (Int.toNat c) (dflt (.int .u8))) != (95 : Int)) then
 bif ((List.getD (numsOf a) (Int.toNat c) (dflt (.int .u8))) != (46 : Int)) then
 inrO (some ((), false))
 else
 some (.inl ((IntKind.wrap .i64 (c + (1 : Int)), ()), ()))
 else
 some (.inl ((IntKind.wrap .i64 (c + (1 : Int)), ()), ()))
 else
 some (.inl ((IntKind.wrap .i64 (c + (1 : Int)), ()), ()))
 else
 bif decide ((List.getD (numsOf a) (Int.toNat c) (dflt (.int .u8))) > (57 : Int)) then
 bif ((List.getD (numsOf a) (Int.toNat c) (dflt (.int .u8))) != (45 : Int)) then
 bif ((List.getD (numsOf a) (Int.toNat c) (dflt (.int .u8))) != (95 : Int)) then
 bif ((List.getD (numsOf a) (Int.toNat c) (dflt (.int .u8))) != (46 : Int)) then
 inrO (some ((), false))
 else
 some (.inl ((IntKind.wrap .i64 (c + (1 : Int)), ()), ()))
 else
 some (.inl ((IntKind.wrap .i64 (c + (1 : Int)), ()), ()))
 else
 some (.inl ((IntKind.wrap .i64 (c + (1 : Int)), ()), ()))
 else
 some (.inl ((IntKind.wrap .i64 (c + (1 : Int)), ()), ()))
 else
 bif decide ((List.getD (numsOf a) (Int.toNat c) (dflt (.int .u8))) > (122 : Int)) then
 bif decide ((List.getD (numsOf a) (Int.toNat c) (dflt (.int .u8))) < (48 : Int)) then
 bif ((List.getD (numsOf a) (Int.toNat c) (dflt (.int .u8))) != (45 : Int)) then
 bif ((List.getD (numsOf a) (Int.toNat c) (dflt (.int .u8))) != (95 : Int)) then
 bif ((List.getD (numsOf a) (Int.toNat c) (dflt (.int .u8))) != (46 : Int)) then
 inrO (some ((), false))
 else
 some (.inl ((IntKind.wrap .i64 (c + (1 : Int)), ()), ()))
 else
 some (.inl ((IntKind.wrap .i64 (c + (1 : Int)), ()), ()))
 else
 some (.inl ((IntKind.wrap .i64 (c + (1 : Int)), ()), ()))
 else
 bif decide ((List.getD (numsOf a) (Int.toNat c) (dflt (.int .u8))) > (57 : Int)) then
 bif ((List.getD (numsOf a) (Int.toNat c) (dflt (.int .u8))) != (45 : Int)) then
 bif ((List.getD (numsOf a) (Int.toNat c) (dflt (.int .u8))) != (95 : Int)) then
 bif ((List.getD (numsOf a) (Int.toNat c) (dflt (.int .u8))) != (46 : Int)) then
 inrO (some ((), false))
 else
 some (.inl ((IntKind.wrap .i64 (c + (1 : Int)), ()), ()))
 else
 some (.inl ((IntKind.wrap .i64 (c + (1 : Int)), ()), ()))
 else
 some (.inl ((IntKind.wrap .i64 (c + (1 : Int)), ()), ()))
 else
 some (.inl ((IntKind.wrap .i64 (c + (1 : Int)), ()), ()))
 else
 some (.inl ((IntKind.wrap .i64 (c + (1 : Int)), ()), ()))
 else none
 else none
 else
 inrO (bif decide ((ByteArray.size a : Int) ≥ (1 : Int)) then
 some ((), decide ((ByteArray.size a : Int) ≤ (32 : Int)))
 else
 some ((), false)))
 (((0 : Int), ()), ())
def e21 (fu : Nat) : Ent := ⟨21, (.cons (.hole .str) .nil), .nil, (.hole .bool), p21 fu⟩
theorem g21 (fu : Nat) : (e21 fu).Good Try.prog := good_fx orders Try.func21 fu [] [(3, ⟨[8], (.cons (.hole (.int .i64)) .nil), [], .nil, [0, 6, 7], []⟩)] rs21 47 (l := []) trivial
def rs5 : List RVx := [(.tmp 0)]
def p5 (fu : Nat) : Unit → Option ((Unit) × (Bool)) := fun _ =>
Option.bind (p8 fu ([], ((0 : Int), (⟨#[107]⟩ : ByteArray), ([] : List Int), (0 : Int), (0 : Int), ()), ())) fun ⟨_, ⟨a, c, f, _⟩⟩ =>
bif (f == (0 : Int)) then
 bif (c == (0 : Int)) then
 bif (((List.length a) : Int) == (1 : Int)) then
 bif decide ((0 : Int) ≤ 0 ∧ 0 < (List.length a : Int)) then
 bif decide (0 < List.length a) then
 bif ByteArray.toList (((List.getD a 0 (dflt T_api_Record)).2).1) == ByteArray.toList (⟨#[107]⟩ : ByteArray) then
 Option.bind (p21 fu ((⟨#[97, 45, 49]⟩ : ByteArray), ())) fun ⟨_, h⟩ =>
 some ((), h)
 else
 some ((), false)
 else none
 else none
 else
 some ((), false)
 else
 some ((), false)
else
 some ((), false)
def e5 (fu : Nat) : Ent := ⟨5, .nil, .nil, (.hole .bool), p5 fu⟩
theorem g5 (fu : Nat) : (e5 fu).Good Try.prog := good_fx orders Try.func5 fu [(2, (.ent (e8 fu))), (29, (.ent (e21 fu)))] [] rs5 31 (l := [e8 fu, e21 fu]) ⟨g8 fu, g21 fu, trivial⟩
def rs6 : List RVx := [(.tmp 4)]
def p6 (fu : Nat) : (List (D_api_Record)) × ((Int) × (Unit)) → Option ((Unit) × (List (D_api_Record))) := fun ⟨a, c, _⟩ =>
bif decide (0 = List.length ([] : List (D_api_Record))) then
 bif decide (List.length ([] : List (D_api_Record)) + List.length a ≤ maxLen ∧ (List.length ([] : List (D_api_Record)) + List.length a) * 64 ≤ 140737488355328) then
 bif decide (List.length (([] : List (D_api_Record)) ++ a) = List.length (([] : List (D_api_Record)) ++ a)) then
 loopO (S := ((List (D_api_Record)) × ((Int) × (Unit))) × (Unit)) fu (fun ⟨⟨f, h, _⟩, _⟩ =>
 bif decide (h < (Int.tmod (IntKind.wrap .i64 c) (4099 : Int))) then
 bif decide (((List.length f) : Int) < (4098 : Int)) then
 bif decide (List.length f = List.length f) then
 bif decide (List.length f + List.length ([(IntKind.wrap .u64 ((List.length f) : Int), (⟨#[107]⟩ : ByteArray), ([] : List Int), (9 : Int), IntKind.wrap .u64 h)]) ≤ maxLen ∧ (List.length f + List.length ([(IntKind.wrap .u64 ((List.length f) : Int), (⟨#[107]⟩ : ByteArray), ([] : List Int), (9 : Int), IntKind.wrap .u64 h)])) * 64 ≤ 140737488355328) then
 bif decide (List.length (f ++ [(IntKind.wrap .u64 ((List.length f) : Int), (⟨#[107]⟩ : ByteArray), ([] : List Int), (9 : Int), IntKind.wrap .u64 h)]) = List.length (f ++ [(IntKind.wrap .u64 ((List.length f) : Int), (⟨#[107]⟩ : ByteArray), ([] : List Int), (9 : Int), IntKind.wrap .u64 h)])) then
 some (.inl (((f ++ [(IntKind.wrap .u64 ((List.length f) : Int), (⟨#[107]⟩ : ByteArray), ([] : List Int), (9 : Int), IntKind.wrap .u64 h)]), IntKind.wrap .i64 (h + (1 : Int)), ()), ()))
 else none
 else none
 else none
 else
 inrO (bif decide (List.length f = List.length f) then
 some ((), f)
 else none)
 else
 inrO (bif decide (List.length f = List.length f) then
 some ((), f)
 else none))
 (((([] : List (D_api_Record)) ++ a), (0 : Int), ()), ())
 else none
 else none
else none
def e6 (fu : Nat) : Ent := ⟨6, (.cons (.hole (.sl .any T_api_Record)) (.cons (.hole (.int .u16)) .nil)), .nil, (.own (.own none) 27 T_api_Record), p6 fu⟩
theorem g6 (fu : Nat) : (e6 fu).Good Try.prog := good_fx orders Try.func6 fu [(1, (.ty T_api_Record)), (3, (.ty T_api_Record)), (25, (.ty T_api_Record)), (26, (.ty T_api_Record))] [(5, ⟨[5, 7], (.cons (.own (.own none) 27 T_api_Record) (.cons (.hole (.int .i64)) .nil)), [], .nil, [6], []⟩)] rs6 34 (l := []) trivial
def rs7 : List RVx := [(.tmp 2)]
def p7 (fu : Nat) : (List (D_api_Record)) × (Unit) → Option ((Unit) × (List (D_api_Record))) := fun ⟨a, _⟩ =>
bif decide ((0 : Int) ≤ 0 ∧ (0 : Int) ≤ IntKind.wrap .i64 ((List.length a : Int) + (1 : Int)) ∧ (IntKind.wrap .i64 ((List.length a : Int) + (1 : Int)) : Int) ≤ 9223372036854775807 ∧ (64 : Int) * (IntKind.wrap .i64 ((List.length a : Int) + (1 : Int))) ≤ 140737488355328) then
 bif decide (0 = List.length (List.replicate 0 ((0 : Int), (⟨#[]⟩ : ByteArray), [], (0 : Int), (0 : Int)) : List (D_api_Record))) then
 loopO (S := ((List (D_api_Record)) × ((Int) × (Unit))) × (Unit)) fu (fun ⟨⟨c, f, _⟩, _⟩ =>
 bif decide (f < (List.length a : Int)) then
 bif decide ((0 : Int) ≤ f ∧ f < (List.length a : Int)) then
 bif decide (Int.toNat f < List.length a) then
 bif decide (0 = List.length ([] : List (Int))) then
 bif decide (List.length ([] : List (Int)) + List.length ((((List.getD a (Int.toNat f) (dflt T_api_Record)).2).2).1) ≤ maxLen ∧ (List.length ([] : List (Int)) + List.length ((((List.getD a (Int.toNat f) (dflt T_api_Record)).2).2).1)) * 1 ≤ 140737488355328) then
 bif decide (List.length (([] : List (Int)) ++ (((List.getD a (Int.toNat f) (dflt T_api_Record)).2).2).1) = List.length (([] : List (Int)) ++ (((List.getD a (Int.toNat f) (dflt T_api_Record)).2).2).1)) then
 bif decide (List.length c = List.length c) then
 bif decide (List.length c + List.length ([((List.getD a (Int.toNat f) (dflt T_api_Record)).1, ((List.getD a (Int.toNat f) (dflt T_api_Record)).2).1, (([] : List (Int)) ++ (((List.getD a (Int.toNat f) (dflt T_api_Record)).2).2).1), ((((List.getD a (Int.toNat f) (dflt T_api_Record)).2).2).2).1, ((((List.getD a (Int.toNat f) (dflt T_api_Record)).2).2).2).2)]) ≤ maxLen ∧ (List.length c + List.length ([((List.getD a (Int.toNat f) (dflt T_api_Record)).1, ((List.getD a (Int.toNat f) (dflt T_api_Record)).2).1, (([] : List (Int)) ++ (((List.getD a (Int.toNat f) (dflt T_api_Record)).2).2).1), ((((List.getD a (Int.toNat f) (dflt T_api_Record)).2).2).2).1, ((((List.getD a (Int.toNat f) (dflt T_api_Record)).2).2).2).2)])) * 64 ≤ 140737488355328) then
 bif decide (List.length (c ++ [((List.getD a (Int.toNat f) (dflt T_api_Record)).1, ((List.getD a (Int.toNat f) (dflt T_api_Record)).2).1, (([] : List (Int)) ++ (((List.getD a (Int.toNat f) (dflt T_api_Record)).2).2).1), ((((List.getD a (Int.toNat f) (dflt T_api_Record)).2).2).2).1, ((((List.getD a (Int.toNat f) (dflt T_api_Record)).2).2).2).2)]) = List.length (c ++ [((List.getD a (Int.toNat f) (dflt T_api_Record)).1, ((List.getD a (Int.toNat f) (dflt T_api_Record)).2).1, (([] : List (Int)) ++ (((List.getD a (Int.toNat f) (dflt T_api_Record)).2).2).1), ((((List.getD a (Int.toNat f) (dflt T_api_Record)).2).2).2).1, ((((List.getD a (Int.toNat f) (dflt T_api_Record)).2).2).2).2)])) then
 some (.inl (((c ++ [((List.getD a (Int.toNat f) (dflt T_api_Record)).1, ((List.getD a (Int.toNat f) (dflt T_api_Record)).2).1, (([] : List (Int)) ++ (((List.getD a (Int.toNat f) (dflt T_api_Record)).2).2).1), ((((List.getD a (Int.toNat f) (dflt T_api_Record)).2).2).2).1, ((((List.getD a (Int.toNat f) (dflt T_api_Record)).2).2).2).2)]), IntKind.wrap .i64 (f + (1 : Int)), ()), ()))
 else none
 else none
 else none
 else none
 else none
 else none
 else none
 else none
 else
 inrO (bif decide (List.length c = List.length c) then
 some ((), c)
 else none))
 (((List.replicate 0 ((0 : Int), (⟨#[]⟩ : ByteArray), [], (0 : Int), (0 : Int)) : List (D_api_Record)), (0 : Int), ()), ())
 else none
else none
def e7 (fu : Nat) : Ent := ⟨7, (.cons (.hole (.sl .any T_api_Record)) .nil), .nil, (.own (.own (some [.int .u64, .str, .sl, .int .u64, .int .u64])) 27 T_api_Record_n), p7 fu⟩
theorem g7 (fu : Nat) : (e7 fu).Good Try.prog := good_fx orders Try.func7 fu [(4, (.ty T_api_Record_n)), (17, (.ty (.int .u8))), (20, (.ty (.int .u8))), (25, (.ty T_api_Record_n)), (26, (.ty T_api_Record_n))] [(4, ⟨[3, 4], (.cons (.own (.own (some [.int .u64, .str, .sl, .int .u64, .int .u64])) 27 T_api_Record_n) (.cons (.hole (.int .i64)) .nil)), [], .nil, [0], []⟩)] rs7 30 (l := []) trivial
def rs15 : List RVx := [(.tmp 2)]
def p15 (fu : Nat) : (List (D_api_Record)) × (Unit) → Option ((Unit) × (Bool)) := fun ⟨a, _⟩ =>
bif decide ((List.length a : Int) > (4096 : Int)) then
 some ((), false)
else
 loopO (S := ((Int) × (Unit)) × (Unit)) fu (fun ⟨⟨c, _⟩, _⟩ =>
 bif decide (c < (List.length a : Int)) then
 bif decide ((0 : Int) ≤ c ∧ c < (List.length a : Int)) then
 bif decide (Int.toNat c < List.length a) then
 bif (((List.getD a (Int.toNat c) (dflt T_api_Record)).1) != (IntKind.wrap .u64 c)) then
 inrO (some ((), false))
 else
 bif decide ((0 : Int) ≤ c ∧ c < (List.length a : Int)) then
 bif decide (Int.toNat c < List.length a) then
 bif decide ((ByteArray.size (((List.getD a (Int.toNat c) (dflt T_api_Record)).2).1) : Int) > (32 : Int)) then
 inrO (some ((), false))
 else
 bif decide ((0 : Int) ≤ c ∧ c < (List.length a : Int)) then
 bif decide (Int.toNat c < List.length a) then
 bif decide ((List.length ((((List.getD a (Int.toNat c) (dflt T_api_Record)).2).2).1) : Int) > (256 : Int)) then
 inrO (some ((), false))
 else
 some (.inl ((IntKind.wrap .i64 (c + (1 : Int)), ()), ()))
 else none
 else none
 else none
 else none
 else none
 else none
 else
 inrO (some ((), true)))
 (((0 : Int), ()), ())
def e15 (fu : Nat) : Ent := ⟨15, (.cons (.hole (.sl .any T_api_Record)) .nil), .nil, (.hole .bool), p15 fu⟩
theorem g15 (fu : Nat) : (e15 fu).Good Try.prog := good_fx orders Try.func15 fu [] [(6, ⟨[3], (.cons (.hole (.int .i64)) .nil), [], .nil, [0], []⟩)] rs15 39 (l := []) trivial
def rs25 : List RVx := [(.cell 4 true 5)]
def p25 (_ : Nat) : ((Int) × ((ByteArray) × ((List (Int)) × ((Int) × ((Int) × (Unit)))))) × ((Int) × (Unit)) → Option ((Unit) × ((Int) × ((ByteArray) × ((List (Int)) × ((Int) × ((Int) × (Unit))))))) := fun ⟨⟨_, a, c, f, h, _⟩, i, _⟩ =>
bif decide (0 = List.length ([] : List (Int))) then
 bif decide (List.length ([] : List (Int)) + List.length c ≤ maxLen ∧ (List.length ([] : List (Int)) + List.length c) * 1 ≤ 140737488355328) then
 bif decide (List.length (([] : List (Int)) ++ c) = List.length (([] : List (Int)) ++ c)) then
 some ((), (IntKind.wrap .u64 i, a, (([] : List (Int)) ++ c), f, h, ()))
 else none
 else none
else none
def e25 (fu : Nat) : Ent := ⟨25, (.cons Y0 (.cons (.hole (.int .i64)) .nil)), .nil, Y4, p25 fu⟩
theorem g25 (fu : Nat) : (e25 fu).Good Try.prog := good_fx orders Try.func25 fu [(6, (.ty (.int .u8))), (9, (.ty (.int .u8)))] [] rs25 14 (l := []) trivial
def rs9 : List RVx := [(.tmp 4), (.tmp 5), (.tmp 6)]
def p9 (fu : Nat) : (List (D_api_Record)) × (((Int) × ((ByteArray) × ((List (Int)) × ((Int) × ((Int) × (Unit)))))) × (Unit)) → Option ((Unit) × ((List (D_api_Record)) × ((Int) × ((Int) × (Unit))))) := fun ⟨a, ⟨c, f, h, i, j, _⟩, _⟩ =>
Option.bind (p15 fu (a, ())) fun ⟨_, k⟩ =>
bif !k then
 some ((), ([], (0 : Int), (1 : Int), ()))
else
 bif decide ((ByteArray.size f : Int) > (32 : Int)) then
 some ((), ([], (0 : Int), (131 : Int), ()))
 else
 bif decide ((List.length h : Int) > (256 : Int)) then
 some ((), ([], (0 : Int), (144 : Int), ()))
 else
 bif decide ((List.length a : Int) ≥ (4096 : Int)) then
 some ((), ([], (0 : Int), (143 : Int), ()))
 else
 bif decide (0 = List.length ([] : List (D_api_Record))) then
 bif decide (List.length ([] : List (D_api_Record)) + List.length a ≤ maxLen ∧ (List.length ([] : List (D_api_Record)) + List.length a) * 64 ≤ 140737488355328) then
 Option.bind (p25 fu ((c, f, h, i, j, ()), (List.length a : Int), ())) fun ⟨_, ⟨l, m, n, o, q, _⟩⟩ =>
 bif decide (List.length n = List.length n) then
 bif decide (List.length (([] : List (D_api_Record)) ++ a) = List.length (([] : List (D_api_Record)) ++ a)) then
 bif decide (List.length (([] : List (D_api_Record)) ++ a) + List.length ([(l, m, n, o, q)]) ≤ maxLen ∧ (List.length (([] : List (D_api_Record)) ++ a) + List.length ([(l, m, n, o, q)])) * 64 ≤ 140737488355328) then
 bif decide (List.length ((([] : List (D_api_Record)) ++ a) ++ [(l, m, n, o, q)]) = List.length ((([] : List (D_api_Record)) ++ a) ++ [(l, m, n, o, q)])) then
 some ((), (((([] : List (D_api_Record)) ++ a) ++ [(l, m, n, o, q)]), IntKind.wrap .u64 (List.length a : Int), (0 : Int), ()))
 else none
 else none
 else none
 else none
 else none
 else none
def e9 (fu : Nat) : Ent := ⟨9, (.cons (.hole (.sl .any T_api_Record)) (.cons Y0 .nil)), .nil, (.tup 3 (.cons (.own (.own none) 27 T_api_Record) (.cons (.hole (.int .u64)) (.cons (.hole (.int .i64)) .nil)))), p9 fu⟩
theorem g9 (fu : Nat) : (e9 fu).Good Try.prog := good_fx orders Try.func9 fu [(5, (.ent (e15 fu))), (36, (.ty T_api_Record)), (38, (.ty T_api_Record)), (44, (.ent (e25 fu))), (45, (.ty T_api_Record)), (46, (.ty T_api_Record))] [] rs9 41 (l := [e15 fu, e25 fu]) ⟨g15 fu, g25 fu, trivial⟩
def rs10 : List RVx := [(.tmp 4)]
def p10 (fu : Nat) : (List (D_api_Record)) × ((List (D_api_Record)) × (Unit)) → Option ((Unit) × (Bool)) := fun ⟨a, c, _⟩ =>
bif ((List.length a : Int) != (List.length c : Int)) then
 some ((), false)
else
 loopO (S := ((Int) × (Unit)) × (Unit)) fu (fun ⟨⟨f, _⟩, _⟩ =>
 bif decide (f < (List.length a : Int)) then
 bif decide ((0 : Int) ≤ f ∧ f < (List.length a : Int)) then
 bif decide (Int.toNat f < List.length a) then
 bif decide ((0 : Int) ≤ f ∧ f < (List.length c : Int)) then
 bif decide (Int.toNat f < List.length c) then
 bif (((List.getD a (Int.toNat f) (dflt T_api_Record)).1) != ((List.getD c (Int.toNat f) (dflt T_api_Record)).1)) then
 inrO (some ((), false))
 else
 bif decide ((0 : Int) ≤ f ∧ f < (List.length a : Int)) then
 bif decide (Int.toNat f < List.length a) then
 bif decide ((0 : Int) ≤ f ∧ f < (List.length c : Int)) then
 bif decide (Int.toNat f < List.length c) then
 bif !(ByteArray.toList (((List.getD a (Int.toNat f) (dflt T_api_Record)).2).1) == ByteArray.toList (((List.getD c (Int.toNat f) (dflt T_api_Record)).2).1)) then
 inrO (some ((), false))
 else
 bif decide ((0 : Int) ≤ f ∧ f < (List.length a : Int)) then
 bif decide (Int.toNat f < List.length a) then
 bif decide ((0 : Int) ≤ f ∧ f < (List.length c : Int)) then
 bif decide (Int.toNat f < List.length c) then
 bif !(ByteArray.toList (strOfNums ((((List.getD a (Int.toNat f) (dflt T_api_Record)).2).2).1)) == ByteArray.toList (strOfNums ((((List.getD c (Int.toNat f) (dflt T_api_Record)).2).2).1))) then
 inrO (some ((), false))
 else
 bif decide ((0 : Int) ≤ f ∧ f < (List.length a : Int)) then
 bif decide (Int.toNat f < List.length a) then
 bif decide ((0 : Int) ≤ f ∧ f < (List.length c : Int)) then
 bif decide (Int.toNat f < List.length c) then
 bif ((((((List.getD a (Int.toNat f) (dflt T_api_Record)).2).2).2).1) != (((((List.getD c (Int.toNat f) (dflt T_api_Record)).2).2).2).1)) then
 inrO (some ((), false))
 else
 bif decide ((0 : Int) ≤ f ∧ f < (List.length a : Int)) then
 bif decide (Int.toNat f < List.length a) then
 bif decide ((0 : Int) ≤ f ∧ f < (List.length c : Int)) then
 bif decide (Int.toNat f < List.length c) then
 bif ((((((List.getD a (Int.toNat f) (dflt T_api_Record)).2).2).2).2) != (((((List.getD c (Int.toNat f) (dflt T_api_Record)).2).2).2).2)) then
 inrO (some ((), false))
 else
 some (.inl ((IntKind.wrap .i64 (f + (1 : Int)), ()), ()))
 else none
 else none
 else none
 else none
 else none
 else none
 else none
 else none
 else none
 else none
 else none
 else none
 else none
 else none
 else none
 else none
 else none
 else none
 else none
 else none
 else
 inrO (some ((), true)))
 (((0 : Int), ()), ())
def e10 (fu : Nat) : Ent := ⟨10, (.cons (.hole (.sl .any T_api_Record)) (.cons (.hole (.sl .any T_api_Record)) .nil)), .nil, (.hole .bool), p10 fu⟩
theorem g10 (fu : Nat) : (e10 fu).Good Try.prog := good_fx orders Try.func10 fu [] [(6, ⟨[5], (.cons (.hole (.int .i64)) .nil), [], .nil, [0, 1], []⟩)] rs10 82 (l := []) trivial
def rs12 : List RVx := [(.tmp 6), (.tmp 7)]
def p12 (fu : Nat) : (List (D_api_Record)) × ((Int) × ((Int) × (Unit))) → Option ((Unit) × ((List (D_api_Record)) × ((Int) × (Unit)))) := fun ⟨a, c, f, _⟩ =>
Option.bind (p14 fu (a, ())) fun ⟨_, h⟩ =>
bif !h then
 some ((), ([], (1 : Int), ()))
else
 bif decide (c > (IntKind.wrap .u64 (List.length a : Int))) then
 some ((), ([], (141 : Int), ()))
 else
 bif decide ((0 : Int) ≤ c) then
 bif decide (Int.toNat c ≤ List.length a) then
 bif decide ((0 : Int) ≤ (if (List.length (slice' a (Int.toNat c) none) : Int) < (if (64 : Int) < (if (0 : Int) > f then (0 : Int) else f) then (64 : Int) else (if (0 : Int) > f then (0 : Int) else f)) then (List.length (slice' a (Int.toNat c) none) : Int) else (if (64 : Int) < (if (0 : Int) > f then (0 : Int) else f) then (64 : Int) else (if (0 : Int) > f then (0 : Int) else f)))) then
 bif decide (0 ≤ Int.toNat (if (List.length (slice' a (Int.toNat c) none) : Int) < (if (64 : Int) < (if (0 : Int) > f then (0 : Int) else f) then (64 : Int) else (if (0 : Int) > f then (0 : Int) else f)) then (List.length (slice' a (Int.toNat c) none) : Int) else (if (64 : Int) < (if (0 : Int) > f then (0 : Int) else f) then (64 : Int) else (if (0 : Int) > f then (0 : Int) else f))) ∧ Int.toNat (if (List.length (slice' a (Int.toNat c) none) : Int) < (if (64 : Int) < (if (0 : Int) > f then (0 : Int) else f) then (64 : Int) else (if (0 : Int) > f then (0 : Int) else f)) then (List.length (slice' a (Int.toNat c) none) : Int) else (if (64 : Int) < (if (0 : Int) > f then (0 : Int) else f) then (64 : Int) else (if (0 : Int) > f then (0 : Int) else f))) ≤ List.length (slice' a (Int.toNat c) none)) then
 Option.bind (p24 fu (List.take (Int.toNat (if (List.length (slice' a (Int.toNat c) none) : Int) < (if (64 : Int) < (if (0 : Int) > f then (0 : Int) else f) then (64 : Int) else (if (0 : Int) > f then (0 : Int) else f)) then (List.length (slice' a (Int.toNat c) none) : Int) else (if (64 : Int) < (if (0 : Int) > f then (0 : Int) else f) then (64 : Int) else (if (0 : Int) > f then (0 : Int) else f)))) (slice' a (Int.toNat c) none), ())) fun ⟨_, i⟩ =>
 bif decide (List.length i = List.length i) then
 some ((), (i, (0 : Int), ()))
 else none
 else none
 else none
 else none
 else none
def e12 (fu : Nat) : Ent := ⟨12, (.cons (.hole (.sl .any T_api_Record)) (.cons (.hole (.int .u64)) (.cons (.hole (.int .i64)) .nil))), .nil, Y5, p12 fu⟩
theorem g12 (fu : Nat) : (e12 fu).Good Try.prog := good_fx orders Try.func12 fu [(3, (.ent (e14 fu))), (25, (.ent (e24 fu)))] [] rs12 28 (l := [e14 fu, e24 fu]) ⟨g14 fu, g24 fu, trivial⟩
def rs13 : List RVx := [(.tmp 6), (.tmp 7)]
def p13 (fu : Nat) : (List (D_api_Record)) × ((Int) × ((Int) × (Unit))) → Option ((Unit) × ((List (D_api_Record)) × ((Int) × (Unit)))) := fun ⟨a, c, f, _⟩ =>
Option.bind (p15 fu (a, ())) fun ⟨_, h⟩ =>
bif !h then
 some ((), ([], (1 : Int), ()))
else
 bif decide (c > (IntKind.wrap .u64 (List.length a : Int))) then
 some ((), ([], (141 : Int), ()))
 else
 bif decide ((0 : Int) ≤ IntKind.wrap .i64 c) then
 bif decide ((0 : Int) ≤ IntKind.wrap .i64 ((IntKind.wrap .i64 c) + (if IntKind.wrap .i64 ((List.length a : Int) - (IntKind.wrap .i64 c)) < (if (64 : Int) < (if (0 : Int) > f then (0 : Int) else f) then (64 : Int) else (if (0 : Int) > f then (0 : Int) else f)) then IntKind.wrap .i64 ((List.length a : Int) - (IntKind.wrap .i64 c)) else (if (64 : Int) < (if (0 : Int) > f then (0 : Int) else f) then (64 : Int) else (if (0 : Int) > f then (0 : Int) else f))))) then
 bif decide (Int.toNat (IntKind.wrap .i64 c) ≤ Int.toNat (IntKind.wrap .i64 ((IntKind.wrap .i64 c) + (if IntKind.wrap .i64 ((List.length a : Int) - (IntKind.wrap .i64 c)) < (if (64 : Int) < (if (0 : Int) > f then (0 : Int) else f) then (64 : Int) else (if (0 : Int) > f then (0 : Int) else f)) then IntKind.wrap .i64 ((List.length a : Int) - (IntKind.wrap .i64 c)) else (if (64 : Int) < (if (0 : Int) > f then (0 : Int) else f) then (64 : Int) else (if (0 : Int) > f then (0 : Int) else f))))) ∧ Int.toNat (IntKind.wrap .i64 ((IntKind.wrap .i64 c) + (if IntKind.wrap .i64 ((List.length a : Int) - (IntKind.wrap .i64 c)) < (if (64 : Int) < (if (0 : Int) > f then (0 : Int) else f) then (64 : Int) else (if (0 : Int) > f then (0 : Int) else f)) then IntKind.wrap .i64 ((List.length a : Int) - (IntKind.wrap .i64 c)) else (if (64 : Int) < (if (0 : Int) > f then (0 : Int) else f) then (64 : Int) else (if (0 : Int) > f then (0 : Int) else f))))) ≤ List.length a) then
 bif decide (0 = List.length ([] : List (D_api_Record))) then
 bif decide (List.length ([] : List (D_api_Record)) + List.length (slice' a (Int.toNat (IntKind.wrap .i64 c)) (some (Int.toNat (IntKind.wrap .i64 ((IntKind.wrap .i64 c) + (if IntKind.wrap .i64 ((List.length a : Int) - (IntKind.wrap .i64 c)) < (if (64 : Int) < (if (0 : Int) > f then (0 : Int) else f) then (64 : Int) else (if (0 : Int) > f then (0 : Int) else f)) then IntKind.wrap .i64 ((List.length a : Int) - (IntKind.wrap .i64 c)) else (if (64 : Int) < (if (0 : Int) > f then (0 : Int) else f) then (64 : Int) else (if (0 : Int) > f then (0 : Int) else f)))))))) ≤ maxLen ∧ (List.length ([] : List (D_api_Record)) + List.length (slice' a (Int.toNat (IntKind.wrap .i64 c)) (some (Int.toNat (IntKind.wrap .i64 ((IntKind.wrap .i64 c) + (if IntKind.wrap .i64 ((List.length a : Int) - (IntKind.wrap .i64 c)) < (if (64 : Int) < (if (0 : Int) > f then (0 : Int) else f) then (64 : Int) else (if (0 : Int) > f then (0 : Int) else f)) then IntKind.wrap .i64 ((List.length a : Int) - (IntKind.wrap .i64 c)) else (if (64 : Int) < (if (0 : Int) > f then (0 : Int) else f) then (64 : Int) else (if (0 : Int) > f then (0 : Int) else f))))))))) * 64 ≤ 140737488355328) then
 bif decide (List.length (([] : List (D_api_Record)) ++ slice' a (Int.toNat (IntKind.wrap .i64 c)) (some (Int.toNat (IntKind.wrap .i64 ((IntKind.wrap .i64 c) + (if IntKind.wrap .i64 ((List.length a : Int) - (IntKind.wrap .i64 c)) < (if (64 : Int) < (if (0 : Int) > f then (0 : Int) else f) then (64 : Int) else (if (0 : Int) > f then (0 : Int) else f)) then IntKind.wrap .i64 ((List.length a : Int) - (IntKind.wrap .i64 c)) else (if (64 : Int) < (if (0 : Int) > f then (0 : Int) else f) then (64 : Int) else (if (0 : Int) > f then (0 : Int) else f)))))))) = List.length (([] : List (D_api_Record)) ++ slice' a (Int.toNat (IntKind.wrap .i64 c)) (some (Int.toNat (IntKind.wrap .i64 ((IntKind.wrap .i64 c) + (if IntKind.wrap .i64 ((List.length a : Int) - (IntKind.wrap .i64 c)) < (if (64 : Int) < (if (0 : Int) > f then (0 : Int) else f) then (64 : Int) else (if (0 : Int) > f then (0 : Int) else f)) then IntKind.wrap .i64 ((List.length a : Int) - (IntKind.wrap .i64 c)) else (if (64 : Int) < (if (0 : Int) > f then (0 : Int) else f) then (64 : Int) else (if (0 : Int) > f then (0 : Int) else f))))))))) then
 some ((), ((([] : List (D_api_Record)) ++ slice' a (Int.toNat (IntKind.wrap .i64 c)) (some (Int.toNat (IntKind.wrap .i64 ((IntKind.wrap .i64 c) + (if IntKind.wrap .i64 ((List.length a : Int) - (IntKind.wrap .i64 c)) < (if (64 : Int) < (if (0 : Int) > f then (0 : Int) else f) then (64 : Int) else (if (0 : Int) > f then (0 : Int) else f)) then IntKind.wrap .i64 ((List.length a : Int) - (IntKind.wrap .i64 c)) else (if (64 : Int) < (if (0 : Int) > f then (0 : Int) else f) then (64 : Int) else (if (0 : Int) > f then (0 : Int) else f)))))))), (0 : Int), ()))
 else none
 else none
 else none
 else none
 else none
 else none
def e13 (fu : Nat) : Ent := ⟨13, (.cons (.hole (.sl .any T_api_Record)) (.cons (.hole (.int .u64)) (.cons (.hole (.int .i64)) .nil))), .nil, (.tup 2 (.cons (.own (.own none) 27 T_api_Record) (.cons (.hole (.int .i64)) .nil))), p13 fu⟩
theorem g13 (fu : Nat) : (e13 fu).Good Try.prog := good_fx orders Try.func13 fu [(3, (.ent (e15 fu))), (25, (.ty T_api_Record)), (34, (.ty T_api_Record))] [] rs13 37 (l := [e15 fu]) ⟨g15 fu, trivial⟩
def rs3 : List RVx := [(.tmp 2)]
def p3 (fu : Nat) : (Z6) × (Unit) → Option ((Unit) × (Bool)) := fun ⟨⟨a, c, f, h, i, j, k, l, m, _⟩, _⟩ =>
Option.bind (p5 fu ()) fun ⟨_, n⟩ =>
Option.bind (p6 fu (a, c, ())) fun ⟨_, o⟩ =>
orK (E := ((List (D_api_Record)) × ((List (D_api_Record)) × (Unit))) × (Unit))
 (bif decide (List.length o = List.length o) then
 Option.bind (p7 fu (o, ())) fun ⟨_, q⟩ =>
 bif decide (List.length o = List.length o) then
 bif decide (List.length q = List.length q) then
 some (.inl ((o, q, ()), ()))
 else none
 else none
 else none)
 fun ⟨⟨s, t, _⟩, _⟩ =>
Option.bind (p8 fu (t, (f, h, i, j, k, ()), ())) fun ⟨_, ⟨u, w, x, _⟩⟩ =>
Option.bind (p9 fu (s, (f, h, i, j, k, ()), ())) fun ⟨_, ⟨y, z, a0, _⟩⟩ =>
bif decide (List.length u = List.length u) then
 bif decide (List.length y = List.length y) then
 Option.bind (p10 fu (u, y, ())) fun ⟨_, c0⟩ =>
 bif decide (List.length u = List.length u) then
 bif spP u then
 Option.bind (p12 fu (t, l, m, ())) fun ⟨_, ⟨f0, h0, _⟩⟩ =>
 Option.bind (p13 fu (s, l, m, ())) fun ⟨_, ⟨i0, j0, _⟩⟩ =>
 bif decide (List.length f0 = List.length f0) then
 bif decide (List.length i0 = List.length i0) then
 Option.bind (p10 fu (f0, i0, ())) fun ⟨_, k0⟩ =>
 bif decide (List.length f0 = List.length f0) then
 bif spP f0 then
 Option.bind (p10 fu (t, s, ())) fun ⟨_, l0⟩ =>
 bif n then
 bif c0 then
 bif k0 then
 bif l0 then
 bif (w == z) then
 bif (x == a0) then
 bif (h0 == j0) then
 Option.bind (p14 fu (t, ())) fun ⟨_, m0⟩ =>
 Option.bind (p15 fu (s, ())) fun ⟨_, n0⟩ =>
 some ((), m0 == n0)
 else
 some ((), false)
 else
 some ((), false)
 else
 some ((), false)
 else
 some ((), false)
 else
 some ((), false)
 else
 some ((), false)
 else
 some ((), false)
 else none
 else none
 else none
 else none
 else none
 else none
 else none
else none
def e3 (fu : Nat) : Ent := ⟨3, (.cons Y7 .nil), .nil, (.hole .bool), p3 fu⟩
theorem g3 (fu : Nat) : (e3 fu).Good Try.prog := good_fz orders Try.func3 fu [(2, (.ent (e5 fu))), (8, (.ent (e6 fu))), (11, (.ent (e7 fu))), (16, (.ent (e8 fu))), (27, (.ent (e9 fu))), (37, (.ent (e10 fu))), (40, (.spo (sSpo fu))), (46, (.ent (e12 fu))), (57, (.ent (e13 fu))), (65, (.ent (e10 fu))), (68, (.spo (sSpo fu))), (71, (.ent (e10 fu))), (100, (.ent (e14 fu))), (102, (.ent (e15 fu)))] [(3, ⟨[4, 5], (.cons (.hole (.sl .new T_api_Record)) (.cons (.hole (.sl .new T_api_Record_n)) .nil)), [], .nil, [1, 3], [0]⟩)] [(3, .zone)] rs3 106 (l := [e5 fu, e6 fu, e7 fu, e8 fu, e9 fu, e10 fu, e12 fu, e13 fu, e10 fu, e10 fu, e14 fu, e15 fu]) ⟨g5 fu, g6 fu, g7 fu, g8 fu, g9 fu, g10 fu, g12 fu, g13 fu, g10 fu, g10 fu, g14 fu, g15 fu, trivial⟩ (ls := [sSpo fu, sSpo fu]) ⟨gSpo fu, gSpo fu, trivial⟩
end Go.Proofs.Ytlmnhbobgfpanaa
