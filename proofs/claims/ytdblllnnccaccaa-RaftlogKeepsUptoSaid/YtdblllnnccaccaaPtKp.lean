/-
  The functions, typed.
-/
import Derived.Test.YtdblllnnccaccaaCfE
import Derived.Test.YtdblllnnccaccaaDaN
import Derived.Test.YtdblllnnccaccaaRows
namespace Go.Proofs.Ytdblllnnccaccaa
set_option maxRecDepth 1000000
open Go.RowKit
abbrev T_api_Conf : Tp := (.pair (.sl .any (.int .i64)) (.sl .any (.int .i64)))
abbrev D_api_Conf := (List (Int)) × (List (Int))
abbrev D_api_Snap := (Int) × ((Int) × ((D_api_Conf) × (List (Int))))
abbrev T_api_Entry : Tp := (.pair (.int .u64) (.pair (.int .u64) (.pair (.int .i64) (.pair (.sl .any (.int .u8)) T_api_Conf))))
abbrev D_api_Entry := (Int) × ((Int) × ((Int) × ((List (Int)) × (D_api_Conf))))
abbrev D_api_Log := (D_api_Snap) × (List (D_api_Entry))
theorem orders : Try.prog.follows .mixedOrders = true := by kernel_rfl
abbrev Y0 : Sh := (.agg 6 (.cons (.hole (.int .u64)) (.cons (.hole (.int .u64)) (.cons (.hole (.sl .any (.int .i64))) (.cons (.hole (.sl .any (.int .i64))) (.cons (.hole (.sl .any (.int .u8))) (.cons (.own .own 51 T_api_Entry) .nil)))))))
abbrev Z1 : Type := (Int) × ((Int) × ((List (Int)) × ((List (Int)) × ((List (Int)) × ((List (D_api_Entry)) × (Unit))))))
abbrev Y2 : Sh := (.agg 6 (.cons (.hole (.int .u64)) (.cons (.hole (.int .u64)) (.cons (.hole (.sl .any (.int .i64))) (.cons (.hole (.sl .any (.int .i64))) (.cons (.hole (.sl .any (.int .u8))) (.cons (.hole (.sl .any T_api_Entry)) .nil)))))))
abbrev Y3 : Sh := (.box 31 6 (.cons (.hole (.int .u64)) (.cons (.hole (.int .u64)) (.cons (.hole (.sl .any (.int .i64))) (.cons (.hole (.sl .any (.int .i64))) (.cons (.hole (.sl .any (.int .u8))) (.cons (.hole (.sl .any T_api_Entry)) .nil)))))))
abbrev Z4 : Type := (Int) × ((Int) × ((Int) × ((List (Int)) × ((List (Int)) × ((List (Int)) × (Unit))))))
abbrev Y5 : Sh := (.agg 6 (.cons (.hole (.int .u64)) (.cons (.hole (.int .u64)) (.cons (.hole (.int .i64)) (.cons (.hole (.sl .any (.int .u8))) (.cons (.hole (.sl .any (.int .i64))) (.cons (.hole (.sl .any (.int .i64))) .nil)))))))
abbrev Y6 : Sh := (.agg 5 (.cons (.hole (.int .u64)) (.cons (.hole (.int .u64)) (.cons (.hole (.sl .any (.int .i64))) (.cons (.hole (.sl .any (.int .i64))) (.cons (.hole (.sl .any (.int .u8))) .nil))))))
abbrev Y7 : Sh := (.agg 5 (.cons (.hole (.int .u64)) (.cons (.hole (.int .u64)) (.cons (.own .own 3 (.int .i64)) (.cons (.own .own 3 (.int .i64)) (.cons (.own .own 5 (.int .u8)) .nil))))))
abbrev Y8 : Sh := (.agg 6 (.cons (.hole (.int .u64)) (.cons (.hole (.int .u64)) (.cons (.hole (.int .i64)) (.cons (.hole (.sl .new (.int .u8))) (.cons (.own .own 3 (.int .i64)) (.cons (.own .own 3 (.int .i64)) .nil)))))))
abbrev Y9 : Sh := (.agg 6 (.cons (.hole (.int .u64)) (.cons (.hole (.int .u64)) (.cons (.own .own 3 (.int .i64)) (.cons (.own .own 3 (.int .i64)) (.cons (.own .own 5 (.int .u8)) (.cons (.own .own 51 T_api_Entry) .nil)))))))
abbrev Z10 : Type := (Int) × ((Int) × ((List (Int)) × ((List (Int)) × ((List (Int)) × ((List (D_api_Entry)) × ((Int) × ((Int) × ((Int) × ((List (D_api_Entry)) × (Unit))))))))))
abbrev Y11 : Sh := (.agg 10 (.cons (.hole (.int .u64)) (.cons (.hole (.int .u64)) (.cons (.hole (.sl .any (.int .i64))) (.cons (.hole (.sl .any (.int .i64))) (.cons (.hole (.sl .any (.int .u8))) (.cons (.hole (.sl .any T_api_Entry)) (.cons (.hole (.int .u64)) (.cons (.hole (.int .u64)) (.cons (.hole (.int .u64)) (.cons (.hole (.sl .any T_api_Entry)) .nil)))))))))))
def rs25 : List RVx := [(.cell 0 true 6)]
def p25 (_ : Nat) : Unit → Option ((Unit) × ((Int) × ((Int) × ((List (Int)) × ((List (Int)) × ((List (Int)) × ((List (D_api_Entry)) × (Unit)))))))) := fun _ =>
some ((), ((2 : Int), (1 : Int), [], [], [], [((3 : Int), (1 : Int), (2 : Int), [], [], []), ((4 : Int), (2 : Int), (2 : Int), [], [], [])], ()))
def e25 (fu : Nat) : Ent := ⟨25, .nil, .nil, Y0, p25 fu⟩
theorem g25 (fu : Nat) : (e25 fu).Good Try.prog := good_fx orders Try.func25 fu [(4, (.ty T_api_Entry))] [] rs25 6 (l := []) trivial
def rs22 : List RVx := [(.tmp 2), (.tmp 3)]
def p22 (_ : Nat) : (Z1) × (Unit) → Option ((Unit) × ((Int) × ((Int) × (Unit)))) := fun ⟨⟨a, c, _, _, _, f, _⟩, _⟩ =>
bif decide ((List.length f : Int) > (0 : Int)) then
 bif decide ((0 : Int) ≤ IntKind.wrap .i64 ((List.length f : Int) - (1 : Int)) ∧ IntKind.wrap .i64 ((List.length f : Int) - (1 : Int)) < (List.length f : Int)) then
 bif decide (Int.toNat (IntKind.wrap .i64 ((List.length f : Int) - (1 : Int))) < List.length f) then
 bif decide ((0 : Int) ≤ IntKind.wrap .i64 ((List.length f : Int) - (1 : Int)) ∧ IntKind.wrap .i64 ((List.length f : Int) - (1 : Int)) < (List.length f : Int)) then
 bif decide (Int.toNat (IntKind.wrap .i64 ((List.length f : Int) - (1 : Int))) < List.length f) then
 some ((), ((List.getD f (Int.toNat (IntKind.wrap .i64 ((List.length f : Int) - (1 : Int)))) (dflt T_api_Entry)).1, ((List.getD f (Int.toNat (IntKind.wrap .i64 ((List.length f : Int) - (1 : Int)))) (dflt T_api_Entry)).2).1, ()))
 else none
 else none
 else none
 else none
else
 some ((), (a, c, ()))
def e22 (fu : Nat) : Ent := ⟨22, (.cons Y2 .nil), .nil, (.tup 2 (.cons (.hole (.int .u64)) (.cons (.hole (.int .u64)) .nil))), p22 fu⟩
theorem g22 (fu : Nat) : (e22 fu).Good Try.prog := good_fx orders Try.func22 fu [] [] rs22 30 (l := []) trivial
def rs49 : List RVx := [(.tmp 4)]
def p49 (_ : Nat) : (Int) × ((Z1) × (((Int) × (Unit)) × (Unit))) → Option ((Unit) × (Bool)) := fun ⟨a, ⟨_, _, _, _, _, c, _⟩, ⟨f, _⟩, _⟩ =>
bif decide ((0 : Int) ≤ a ∧ a < (List.length c : Int)) then
 bif decide (Int.toNat a < List.length c) then
 some ((), decide (((List.getD c (Int.toNat a) (dflt T_api_Entry)).1) ≥ f))
 else none
else none
def e49 (fu : Nat) : Ent := ⟨49, (.cons (.hole (.int .i64)) (.cons (.look (.cons (.hole (.int .u64)) (.cons (.hole (.int .u64)) (.cons (.hole (.sl .any (.int .i64))) (.cons (.hole (.sl .any (.int .i64))) (.cons (.hole (.sl .any (.int .u8))) (.cons (.hole (.sl .any T_api_Entry)) .nil))))))) (.cons (.look (.cons (.hole (.int .u64)) .nil)) .nil))), .nil, (.hole .bool), p49 fu⟩
theorem g49 (fu : Nat) : (e49 fu).Good Try.prog := good_fx orders Try.func49 fu [] [] rs49 13 (l := []) trivial
def rs48 : List RVx := [(.tmp 4)]
def p48 (fu : Nat) : (Int) × (((Unit) × ((Z1) × (((Int) × (Unit)) × (Unit)))) × (Unit)) → Option (((Z1) × (((Int) × (Unit)) × (Unit))) × (Int)) := fun ⟨a, ⟨_, ⟨⟨c, f, h, i, j, k, _⟩, ⟨l, _⟩, _⟩⟩, _⟩ =>
loopO (S := ((Int) × ((Int) × (Unit))) × (Unit)) fu (fun ⟨⟨m, n, _⟩, _⟩ =>
 bif decide (m < n) then
 Option.bind (p49 fu (IntKind.wrap .i64 (Int.fdiv (IntKind.wrap .u64 (IntKind.wrap .i64 (m + n))) (2 ^ (min (Int.toNat (1 : Int)) (IntKind.bits .u64)))), (c, f, h, i, j, k, ()), (l, ()), ())) fun ⟨_, o⟩ =>
 bif !o then
 some (.inl ((IntKind.wrap .i64 ((IntKind.wrap .i64 (Int.fdiv (IntKind.wrap .u64 (IntKind.wrap .i64 (m + n))) (2 ^ (min (Int.toNat (1 : Int)) (IntKind.bits .u64))))) + (1 : Int)), n, ()), ()))
 else
 some (.inl ((m, IntKind.wrap .i64 (Int.fdiv (IntKind.wrap .u64 (IntKind.wrap .i64 (m + n))) (2 ^ (min (Int.toNat (1 : Int)) (IntKind.bits .u64)))), ()), ()))
 else
 inrO (some (((c, f, h, i, j, k, ()), (l, ()), ()), m)))
 (((0 : Int), a, ()), ())
def e48 (fu : Nat) : Ent := ⟨48, (.cons (.hole (.int .i64)) (.cons (.clo 49 0 .nil 2 (.cons Y3 (.cons (.box 22 1 (.cons (.hole (.int .u64)) .nil)) .nil))) .nil)), (.cons Y2 (.cons (.agg 1 (.cons (.hole (.int .u64)) .nil)) .nil)), (.hole (.int .i64)), p48 fu⟩
theorem g48 (fu : Nat) : (e48 fu).Good Try.prog := good_fx orders Try.func48 fu [(16, (.ent (e49 fu)))] [(3, ⟨[5, 6], (.cons (.hole (.int .i64)) (.cons (.hole (.int .i64)) .nil)), [], .nil, [1], [0, 1]⟩)] rs48 26 (l := [e49 fu]) ⟨g49 fu, trivial⟩
def rs29 : List RVx := [(.tmp 4)]
def p29 (fu : Nat) : (Z1) × ((Int) × (Unit)) → Option ((Unit) × (Int)) := fun ⟨⟨a, c, f, h, i, j, _⟩, k, _⟩ =>
Option.bind (p48 fu ((List.length j : Int), ((), ((a, c, f, h, i, j, ()), (k, ()), ())), ())) fun ⟨⟨⟨_, _, _, _, _, _, _⟩, ⟨_, _⟩, _⟩, l⟩ =>
some ((), l)
def e29 (fu : Nat) : Ent := ⟨29, (.cons Y2 (.cons (.hole (.int .u64)) .nil)), .nil, (.hole (.int .i64)), p29 fu⟩
theorem g29 (fu : Nat) : (e29 fu).Good Try.prog := good_fx orders Try.func29 fu [(7, (.ent (e48 fu)))] [] rs29 10 (l := [e48 fu]) ⟨g48 fu, trivial⟩
def rs21 : List RVx := [(.tmp 4), (.tmp 5)]
def p21 (fu : Nat) : (Z1) × ((Int) × (Unit)) → Option ((Unit) × ((Int) × ((Bool) × (Unit)))) := fun ⟨⟨a, c, f, h, i, j, _⟩, k, _⟩ =>
bif (k == a) then
 some ((), (c, true, ()))
else
 Option.bind (p29 fu ((a, c, f, h, i, j, ()), k, ())) fun ⟨_, l⟩ =>
 orK (E := ((Bool) × (Unit)) × (Unit))
 (bif decide (l < (List.length j : Int)) then
 bif decide ((0 : Int) ≤ l ∧ l < (List.length j : Int)) then
 bif decide (Int.toNat l < List.length j) then
 some (.inl (((((List.getD j (Int.toNat l) (dflt T_api_Entry)).1) == k), ()), ()))
 else none
 else none
 else
 some (.inl ((false, ()), ())))
 fun ⟨⟨m, _⟩, _⟩ =>
 bif m then
 bif decide ((0 : Int) ≤ l ∧ l < (List.length j : Int)) then
 bif decide (Int.toNat l < List.length j) then
 some ((), (((List.getD j (Int.toNat l) (dflt T_api_Entry)).2).1, true, ()))
 else none
 else none
 else
 some ((), ((0 : Int), false, ()))
def e21 (fu : Nat) : Ent := ⟨21, (.cons Y2 (.cons (.hole (.int .u64)) .nil)), .nil, (.tup 2 (.cons (.hole (.int .u64)) (.cons (.hole .bool) .nil))), p21 fu⟩
theorem g21 (fu : Nat) : (e21 fu).Good Try.prog := good_fx orders Try.func21 fu [(15, (.ent (e29 fu)))] [(6, ⟨[32], (.cons (.hole .bool) .nil), [], .nil, [2, 6], [0]⟩)] rs21 39 (l := [e29 fu]) ⟨g29 fu, trivial⟩
def rs55 : List RVx := [(.tmp 2)]
def p55 (_ : Nat) : (Z4) × (Unit) → Option ((Unit) × (Bool)) := fun ⟨⟨_, _, a, c, f, h, _⟩, _⟩ =>
bif (a == (2 : Int)) then
 some ((), ((IntKind.wrap .i64 ((List.length f : Int) + (List.length h : Int))) == (0 : Int)))
else
 bif (a == (1 : Int)) then
 some ((), ((IntKind.wrap .i64 ((IntKind.wrap .i64 ((List.length c : Int) + (List.length f : Int))) + (List.length h : Int))) == (0 : Int)))
 else
 bif (a == (3 : Int)) then
 some ((), ((List.length c : Int) == (0 : Int)))
 else
 some ((), false)
def e55 (fu : Nat) : Ent := ⟨55, (.cons Y5 .nil), .nil, (.hole .bool), p55 fu⟩
theorem g55 (fu : Nat) : (e55 fu).Good Try.prog := good_fx orders Try.func55 fu [] [] rs55 39 (l := []) trivial
def rs39 : List RVx := [(.tmp 6)]
def p39 (fu : Nat) : (Int) × ((Int) × ((List (D_api_Entry)) × (Unit))) → Option ((Unit) × (Bool)) := fun ⟨a, c, f, _⟩ =>
bif decide (a ≥ (4611686018427387904 : Int)) then
 some ((), false)
else
 bif decide ((IntKind.wrap .u64 (List.length f : Int)) ≥ (IntKind.wrap .u64 ((4611686018427387904 : Int) - a))) then
 some ((), false)
 else
 loopO (S := ((Int) × ((Int) × ((Int) × (Unit)))) × (Unit)) fu (fun ⟨⟨h, i, j, _⟩, _⟩ =>
 bif decide (j < (List.length f : Int)) then
 bif decide ((0 : Int) ≤ j ∧ j < (List.length f : Int)) then
 bif decide (Int.toNat j < List.length f) then
 bif (((List.getD f (Int.toNat j) (dflt T_api_Entry)).1) != (IntKind.wrap .u64 (h + (1 : Int)))) then
 inrO (some ((), false))
 else
 bif decide ((((List.getD f (Int.toNat j) (dflt T_api_Entry)).2).1) < i) then
 inrO (some ((), false))
 else
 Option.bind (p55 fu (((List.getD f (Int.toNat j) (dflt T_api_Entry)).1, ((List.getD f (Int.toNat j) (dflt T_api_Entry)).2).1, (((List.getD f (Int.toNat j) (dflt T_api_Entry)).2).2).1, ((((List.getD f (Int.toNat j) (dflt T_api_Entry)).2).2).2).1, (((((List.getD f (Int.toNat j) (dflt T_api_Entry)).2).2).2).2).1, (((((List.getD f (Int.toNat j) (dflt T_api_Entry)).2).2).2).2).2, ()), ())) fun ⟨_, k⟩ =>
 bif !k then
 inrO (some ((), false))
 else
 some (.inl ((IntKind.wrap .u64 (h + (1 : Int)), ((List.getD f (Int.toNat j) (dflt T_api_Entry)).2).1, IntKind.wrap .i64 (j + (1 : Int)), ()), ()))
 else none
 else none
 else
 inrO (some ((), true)))
 ((a, c, (0 : Int), ()), ())
def e39 (fu : Nat) : Ent := ⟨39, (.cons (.hole (.int .u64)) (.cons (.hole (.int .u64)) (.cons (.hole (.sl .any T_api_Entry)) .nil))), .nil, (.hole .bool), p39 fu⟩
theorem g39 (fu : Nat) : (e39 fu).Good Try.prog := good_fx orders Try.func39 fu [(35, (.ent (e55 fu)))] [(6, ⟨[0, 1, 21], (.cons (.hole (.int .u64)) (.cons (.hole (.int .u64)) (.cons (.hole (.int .i64)) .nil))), [], .nil, [19, 20], []⟩)] rs39 45 (l := [e55 fu]) ⟨g55 fu, trivial⟩
def rs20 : List RVx := [(.tmp 2)]
def p20 (fu : Nat) : (Z1) × (Unit) → Option ((Unit) × (Bool)) := fun ⟨⟨a, c, _, _, _, f, _⟩, _⟩ =>
Option.bind (p39 fu (a, c, f, ())) fun ⟨_, h⟩ =>
some ((), h)
def e20 (fu : Nat) : Ent := ⟨20, (.cons Y2 .nil), .nil, (.hole .bool), p20 fu⟩
theorem g20 (fu : Nat) : (e20 fu).Good Try.prog := good_fx orders Try.func20 fu [(10, (.ent (e39 fu)))] [] rs20 12 (l := [e39 fu]) ⟨g39 fu, trivial⟩
def rs26 : List RVx := [(.tmp 6)]
def p26 (fu : Nat) : (Z1) × ((Int) × ((Int) × (Unit))) → Option ((Unit) × (Bool)) := fun ⟨⟨a, c, f, h, i, j, _⟩, k, l, _⟩ =>
Option.bind (p22 fu ((a, c, f, h, i, j, ()), ())) fun ⟨_, ⟨m, n, _⟩⟩ =>
bif decide (l > n) then
 some ((), true)
else
 bif (l == n) then
 some ((), decide (k ≥ m))
 else
 some ((), false)
def e26 (fu : Nat) : Ent := ⟨26, (.cons Y2 (.cons (.hole (.int .u64)) (.cons (.hole (.int .u64)) .nil))), .nil, (.hole .bool), p26 fu⟩
theorem g26 (fu : Nat) : (e26 fu).Good Try.prog := good_fx orders Try.func26 fu [(3, (.ent (e22 fu)))] [] rs26 27 (l := [e22 fu]) ⟨g22 fu, trivial⟩
def rs9 : List RVx := [(.tmp 0)]
def p9 (fu : Nat) : Unit → Option ((Unit) × (Bool)) := fun _ =>
Option.bind (p25 fu ()) fun ⟨_, ⟨a, c, f, h, i, j, _⟩⟩ =>
bif decide (List.length j = List.length j) then
 Option.bind (p22 fu ((a, c, f, h, i, j, ()), ())) fun ⟨_, ⟨k, l, _⟩⟩ =>
 Option.bind (p25 fu ()) fun ⟨_, ⟨m, n, o, q, s, t, _⟩⟩ =>
 bif decide (List.length t = List.length t) then
 Option.bind (p21 fu ((m, n, o, q, s, t, ()), (2 : Int), ())) fun ⟨_, ⟨u, w, _⟩⟩ =>
 bif (k == (4 : Int)) then
 bif (l == (2 : Int)) then
 bif (u == (1 : Int)) then
 bif w then
 Option.bind (p25 fu ()) fun ⟨_, ⟨x, y, z, a0, c0, f0, _⟩⟩ =>
 bif decide (List.length f0 = List.length f0) then
 Option.bind (p20 fu ((x, y, z, a0, c0, f0, ()), ())) fun ⟨_, h0⟩ =>
 bif h0 then
 Option.bind (p25 fu ()) fun ⟨_, ⟨i0, j0, k0, l0, m0, n0, _⟩⟩ =>
 bif decide (List.length n0 = List.length n0) then
 Option.bind (p26 fu ((i0, j0, k0, l0, m0, n0, ()), (9 : Int), (1 : Int), ())) fun ⟨_, o0⟩ =>
 some ((), o0 == false)
 else none
 else
 some ((), false)
 else none
 else
 some ((), false)
 else
 some ((), false)
 else
 some ((), false)
 else
 some ((), false)
 else none
else none
def e9 (fu : Nat) : Ent := ⟨9, .nil, .nil, (.hole .bool), p9 fu⟩
theorem g9 (fu : Nat) : (e9 fu).Good Try.prog := good_fx orders Try.func9 fu [(1, (.ent (e25 fu))), (2, (.ent (e22 fu))), (8, (.ent (e25 fu))), (9, (.ent (e21 fu))), (29, (.ent (e25 fu))), (30, (.ent (e20 fu))), (33, (.ent (e25 fu))), (34, (.ent (e26 fu)))] [] rs9 37 (l := [e25 fu, e22 fu, e25 fu, e21 fu, e25 fu, e20 fu, e25 fu, e26 fu]) ⟨g25 fu, g22 fu, g25 fu, g21 fu, g25 fu, g20 fu, g25 fu, g26 fu, trivial⟩
def rs54 : List RVx := [(.tmp 6)]
def p54 (_ : Nat) : (Z4) × ((Int) × ((Int) × (Unit))) → Option ((Unit) × (Bool)) := fun ⟨⟨a, c, f, h, i, j, _⟩, k, l, _⟩ =>
bif (a != k) then
 some ((), false)
else
 bif decide (c < l) then
 some ((), false)
 else
 bif decide (c ≥ (4611686018427387904 : Int)) then
 some ((), false)
 else
 orK (E := ((Bool) × (Unit)) × (Unit))
 (bif ((List.length i : Int) == (0 : Int)) then
 some (.inl ((((List.length j : Int) == (0 : Int)), ()), ()))
 else
 some (.inl ((false, ()), ())))
 fun ⟨⟨m, _⟩, _⟩ =>
 bif (f == (1 : Int)) then
 bif m then
 some ((), ((List.length h : Int) == (0 : Int)))
 else
 some ((), false)
 else
 bif (f == (2 : Int)) then
 some ((), m)
 else
 bif (f == (3 : Int)) then
 some ((), ((List.length h : Int) == (0 : Int)))
 else
 some ((), false)
def e54 (fu : Nat) : Ent := ⟨54, (.cons Y5 (.cons (.hole (.int .u64)) (.cons (.hole (.int .u64)) .nil))), .nil, (.hole .bool), p54 fu⟩
theorem g54 (fu : Nat) : (e54 fu).Good Try.prog := good_fx orders Try.func54 fu [] [(4, ⟨[7], (.cons (.hole .bool) .nil), [], .nil, [3], [0]⟩)] rs54 55 (l := []) trivial
def rs31 : List RVx := [(.tmp 6)]
def p31 (fu : Nat) : (Int) × ((Int) × ((List (D_api_Entry)) × (Unit))) → Option ((Unit) × (Bool)) := fun ⟨a, c, f, _⟩ =>
bif decide (a ≥ (4611686018427387904 : Int)) then
 some ((), false)
else
 bif decide ((IntKind.wrap .u64 (List.length f : Int)) ≥ (IntKind.wrap .u64 ((4611686018427387904 : Int) - a))) then
 some ((), false)
 else
 loopO (S := ((Int) × ((Int) × (Unit))) × (Unit)) fu (fun ⟨⟨h, i, _⟩, _⟩ =>
 bif decide (i < (List.length f : Int)) then
 bif decide ((0 : Int) ≤ i ∧ i < (List.length f : Int)) then
 bif decide (Int.toNat i < List.length f) then
 Option.bind (p54 fu (((List.getD f (Int.toNat i) (dflt T_api_Entry)).1, ((List.getD f (Int.toNat i) (dflt T_api_Entry)).2).1, (((List.getD f (Int.toNat i) (dflt T_api_Entry)).2).2).1, ((((List.getD f (Int.toNat i) (dflt T_api_Entry)).2).2).2).1, (((((List.getD f (Int.toNat i) (dflt T_api_Entry)).2).2).2).2).1, (((((List.getD f (Int.toNat i) (dflt T_api_Entry)).2).2).2).2).2, ()), IntKind.wrap .u64 ((IntKind.wrap .u64 (a + (IntKind.wrap .u64 i))) + (1 : Int)), h, ())) fun ⟨_, j⟩ =>
 bif !j then
 inrO (some ((), false))
 else
 bif decide ((0 : Int) ≤ i ∧ i < (List.length f : Int)) then
 bif decide (Int.toNat i < List.length f) then
 some (.inl ((((List.getD f (Int.toNat i) (dflt T_api_Entry)).2).1, IntKind.wrap .i64 (i + (1 : Int)), ()), ()))
 else none
 else none
 else none
 else none
 else
 inrO (some ((), true)))
 ((c, (0 : Int), ()), ())
def e31 (fu : Nat) : Ent := ⟨31, (.cons (.hole (.int .u64)) (.cons (.hole (.int .u64)) (.cons (.hole (.sl .any T_api_Entry)) .nil))), .nil, (.hole .bool), p31 fu⟩
theorem g31 (fu : Nat) : (e31 fu).Good Try.prog := good_fx orders Try.func31 fu [(27, (.ent (e54 fu)))] [(6, ⟨[1, 7], (.cons (.hole (.int .u64)) (.cons (.hole (.int .i64)) .nil)), [], .nil, [0, 2], []⟩)] rs31 43 (l := [e54 fu]) ⟨g54 fu, trivial⟩
def rs12 : List RVx := [(.tmp 2)]
def p12 (fu : Nat) : (Z1) × (Unit) → Option ((Unit) × (Bool)) := fun ⟨⟨a, c, _, _, _, f, _⟩, _⟩ =>
bif decide (c < (4611686018427387904 : Int)) then
 Option.bind (p31 fu (a, c, f, ())) fun ⟨_, h⟩ =>
 some ((), h)
else
 some ((), false)
def e12 (fu : Nat) : Ent := ⟨12, (.cons Y2 .nil), .nil, (.hole .bool), p12 fu⟩
theorem g12 (fu : Nat) : (e12 fu).Good Try.prog := good_fx orders Try.func12 fu [(15, (.ent (e31 fu)))] [] rs12 18 (l := [e31 fu]) ⟨g31 fu, trivial⟩
def rs41 : List RVx := [(.tmp 3)]
def p41 (fu : Nat) : (Z4) × ((Z1) × (Unit)) → Option ((Unit) × (Bool)) := fun ⟨⟨a, c, _, _, _, _, _⟩, ⟨f, h, i, j, k, l, _⟩, _⟩ =>
Option.bind (p21 fu ((f, h, i, j, k, l, ()), a, ())) fun ⟨_, ⟨m, n, _⟩⟩ =>
bif !n then
 some ((), true)
else
 some ((), (m != c))
def e41 (fu : Nat) : Ent := ⟨41, (.cons Y5 (.cons (.look (.cons (.hole (.int .u64)) (.cons (.hole (.int .u64)) (.cons (.hole (.sl .any (.int .i64))) (.cons (.hole (.sl .any (.int .i64))) (.cons (.hole (.sl .any (.int .u8))) (.cons (.hole (.sl .any T_api_Entry)) .nil))))))) .nil)), .nil, (.hole .bool), p41 fu⟩
theorem g41 (fu : Nat) : (e41 fu).Good Try.prog := good_fx orders Try.func41 fu [(5, (.ent (e21 fu)))] [] rs41 21 (l := [e21 fu]) ⟨g21 fu, trivial⟩
def rs40 : List RVx := [(.tmp 4)]
def p40 (fu : Nat) : (List (D_api_Entry)) × (((Unit) × ((Z1) × (Unit))) × (Unit)) → Option (((Z1) × (Unit)) × (Int)) := fun ⟨a, ⟨_, ⟨⟨c, f, h, i, j, k, _⟩, _⟩⟩, _⟩ =>
loopO (S := ((Int) × (Unit)) × (Unit)) fu (fun ⟨⟨l, _⟩, _⟩ =>
 bif decide (l < (List.length a : Int)) then
 bif decide ((0 : Int) ≤ l ∧ l < (List.length a : Int)) then
 bif decide (Int.toNat l < List.length a) then
 Option.bind (p41 fu (((List.getD a (Int.toNat l) (dflt T_api_Entry)).1, ((List.getD a (Int.toNat l) (dflt T_api_Entry)).2).1, (((List.getD a (Int.toNat l) (dflt T_api_Entry)).2).2).1, ((((List.getD a (Int.toNat l) (dflt T_api_Entry)).2).2).2).1, (((((List.getD a (Int.toNat l) (dflt T_api_Entry)).2).2).2).2).1, (((((List.getD a (Int.toNat l) (dflt T_api_Entry)).2).2).2).2).2, ()), (c, f, h, i, j, k, ()), ())) fun ⟨_, m⟩ =>
 bif m then
 inrO (some (((c, f, h, i, j, k, ()), ()), l))
 else
 some (.inl ((IntKind.wrap .i64 (l + (1 : Int)), ()), ()))
 else none
 else none
 else
 inrO (some (((c, f, h, i, j, k, ()), ()), ((-1) : Int))))
 (((0 : Int), ()), ())
def e40 (fu : Nat) : Ent := ⟨40, (.cons (.hole (.sl .any T_api_Entry)) (.cons (.clo 41 0 .nil 1 (.cons Y3 .nil)) .nil)), (.cons Y2 .nil), (.hole (.int .i64)), p40 fu⟩
theorem g40 (fu : Nat) : (e40 fu).Good Try.prog := good_fx orders Try.func40 fu [(12, (.ent (e41 fu)))] [(3, ⟨[8], (.cons (.hole (.int .i64)) .nil), [], .nil, [0, 1, 7], [0]⟩)] rs40 19 (l := [e41 fu]) ⟨g41 fu, trivial⟩
def rs57 : List RVx := [(.tmp 2)]
def p57 (_ : Nat) : (List (Int)) × (Unit) → Option ((Unit) × (List (Int))) := fun ⟨a, _⟩ =>
bif ((List.length a : Int) == (0 : Int)) then
 some ((), [])
else
 bif decide ((0 : Int) ≤ (List.length a : Int) ∧ ((List.length a : Int) : Int) ≤ (List.length a : Int) ∧ ((List.length a : Int) : Int) ≤ 9223372036854775807 ∧ (8 : Int) * (List.length a : Int) ≤ 140737488355328) then
 bif decide (Int.toNat (List.length a : Int) = List.length (List.replicate (Int.toNat (List.length a : Int)) (0 : Int) : List (Int))) then
 bif decide (Int.toNat (List.length a : Int) = List.length (copyL (List.replicate (Int.toNat (List.length a : Int)) (0 : Int) : List (Int)) 0 (Int.toNat (List.length a : Int)) a)) then
 some ((), (copyL (List.replicate (Int.toNat (List.length a : Int)) (0 : Int) : List (Int)) 0 (Int.toNat (List.length a : Int)) a))
 else none
 else none
 else none
def e57 (fu : Nat) : Ent := ⟨57, (.cons (.hole (.sl .any (.int .i64))) .nil), .nil, (.own .own 3 (.int .i64)), p57 fu⟩
theorem g57 (fu : Nat) : (e57 fu).Good Try.prog := good_fx orders Try.func57 fu [(7, (.ty (.int .i64)))] [] rs57 14 (l := []) trivial
def rs45 : List RVx := [(.cell 2 true 2)]
def p45 (fu : Nat) : ((List (Int)) × ((List (Int)) × (Unit))) × (Unit) → Option ((Unit) × ((List (Int)) × ((List (Int)) × (Unit)))) := fun ⟨⟨a, c, _⟩, _⟩ =>
Option.bind (p57 fu (a, ())) fun ⟨_, f⟩ =>
Option.bind (p57 fu (c, ())) fun ⟨_, h⟩ =>
bif decide (List.length f = List.length f) then
 bif decide (List.length h = List.length h) then
 some ((), (f, h, ()))
 else none
else none
def e45 (fu : Nat) : Ent := ⟨45, (.cons (.agg 2 (.cons (.hole (.sl .any (.int .i64))) (.cons (.hole (.sl .any (.int .i64))) .nil))) .nil), .nil, (.agg 2 (.cons (.own .own 3 (.int .i64)) (.cons (.own .own 3 (.int .i64)) .nil))), p45 fu⟩
theorem g45 (fu : Nat) : (e45 fu).Good Try.prog := good_fx orders Try.func45 fu [(4, (.ent (e57 fu))), (7, (.ent (e57 fu)))] [] rs45 10 (l := [e57 fu, e57 fu]) ⟨g57 fu, g57 fu, trivial⟩
def rs36 : List RVx := [(.tmp 2)]
def p36 (_ : Nat) : (List (Int)) × (Unit) → Option ((Unit) × (List (Int))) := fun ⟨a, _⟩ =>
bif ((List.length a : Int) == (0 : Int)) then
 some ((), [])
else
 bif decide ((0 : Int) ≤ (List.length a : Int) ∧ ((List.length a : Int) : Int) ≤ (List.length a : Int) ∧ ((List.length a : Int) : Int) ≤ 9223372036854775807 ∧ (1 : Int) * (List.length a : Int) ≤ 140737488355328) then
 bif decide (Int.toNat (List.length a : Int) = List.length (List.replicate (Int.toNat (List.length a : Int)) (0 : Int) : List (Int))) then
 bif decide (Int.toNat (List.length a : Int) = List.length (copyL (List.replicate (Int.toNat (List.length a : Int)) (0 : Int) : List (Int)) 0 (Int.toNat (List.length a : Int)) a)) then
 some ((), (copyL (List.replicate (Int.toNat (List.length a : Int)) (0 : Int) : List (Int)) 0 (Int.toNat (List.length a : Int)) a))
 else none
 else none
 else none
def e36 (fu : Nat) : Ent := ⟨36, (.cons (.hole (.sl .any (.int .u8))) .nil), .nil, (.own .own 5 (.int .u8)), p36 fu⟩
theorem g36 (fu : Nat) : (e36 fu).Good Try.prog := good_fx orders Try.func36 fu [(7, (.ty (.int .u8)))] [] rs36 14 (l := []) trivial
def rs43 : List RVx := [(.cell 2 true 5)]
def p43 (fu : Nat) : ((Int) × ((Int) × ((List (Int)) × ((List (Int)) × ((List (Int)) × (Unit)))))) × (Unit) → Option ((Unit) × ((Int) × ((Int) × ((List (Int)) × ((List (Int)) × ((List (Int)) × (Unit))))))) := fun ⟨⟨a, c, f, h, i, _⟩, _⟩ =>
Option.bind (p45 fu ((f, h, ()), ())) fun ⟨_, ⟨j, k, _⟩⟩ =>
Option.bind (p36 fu (i, ())) fun ⟨_, l⟩ =>
bif decide (List.length j = List.length j) then
 bif decide (List.length k = List.length k) then
 bif decide (List.length l = List.length l) then
 some ((), (a, c, j, k, l, ()))
 else none
 else none
else none
def e43 (fu : Nat) : Ent := ⟨43, (.cons Y6 .nil), .nil, Y7, p43 fu⟩
theorem g43 (fu : Nat) : (e43 fu).Good Try.prog := good_fx orders Try.func43 fu [(4, (.ent (e45 fu))), (9, (.ent (e36 fu)))] [] rs43 12 (l := [e45 fu, e36 fu]) ⟨g45 fu, g36 fu, trivial⟩
def rs50 : List RVx := [(.tmp 2)]
def p50 (_ : Nat) : (Int) × (Unit) → Option ((Unit) × ((List (Int)) × (Unit))) := fun ⟨a, _⟩ =>
bif decide ((0 : Int) ≤ 0 ∧ (0 : Int) ≤ a ∧ (a : Int) ≤ 9223372036854775807 ∧ (1 : Int) * a ≤ 140737488355328) then
 bif decide (0 = List.length (List.replicate 0 (0 : Int) : List (Int))) then
 some ((), ((List.replicate 0 (0 : Int) : List (Int)), ()))
 else none
else none
def e50 (fu : Nat) : Ent := ⟨50, (.cons (.hole (.int .i64)) .nil), .nil, (.box 90 1 (.cons (.own .app 5 (.int .u8)) .nil)), p50 fu⟩
theorem g50 (fu : Nat) : (e50 fu).Good Try.prog := good_fx orders Try.func50 fu [(2, (.ty (.int .u8)))] [] rs50 6 (l := []) trivial
def rs53 : List RVx := [(.tmp 4)]
def p53 (_ : Nat) : ((List (Int)) × (Unit)) × ((List (Int)) × (Unit)) → Option ((((List (Int)) × (Unit)) × ((Unit) × (Unit))) × (List (Int))) := fun ⟨⟨a, _⟩, c, _⟩ =>
bif ((List.length c : Int) == (0 : Int)) then
 bif decide (List.length a = List.length a) then
 some (((a, ()), (), ()), [])
 else none
else
 bif decide (List.length a = List.length a) then
 bif decide (List.length a + List.length c ≤ maxLen ∧ (List.length a + List.length c) * 1 ≤ 140737488355328) then
 bif decide ((0 : Int) ≤ ((List.length (a ++ c)) : Int)) then
 bif decide ((0 : Int) ≤ ((List.length (a ++ c)) : Int)) then
 bif decide ((0 : Int) ≤ ((List.length a) : Int)) then
 bif decide (Int.toNat ((List.length a) : Int) ≤ Int.toNat ((List.length (a ++ c)) : Int) ∧ Int.toNat ((List.length (a ++ c)) : Int) ≤ Int.toNat ((List.length (a ++ c)) : Int) ∧ Int.toNat ((List.length (a ++ c)) : Int) ≤ List.length (a ++ c) ∧ 0 + (List.length (a ++ c)) ≤ List.length (a ++ c)) then
 bif decide (List.length (a ++ c) = List.length (a ++ c)) then
 some ((((a ++ c), ()), (), ()), slice' (a ++ c) (Int.toNat ((List.length a) : Int)) (some (Int.toNat ((List.length (a ++ c)) : Int))))
 else none
 else none
 else none
 else none
 else none
 else none
 else none
def e53 (fu : Nat) : Ent := ⟨53, (.cons (.box 90 1 (.cons (.own .app 5 (.int .u8)) .nil)) (.cons (.hole (.sl .any (.int .u8))) .nil)), (.cons (.agg 1 (.cons (.own .app 5 (.int .u8)) .nil)) (.cons .dead .nil)), (.hole (.sl .new (.int .u8))), p53 fu⟩
theorem g53 (fu : Nat) : (e53 fu).Good Try.prog := good_fx orders Try.func53 fu [(15, (.ty (.int .u8)))] [] rs53 32 (l := []) trivial
def rs52 : List RVx := [(.cell 3 true 6)]
def p52 (fu : Nat) : (Z4) × ((((List (Int)) × (Unit)) × (Unit)) × (Unit)) → Option ((((Unit) × (Unit)) × (((List (Int)) × (Unit)) × ((Unit) × (Unit)))) × ((Int) × ((Int) × ((Int) × ((List (Int)) × ((List (Int)) × ((List (Int)) × (Unit)))))))) := fun ⟨⟨a, c, f, h, i, j, _⟩, ⟨⟨k, _⟩, _⟩, _⟩ =>
bif decide (List.length k = List.length k) then
 Option.bind (p53 fu ((k, ()), h, ())) fun ⟨⟨⟨l, _⟩, _, _⟩, m⟩ =>
 Option.bind (p45 fu ((i, j, ()), ())) fun ⟨_, ⟨n, o, _⟩⟩ =>
 bif decide (List.length l = List.length l) then
 bif decide (List.length n = List.length n) then
 bif decide (List.length o = List.length o) then
 some ((((), ()), (l, ()), (), ()), (a, c, f, m, n, o, ()))
 else none
 else none
 else none
else none
def e52 (fu : Nat) : Ent := ⟨52, (.cons Y5 (.cons (.box 83 1 (.cons (.box 90 1 (.cons (.own .app 5 (.int .u8)) .nil)) .nil)) .nil)), (.cons (.agg 1 (.cons (.ptr 1) .nil)) (.cons (.agg 1 (.cons (.own .app 5 (.int .u8)) .nil)) (.cons .dead .nil))), Y8, p52 fu⟩
theorem g52 (fu : Nat) : (e52 fu).Good Try.prog := good_fx orders Try.func52 fu [(5, (.ent (e53 fu))), (10, (.ent (e45 fu)))] [] rs52 14 (l := [e53 fu, e45 fu]) ⟨g53 fu, g45 fu, trivial⟩
def rs51 : List RVx := [(.tmp 4)]
def p51 (fu : Nat) : (List (D_api_Entry)) × (((Unit) × ((((List (Int)) × (Unit)) × (Unit)) × (Unit))) × (Unit)) → Option ((((Unit) × (Unit)) × (((List (Int)) × (Unit)) × ((Unit) × (Unit)))) × (List (D_api_Entry))) := fun ⟨a, ⟨_, ⟨⟨⟨c, _⟩, _⟩, _⟩⟩, _⟩ =>
bif ((List.length a : Int) == (0 : Int)) then
 bif decide (List.length c = List.length c) then
 some ((((), ()), (c, ()), (), ()), [])
 else none
else
 bif decide ((0 : Int) ≤ (List.length a : Int) ∧ ((List.length a : Int) : Int) ≤ (List.length a : Int) ∧ ((List.length a : Int) : Int) ≤ 9223372036854775807 ∧ (96 : Int) * (List.length a : Int) ≤ 140737488355328) then
 bif decide (Int.toNat (List.length a : Int) = List.length (List.replicate (Int.toNat (List.length a : Int)) ((0 : Int), (0 : Int), (0 : Int), [], [], []) : List (D_api_Entry))) then
 bif decide (List.length c = List.length c) then
 loopO (S := ((List (D_api_Entry)) × ((Int) × (Unit))) × (((Unit) × (Unit)) × (((List (Int)) × (Unit)) × (Unit)))) fu (fun ⟨⟨f, h, _⟩, ⟨⟨_, _⟩, ⟨i, _⟩, _⟩⟩ =>
 bif decide (h < (List.length a : Int)) then
 bif decide ((0 : Int) ≤ h ∧ h < (List.length a : Int)) then
 bif decide (Int.toNat h < List.length a) then
 bif decide (List.length i = List.length i) then
 Option.bind (p52 fu (((List.getD a (Int.toNat h) (dflt T_api_Entry)).1, ((List.getD a (Int.toNat h) (dflt T_api_Entry)).2).1, (((List.getD a (Int.toNat h) (dflt T_api_Entry)).2).2).1, ((((List.getD a (Int.toNat h) (dflt T_api_Entry)).2).2).2).1, (((((List.getD a (Int.toNat h) (dflt T_api_Entry)).2).2).2).2).1, (((((List.getD a (Int.toNat h) (dflt T_api_Entry)).2).2).2).2).2, ()), ((i, ()), ()), ())) fun ⟨⟨⟨_, _⟩, ⟨j, _⟩, _, _⟩, ⟨k, l, m, n, o, q, _⟩⟩ =>
 bif decide ((0 : Int) ≤ h ∧ h < (List.length f : Int)) then
 bif decide (Int.toNat h < List.length f) then
 bif decide (List.length o = List.length o) then
 bif decide (List.length q = List.length q) then
 bif decide (List.length f = List.length (List.set f (Int.toNat h) (k, l, m, n, o, q))) then
 bif decide (List.length j = List.length j) then
 some (.inl (((List.set f (Int.toNat h) (k, l, m, n, o, q)), IntKind.wrap .i64 (h + (1 : Int)), ()), (((), ()), (j, ()), ())))
 else none
 else none
 else none
 else none
 else none
 else none
 else none
 else none
 else none
 else
 inrO (bif decide (List.length i = List.length i) then
 bif decide (List.length f = List.length f) then
 some ((((), ()), (i, ()), (), ()), f)
 else none
 else none))
 (((List.replicate (Int.toNat (List.length a : Int)) ((0 : Int), (0 : Int), (0 : Int), [], [], []) : List (D_api_Entry)), (0 : Int), ()), (((), ()), (c, ()), ()))
 else none
 else none
 else none
def e51 (fu : Nat) : Ent := ⟨51, (.cons (.hole (.sl .any T_api_Entry)) (.cons (.clo 52 0 .nil 1 (.cons (.box 83 1 (.cons (.box 90 1 (.cons (.own .app 5 (.int .u8)) .nil)) .nil)) .nil)) .nil)), (.cons (.agg 1 (.cons (.ptr 1) .nil)) (.cons (.agg 1 (.cons (.own .app 5 (.int .u8)) .nil)) (.cons .dead .nil))), (.own .own 51 T_api_Entry), p51 fu⟩
theorem g51 (fu : Nat) : (e51 fu).Good Try.prog := good_fx orders Try.func51 fu [(7, (.ty T_api_Entry)), (23, (.ent (e52 fu)))] [(7, ⟨[5, 16], (.cons (.own .own 51 T_api_Entry) (.cons (.hole (.int .i64)) .nil)), [(0, 83, 1), (1, 90, 1)], (.cons (.agg 1 (.cons (.ptr 1) .nil)) (.cons (.agg 1 (.cons (.own .app 5 (.int .u8)) .nil)) .nil)), [1, 14, 15], [2]⟩)] rs51 29 (l := [e52 fu]) ⟨g52 fu, trivial⟩
def rs30 : List RVx := [(.tmp 2)]
def p30 (fu : Nat) : (List (D_api_Entry)) × (Unit) → Option ((Unit) × (List (D_api_Entry))) := fun ⟨a, _⟩ =>
loopO (S := ((Int) × ((Int) × (Unit))) × (Unit)) fu (fun ⟨⟨c, f, _⟩, _⟩ =>
 bif decide (f < (List.length a : Int)) then
 bif decide ((0 : Int) ≤ f ∧ f < (List.length a : Int)) then
 bif decide (Int.toNat f < List.length a) then
 some (.inl ((IntKind.wrap .i64 (c + (List.length (((((List.getD a (Int.toNat f) (dflt T_api_Entry)).2).2).2).1) : Int)), IntKind.wrap .i64 (f + (1 : Int)), ()), ()))
 else none
 else none
 else
 inrO (Option.bind (p50 fu (c, ())) fun ⟨_, ⟨h, _⟩⟩ =>
 bif decide (List.length h = List.length h) then
 Option.bind (p51 fu (a, ((), (((h, ()), ()), ())), ())) fun ⟨⟨⟨_, _⟩, ⟨_, _⟩, _, _⟩, i⟩ =>
 bif decide (List.length i = List.length i) then
 some ((), i)
 else none
 else none))
 (((0 : Int), (0 : Int), ()), ())
def e30 (fu : Nat) : Ent := ⟨30, (.cons (.hole (.sl .any T_api_Entry)) .nil), .nil, (.own .own 51 T_api_Entry), p30 fu⟩
theorem g30 (fu : Nat) : (e30 fu).Good Try.prog := good_fx orders Try.func30 fu [(20, (.ent (e50 fu))), (25, (.ent (e51 fu)))] [(4, ⟨[3, 8], (.cons (.hole (.int .i64)) (.cons (.hole (.int .i64)) .nil)), [], .nil, [0, 7], []⟩)] rs30 25 (l := [e50 fu, e51 fu]) ⟨g50 fu, g51 fu, trivial⟩
def rs42 : List RVx := [(.cell 2 true 6)]
def p42 (fu : Nat) : (Z1) × (Unit) → Option ((Unit) × ((Int) × ((Int) × ((List (Int)) × ((List (Int)) × ((List (Int)) × ((List (D_api_Entry)) × (Unit)))))))) := fun ⟨⟨a, c, f, h, i, j, _⟩, _⟩ =>
Option.bind (p43 fu ((a, c, f, h, i, ()), ())) fun ⟨_, ⟨k, l, m, n, o, _⟩⟩ =>
Option.bind (p30 fu (j, ())) fun ⟨_, q⟩ =>
bif decide (List.length m = List.length m) then
 bif decide (List.length n = List.length n) then
 bif decide (List.length o = List.length o) then
 bif decide (List.length q = List.length q) then
 some ((), (k, l, m, n, o, q, ()))
 else none
 else none
 else none
else none
def e42 (fu : Nat) : Ent := ⟨42, (.cons Y2 .nil), .nil, Y9, p42 fu⟩
theorem g42 (fu : Nat) : (e42 fu).Good Try.prog := good_fx orders Try.func42 fu [(4, (.ent (e43 fu))), (7, (.ent (e30 fu)))] [] rs42 10 (l := [e43 fu, e30 fu]) ⟨g43 fu, g30 fu, trivial⟩
def rs19 : List RVx := [(.cell 10 true 6), (.tmp 11), (.tmp 12), (.tmp 13)]
def p19 (fu : Nat) : (Z1) × ((Int) × ((Int) × ((Int) × ((List (D_api_Entry)) × (Unit))))) → Option ((Unit) × ((Z1) × ((Int) × ((List (D_api_Entry)) × ((Int) × (Unit)))))) := fun ⟨⟨a, c, f, h, i, j, _⟩, k, l, m, n, _⟩ =>
Option.bind (p39 fu (l, m, n, ())) fun ⟨_, o⟩ =>
bif !o then
 some ((), (((0 : Int), (0 : Int), [], [], [], [], ()), (0 : Int), [], (1 : Int), ()))
else
 Option.bind (p21 fu ((a, c, f, h, i, j, ()), l, ())) fun ⟨_, ⟨q, s, _⟩⟩ =>
 orK (E := ((Bool) × (Unit)) × (Unit))
 (bif !s then
 some (.inl ((true, ()), ()))
 else
 some (.inl (((q != m), ()), ())))
 fun ⟨⟨t, _⟩, _⟩ =>
 bif t then
 some ((), (((0 : Int), (0 : Int), [], [], [], [], ()), (0 : Int), [], (61 : Int), ()))
 else
 loopO (S := ((Int) × (Unit)) × (Unit)) fu (fun ⟨⟨u, _⟩, _⟩ =>
 bif decide (u < (List.length n : Int)) then
 bif decide ((0 : Int) ≤ u ∧ u < (List.length n : Int)) then
 bif decide (Int.toNat u < List.length n) then
 Option.bind (p21 fu ((a, c, f, h, i, j, ()), (List.getD n (Int.toNat u) (dflt T_api_Entry)).1, ())) fun ⟨_, ⟨w, x, _⟩⟩ =>
 orK (E := ((Bool) × (Unit)) × (Unit))
 (bif decide (((List.getD n (Int.toNat u) (dflt T_api_Entry)).1) ≤ k) then
 bif x then
 some (.inl (((w != (((List.getD n (Int.toNat u) (dflt T_api_Entry)).2).1)), ()), ()))
 else
 some (.inl ((false, ()), ()))
 else
 some (.inl ((false, ()), ())))
 fun ⟨⟨y, _⟩, _⟩ =>
 bif y then
 inrO (some ((), (((0 : Int), (0 : Int), [], [], [], [], ()), (0 : Int), [], (62 : Int), ())))
 else
 some (.inl ((IntKind.wrap .i64 (u + (1 : Int)), ()), ()))
 else none
 else none
 else
 inrO (Option.bind (p40 fu (n, ((), ((a, c, f, h, i, j, ()), ())), ())) fun ⟨⟨⟨z, a0, c0, f0, h0, i0, _⟩, _⟩, j0⟩ =>
 bif decide (j0 < (0 : Int)) then
 Option.bind (p42 fu ((z, a0, c0, f0, h0, i0, ()), ())) fun ⟨_, ⟨k0, l0, m0, n0, o0, q0, _⟩⟩ =>
 bif decide (List.length m0 = List.length m0) then
 bif decide (List.length n0 = List.length n0) then
 bif decide (List.length o0 = List.length o0) then
 bif decide (List.length q0 = List.length q0) then
 some ((), ((k0, l0, m0, n0, o0, q0, ()), (0 : Int), [], (0 : Int), ()))
 else none
 else none
 else none
 else none
 else
 bif decide ((0 : Int) ≤ j0) then
 bif decide (Int.toNat j0 ≤ List.length n) then
 bif decide ((0 : Int) ≤ 0 ∧ 0 < (List.length (slice' n (Int.toNat j0) none) : Int)) then
 bif decide (0 < List.length (slice' n (Int.toNat j0) none)) then
 Option.bind (p29 fu ((z, a0, c0, f0, h0, i0, ()), (List.getD (slice' n (Int.toNat j0) none) 0 (dflt T_api_Entry)).1, ())) fun ⟨_, s0⟩ =>
 orK (E := ((Int) × (Unit)) × (Unit))
 (bif decide (s0 < (List.length i0 : Int)) then
 bif decide ((0 : Int) ≤ 0 ∧ 0 < (List.length (slice' n (Int.toNat j0) none) : Int)) then
 bif decide (0 < List.length (slice' n (Int.toNat j0) none)) then
 some (.inl (((List.getD (slice' n (Int.toNat j0) none) 0 (dflt T_api_Entry)).1, ()), ()))
 else none
 else none
 else
 some (.inl (((0 : Int), ()), ())))
 fun ⟨⟨t0, _⟩, _⟩ =>
 bif decide ((0 : Int) ≤ s0) then
 bif decide (0 ≤ Int.toNat s0 ∧ Int.toNat s0 ≤ List.length i0) then
 Option.bind (p30 fu (List.take (Int.toNat s0) i0, ())) fun ⟨_, u0⟩ =>
 Option.bind (p30 fu (slice' n (Int.toNat j0) none, ())) fun ⟨_, w0⟩ =>
 bif decide (List.length u0 = List.length u0) then
 bif decide (List.length w0 = List.length w0) then
 bif decide (List.length u0 + List.length w0 ≤ maxLen ∧ (List.length u0 + List.length w0) * 96 ≤ 140737488355328) then
 Option.bind (p43 fu ((z, a0, c0, f0, h0, ()), ())) fun ⟨_, ⟨x0, y0, z0, a1, c1, _⟩⟩ =>
 Option.bind (p30 fu (slice' n (Int.toNat j0) none, ())) fun ⟨_, f1⟩ =>
 bif decide (List.length z0 = List.length z0) then
 bif decide (List.length a1 = List.length a1) then
 bif decide (List.length c1 = List.length c1) then
 bif decide (List.length (u0 ++ w0) = List.length (u0 ++ w0)) then
 bif decide (List.length f1 = List.length f1) then
 some ((), ((x0, y0, z0, a1, c1, (u0 ++ w0), ()), t0, f1, (0 : Int), ()))
 else none
 else none
 else none
 else none
 else none
 else none
 else none
 else none
 else none
 else none
 else none
 else none
 else none
 else none))
 (((0 : Int), ()), ())
def e19 (fu : Nat) : Ent := ⟨19, (.cons Y2 (.cons (.hole (.int .u64)) (.cons (.hole (.int .u64)) (.cons (.hole (.int .u64)) (.cons (.hole (.sl .any T_api_Entry)) .nil))))), .nil, (.tup 4 (.cons Y9 (.cons (.hole (.int .u64)) (.cons (.own .own 51 T_api_Entry) (.cons (.hole (.int .i64)) .nil))))), p19 fu⟩
theorem g19 (fu : Nat) : (e19 fu).Good Try.prog := good_fx orders Try.func19 fu [(8, (.ent (e39 fu))), (17, (.ent (e21 fu))), (46, (.ent (e21 fu))), (74, (.ent (e40 fu))), (79, (.ent (e42 fu))), (93, (.ent (e29 fu))), (110, (.ent (e30 fu))), (112, (.ent (e30 fu))), (113, (.ty T_api_Entry)), (117, (.ent (e43 fu))), (122, (.ent (e30 fu)))] [(6, ⟨[43], (.cons (.hole .bool) .nil), [], .nil, [1, 4, 5, 10], [0, 16]⟩), (10, ⟨[47], (.cons (.hole (.int .i64)) .nil), [], .nil, [1, 4, 5, 10, 45, 46], [0, 16]⟩), (16, ⟨[70], (.cons (.hole .bool) .nil), [], .nil, [1, 4, 5, 10, 45, 46, 47], [0, 16]⟩), (25, ⟨[23], (.cons (.hole (.int .u64)) .nil), [], .nil, [5, 10, 21, 22], [0, 16]⟩)] rs19 114 (l := [e39 fu, e21 fu, e21 fu, e40 fu, e42 fu, e29 fu, e30 fu, e30 fu, e43 fu, e30 fu]) ⟨g39 fu, g21 fu, g21 fu, g40 fu, g42 fu, g29 fu, g30 fu, g30 fu, g43 fu, g30 fu, trivial⟩
def rs17 : List RVx := [(.cell 6 true 6), (.tmp 7)]
def p17 (fu : Nat) : (Z1) × ((Int) × ((List (Int)) × (Unit))) → Option ((Unit) × ((Z1) × ((Int) × (Unit)))) := fun ⟨⟨a, c, f, h, i, j, _⟩, k, l, _⟩ =>
Option.bind (p22 fu ((a, c, f, h, i, j, ()), ())) fun ⟨_, ⟨m, _, _⟩⟩ =>
orK (E := ((Bool) × (Unit)) × (Unit))
 (bif decide (k ≤ a) then
 some (.inl ((true, ()), ()))
 else
 some (.inl ((decide (k > m), ()), ())))
 fun ⟨⟨n, _⟩, _⟩ =>
bif n then
 some ((), (((0 : Int), (0 : Int), [], [], [], [], ()), (61 : Int), ()))
else
 Option.bind (p21 fu ((a, c, f, h, i, j, ()), k, ())) fun ⟨_, ⟨o, _, _⟩⟩ =>
 Option.bind (p29 fu ((a, c, f, h, i, j, ()), IntKind.wrap .u64 (k + (1 : Int)), ())) fun ⟨_, q⟩ =>
 bif decide ((0 : Int) ≤ q) then
 bif decide (0 ≤ Int.toNat q ∧ Int.toNat q ≤ List.length j) then
 Option.bind (pRCf fu ((a, c, f, h, i, List.take (Int.toNat q) j, ()), ())) fun ⟨_, ⟨⟨s, t, _⟩, _, _⟩⟩ =>
 Option.bind (p36 fu (l, ())) fun ⟨_, u⟩ =>
 bif decide ((0 : Int) ≤ q) then
 bif decide (Int.toNat q ≤ List.length j) then
 Option.bind (p30 fu (slice' j (Int.toNat q) none, ())) fun ⟨_, w⟩ =>
 bif decide (List.length s = List.length s) then
 bif decide (List.length t = List.length t) then
 bif decide (List.length u = List.length u) then
 bif decide (List.length w = List.length w) then
 some ((), ((k, o, s, t, u, w, ()), (0 : Int), ()))
 else none
 else none
 else none
 else none
 else none
 else none
 else none
 else none
def e17 (fu : Nat) : Ent := ⟨17, (.cons Y2 (.cons (.hole (.int .u64)) (.cons (.hole (.sl .any (.int .u8))) .nil))), .nil, (.tup 2 (.cons Y9 (.cons (.hole (.int .i64)) .nil))), p17 fu⟩
theorem g17 (fu : Nat) : (e17 fu).Good Try.prog := good_fx orders Try.func17 fu [(4, (.ent (e22 fu))), (25, (.ent (e21 fu))), (34, (.ent (e29 fu))), (43, (.ent (eRCf fu))), (54, (.ent (e36 fu))), (63, (.ent (e30 fu)))] [(3, ⟨[30], (.cons (.hole .bool) .nil), [], .nil, [1, 2, 3, 6], [0, 16]⟩)] rs17 66 (l := [e22 fu, e21 fu, e29 fu, eRCf fu, e36 fu, e30 fu]) ⟨g22 fu, g21 fu, g29 fu, gRCf fu, g36 fu, g30 fu, trivial⟩
def rs46 : List RVx := [(.tmp 4)]
def p46 (fu : Nat) : (List (Int)) × ((List (Int)) × (Unit)) → Option ((Unit) × (Bool)) := fun ⟨a, c, _⟩ =>
bif ((List.length a : Int) != (List.length c : Int)) then
 some ((), false)
else
 loopO (S := ((Int) × (Unit)) × (Unit)) fu (fun ⟨⟨f, _⟩, _⟩ =>
 bif decide (f < (List.length a : Int)) then
 bif decide ((0 : Int) ≤ f ∧ f < (List.length a : Int)) then
 bif decide (Int.toNat f < List.length a) then
 bif decide ((0 : Int) ≤ f ∧ f < (List.length c : Int)) then
 bif decide (Int.toNat f < List.length c) then
 bif ((List.getD a (Int.toNat f) (dflt (.int .i64))) != (List.getD c (Int.toNat f) (dflt (.int .i64)))) then
 inrO (some ((), false))
 else
 some (.inl ((IntKind.wrap .i64 (f + (1 : Int)), ()), ()))
 else none
 else none
 else none
 else none
 else
 inrO (some ((), true)))
 (((0 : Int), ()), ())
def e46 (fu : Nat) : Ent := ⟨46, (.cons (.hole (.sl .any (.int .i64))) (.cons (.hole (.sl .any (.int .i64))) .nil)), .nil, (.hole .bool), p46 fu⟩
theorem g46 (fu : Nat) : (e46 fu).Good Try.prog := good_fx orders Try.func46 fu [] [(6, ⟨[5], (.cons (.hole (.int .i64)) .nil), [], .nil, [0, 1], []⟩)] rs46 26 (l := []) trivial
def rs24 : List RVx := [(.tmp 4)]
def p24 (fu : Nat) : ((List (Int)) × ((List (Int)) × (Unit))) × (((List (Int)) × ((List (Int)) × (Unit))) × (Unit)) → Option ((Unit) × (Bool)) := fun ⟨⟨a, c, _⟩, ⟨f, h, _⟩, _⟩ =>
Option.bind (p46 fu (a, f, ())) fun ⟨_, i⟩ =>
Option.bind (p46 fu (c, h, ())) fun ⟨_, j⟩ =>
bif i then
 some ((), j)
else
 some ((), false)
def e24 (fu : Nat) : Ent := ⟨24, (.cons (.agg 2 (.cons (.hole (.sl .any (.int .i64))) (.cons (.hole (.sl .any (.int .i64))) .nil))) (.cons (.agg 2 (.cons (.hole (.sl .any (.int .i64))) (.cons (.hole (.sl .any (.int .i64))) .nil))) .nil)), .nil, (.hole .bool), p24 fu⟩
theorem g24 (fu : Nat) : (e24 fu).Good Try.prog := good_fx orders Try.func24 fu [(7, (.ent (e46 fu))), (13, (.ent (e46 fu)))] [] rs24 21 (l := [e46 fu, e46 fu]) ⟨g46 fu, g46 fu, trivial⟩
def rs5 : List RVx := [(.tmp 4)]
def p5 (fu : Nat) : (Z10) × ((Int) × (Unit)) → Option ((Unit) × (Bool)) := fun ⟨⟨a, c, f, h, i, j, k, l, m, n, _⟩, o, _⟩ =>
Option.bind (p9 fu ()) fun ⟨_, q⟩ =>
Option.bind (p12 fu ((a, c, f, h, i, j, ()), ())) fun ⟨_, s⟩ =>
bif !q then
 some ((), q)
else
 bif !s then
 some ((), q)
 else
 Option.bind (p19 fu ((a, c, f, h, i, j, ()), k, l, m, n, ())) fun ⟨_, ⟨⟨t, u, w, x, y, z, _⟩, a0, c0, f0, _⟩⟩ =>
 orK (E := (Unit) × (Unit))
 (bif (f0 == (0 : Int)) then
 orK (E := (Unit) × (Unit))
 (bif decide (List.length w = List.length w) then
 bif decide (List.length x = List.length x) then
 bif decide (List.length y = List.length y) then
 bif decide (List.length z = List.length z) then
 Option.bind (p20 fu ((t, u, w, x, y, z, ()), ())) fun ⟨_, h0⟩ =>
 bif !h0 then
 inrO (inrO (some ((), false)))
 else
 bif (a0 != (0 : Int)) then
 bif decide (a0 ≤ k) then
 inrO (inrO (some ((), false)))
 else
 bif decide (a0 ≤ a) then
 inrO (inrO (some ((), false)))
 else
 bif decide (((List.length c0) : Int) > (List.length n : Int)) then
 inrO (inrO (some ((), false)))
 else
 some (.inl ((), ()))
 else
 bif decide (((List.length c0) : Int) > (List.length n : Int)) then
 inrO (inrO (some ((), false)))
 else
 some (.inl ((), ()))
 else none
 else none
 else none
 else none)
 fun ⟨_, _⟩ =>
 orK (E := (Unit) × (Unit))
 (loopO (S := ((Int) × (Unit)) × (Unit)) fu (fun ⟨⟨i0, _⟩, _⟩ =>
 bif decide (i0 < (List.length j : Int)) then
 bif decide ((0 : Int) ≤ i0 ∧ i0 < (List.length j : Int)) then
 bif decide (Int.toNat i0 < List.length j) then
 bif decide (((List.getD j (Int.toNat i0) (dflt T_api_Entry)).1) > k) then
 inrO (some (.inl ((), ())))
 else
 bif decide (List.length w = List.length w) then
 bif decide (List.length x = List.length x) then
 bif decide (List.length y = List.length y) then
 bif decide (List.length z = List.length z) then
 Option.bind (p21 fu ((t, u, w, x, y, z, ()), (List.getD j (Int.toNat i0) (dflt T_api_Entry)).1, ())) fun ⟨_, ⟨j0, k0, _⟩⟩ =>
 bif !k0 then
 inrO (inrO (inrO (some ((), false))))
 else
 bif (j0 != (((List.getD j (Int.toNat i0) (dflt T_api_Entry)).2).1)) then
 inrO (inrO (inrO (some ((), false))))
 else
 some (.inl ((IntKind.wrap .i64 (i0 + (1 : Int)), ()), ()))
 else none
 else none
 else none
 else none
 else none
 else none
 else
 inrO (some (.inl ((), ()))))
 (((0 : Int), ()), ()))
 fun ⟨_, _⟩ =>
 loopO (S := ((Int) × (Unit)) × (Unit)) fu (fun ⟨⟨l0, _⟩, _⟩ =>
 bif decide (l0 < (List.length n : Int)) then
 bif decide ((0 : Int) ≤ l0 ∧ l0 < (List.length n : Int)) then
 bif decide (Int.toNat l0 < List.length n) then
 bif decide (List.length w = List.length w) then
 bif decide (List.length x = List.length x) then
 bif decide (List.length y = List.length y) then
 bif decide (List.length z = List.length z) then
 Option.bind (p21 fu ((t, u, w, x, y, z, ()), (List.getD n (Int.toNat l0) (dflt T_api_Entry)).1, ())) fun ⟨_, ⟨m0, n0, _⟩⟩ =>
 bif !n0 then
 inrO (inrO (some ((), false)))
 else
 bif decide ((0 : Int) ≤ l0 ∧ l0 < (List.length n : Int)) then
 bif decide (Int.toNat l0 < List.length n) then
 bif (m0 != (((List.getD n (Int.toNat l0) (dflt T_api_Entry)).2).1)) then
 inrO (inrO (some ((), false)))
 else
 some (.inl ((IntKind.wrap .i64 (l0 + (1 : Int)), ()), ()))
 else none
 else none
 else none
 else none
 else none
 else none
 else none
 else none
 else
 inrO (some (.inl ((), ()))))
 (((0 : Int), ()), ())
 else
 some (.inl ((), ())))
 fun ⟨_, _⟩ =>
 Option.bind (p17 fu ((a, c, f, h, i, j, ()), o, [], ())) fun ⟨_, ⟨⟨o0, q0, s0, t0, u0, w0, _⟩, x0, _⟩⟩ =>
 bif (x0 != (0 : Int)) then
 some ((), true)
 else
 Option.bind (p22 fu ((a, c, f, h, i, j, ()), ())) fun ⟨_, ⟨y0, z0, _⟩⟩ =>
 bif decide (List.length s0 = List.length s0) then
 bif decide (List.length t0 = List.length t0) then
 bif decide (List.length u0 = List.length u0) then
 bif decide (List.length w0 = List.length w0) then
 Option.bind (p22 fu ((o0, q0, s0, t0, u0, w0, ()), ())) fun ⟨_, ⟨a1, c1, _⟩⟩ =>
 Option.bind (pRCf fu ((a, c, f, h, i, j, ()), ())) fun ⟨_, ⟨⟨f1, h1, _⟩, _, _⟩⟩ =>
 bif decide (List.length s0 = List.length s0) then
 bif decide (List.length t0 = List.length t0) then
 bif decide (List.length u0 = List.length u0) then
 bif decide (List.length w0 = List.length w0) then
 Option.bind (pRCf fu ((o0, q0, s0, t0, u0, w0, ()), ())) fun ⟨_, ⟨⟨i1, j1, _⟩, _, _⟩⟩ =>
 loopO (S := ((Int) × (Unit)) × (Unit)) fu (fun ⟨⟨k1, _⟩, _⟩ =>
 bif decide (k1 < ((List.length w0) : Int)) then
 bif decide ((0 : Int) ≤ k1 ∧ k1 < (List.length w0 : Int)) then
 bif decide (Int.toNat k1 < List.length w0) then
 Option.bind (p21 fu ((a, c, f, h, i, j, ()), (List.getD w0 (Int.toNat k1) (dflt T_api_Entry)).1, ())) fun ⟨_, ⟨l1, _, _⟩⟩ =>
 bif decide ((0 : Int) ≤ k1 ∧ k1 < (List.length w0 : Int)) then
 bif decide (Int.toNat k1 < List.length w0) then
 bif decide (List.length s0 = List.length s0) then
 bif decide (List.length t0 = List.length t0) then
 bif decide (List.length u0 = List.length u0) then
 bif decide (List.length w0 = List.length w0) then
 Option.bind (p21 fu ((o0, q0, s0, t0, u0, w0, ()), (List.getD w0 (Int.toNat k1) (dflt T_api_Entry)).1, ())) fun ⟨_, ⟨m1, _, _⟩⟩ =>
 bif (l1 != m1) then
 inrO (some ((), false))
 else
 some (.inl ((IntKind.wrap .i64 (k1 + (1 : Int)), ()), ()))
 else none
 else none
 else none
 else none
 else none
 else none
 else none
 else none
 else
 inrO (bif (y0 == a1) then
 bif (z0 == c1) then
 bif decide (List.length s0 = List.length s0) then
 bif decide (List.length t0 = List.length t0) then
 bif decide (List.length u0 = List.length u0) then
 bif decide (List.length w0 = List.length w0) then
 Option.bind (p20 fu ((o0, q0, s0, t0, u0, w0, ()), ())) fun ⟨_, n1⟩ =>
 bif n1 then
 bif decide (List.length f1 = List.length f1) then
 bif decide (List.length h1 = List.length h1) then
 bif decide (List.length i1 = List.length i1) then
 bif decide (List.length j1 = List.length j1) then
 Option.bind (p24 fu ((f1, h1, ()), (i1, j1, ()), ())) fun ⟨_, o1⟩ =>
 some ((), o1)
 else none
 else none
 else none
 else none
 else
 some ((), false)
 else none
 else none
 else none
 else none
 else
 some ((), false)
 else
 some ((), false)))
 (((0 : Int), ()), ())
 else none
 else none
 else none
 else none
 else none
 else none
 else none
 else none
def e5 (fu : Nat) : Ent := ⟨5, (.cons Y11 (.cons (.hole (.int .u64)) .nil)), .nil, (.hole .bool), p5 fu⟩
theorem g5 (fu : Nat) : (e5 fu).Good Try.prog := good_fx orders Try.func5 fu [(2, (.ent (e9 fu))), (6, (.ent (e12 fu))), (26, (.ent (e19 fu))), (40, (.ent (e20 fu))), (92, (.ent (e21 fu))), (123, (.ent (e21 fu))), (148, (.ent (e17 fu))), (160, (.ent (e22 fu))), (167, (.ent (e22 fu))), (175, (.ent (eRCf fu))), (183, (.ent (eRCf fu))), (204, (.ent (e21 fu))), (217, (.ent (e21 fu))), (240, (.ent (e20 fu))), (245, (.ent (e24 fu)))] [(7, ⟨[], .nil, [], .nil, [1, 2], [0]⟩), (9, ⟨[], .nil, [], .nil, [1, 2, 7], [0, 384, 385, 386, 387, 480]⟩), (12, ⟨[], .nil, [], .nil, [1, 2, 7], [0, 384, 385, 386, 387, 480]⟩), (14, ⟨[11], (.cons (.hole (.int .i64)) .nil), [], .nil, [1, 2, 7], [0, 384, 385, 386, 387, 480]⟩), (25, ⟨[15], (.cons (.hole (.int .i64)) .nil), [], .nil, [1, 2, 7], [0, 384, 385, 386, 387, 480]⟩), (42, ⟨[28], (.cons (.hole (.int .i64)) .nil), [], .nil, [2, 18, 20, 21, 22, 23, 24, 26], [0, 608, 609, 610, 611, 672, 1024, 1025, 1088, 1152, 1153, 1216]⟩)] rs5 236 (l := [e9 fu, e12 fu, e19 fu, e20 fu, e21 fu, e21 fu, e17 fu, e22 fu, e22 fu, eRCf fu, eRCf fu, e21 fu, e21 fu, e20 fu, e24 fu]) ⟨g9 fu, g12 fu, g19 fu, g20 fu, g21 fu, g21 fu, g17 fu, g22 fu, g22 fu, gRCf fu, gRCf fu, g21 fu, g21 fu, g20 fu, g24 fu, trivial⟩
end Go.Proofs.Ytdblllnnccaccaa
