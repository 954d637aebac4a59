/-
  The functions, typed.
-/
import Derived.Test.YtahamggipcikgaaPkF
import Derived.Test.YtahamggipcikgaaDaL
import Derived.Test.YtahamggipcikgaaRows
namespace Go.Proofs.Ytahamggipcikgaa
open Go.RowKit
abbrev T_runtime_errorAddressString : Tp := (.pair .str (.int .u64))
abbrev D_runtime_errorAddressString := (ByteArray) × (Int)
abbrev T_beats_box : Tp := (.pair (.int .i64) (.int .i64))
abbrev D_beats_box := (Int) × (Int)
abbrev T_api_Conf : Tp := (.pair (.sl (.int .i64)) (.sl (.int .i64)))
abbrev D_api_Conf := (List (Int)) × (List (Int))
abbrev T_runtime_boundsError : Tp := (.pair (.int .i64) (.pair (.int .i64) (.pair .bool (.int .u8))))
abbrev D_runtime_boundsError := (Int) × ((Int) × ((Bool) × (Int)))
abbrev T_api_Packet : Tp := (.pair (.int .i64) (.pair (.int .i64) (.pair (.int .i64) (.sl (.int .u8)))))
abbrev D_api_Packet := (Int) × ((Int) × ((Int) × (List (Int))))
abbrev T_api_Entry : Tp := (.pair (.int .u64) (.pair (.int .u64) (.pair (.int .i64) (.pair (.sl (.int .u8)) T_api_Conf))))
abbrev D_api_Entry := (Int) × ((Int) × ((Int) × ((List (Int)) × (D_api_Conf))))
abbrev T_api_Msg : Tp := (.pair (.int .i64) (.pair (.int .i64) (.pair (.int .i64) (.pair (.int .u64) (.pair (.int .u64) (.pair (.int .u64) (.pair (.sl T_api_Entry) (.pair (.int .u64) (.pair .bool (.pair (.int .u64) (.pair T_api_Conf (.pair (.sl (.int .u8)) .bool))))))))))))
abbrev D_api_Msg := (Int) × ((Int) × ((Int) × ((Int) × ((Int) × ((Int) × ((List (D_api_Entry)) × ((Int) × ((Bool) × ((Int) × ((D_api_Conf) × ((List (Int)) × (Bool))))))))))))
abbrev T_gazetteref11_Wire : Tp := (.pair (.int .u64) T_api_Msg)
abbrev D_gazetteref11_Wire := (Int) × (D_api_Msg)
theorem orders : Try.prog.follows .mixedOrders = true := by kernel_rfl
abbrev Z0 : Type := (Int) × ((Int) × ((Int) × ((Int) × ((Int) × ((Int) × ((List (D_api_Entry)) × ((Int) × ((Bool) × ((Int) × ((List (Int)) × ((List (Int)) × ((List (Int)) × ((Bool) × (Unit))))))))))))))
abbrev Y1 : Sh := (.agg 14 (.cons (.hole (.int .i64)) (.cons (.hole (.int .i64)) (.cons (.hole (.int .i64)) (.cons (.hole (.int .u64)) (.cons (.hole (.int .u64)) (.cons (.hole (.int .u64)) (.cons (.hole (.sl T_api_Entry)) (.cons (.hole (.int .u64)) (.cons (.hole .bool) (.cons (.hole (.int .u64)) (.cons (.hole (.sl (.int .i64))) (.cons (.hole (.sl (.int .i64))) (.cons (.hole (.sl (.int .u8))) (.cons (.hole .bool) .nil)))))))))))))))
abbrev Z2 : Type := (Int) × ((Int) × ((Int) × ((Int) × ((Int) × ((Int) × ((Int) × ((List (D_api_Entry)) × ((Int) × ((Bool) × ((Int) × ((List (Int)) × ((List (Int)) × ((List (Int)) × ((Bool) × (Unit)))))))))))))))
abbrev Y3 : Sh := (.agg 15 (.cons (.hole (.int .u64)) (.cons (.hole (.int .i64)) (.cons (.hole (.int .i64)) (.cons (.hole (.int .i64)) (.cons (.hole (.int .u64)) (.cons (.hole (.int .u64)) (.cons (.hole (.int .u64)) (.cons (.hole (.sl T_api_Entry)) (.cons (.hole (.int .u64)) (.cons (.hole .bool) (.cons (.hole (.int .u64)) (.cons (.hole (.sl (.int .i64))) (.cons (.hole (.sl (.int .i64))) (.cons (.hole (.sl (.int .u8))) (.cons (.hole .bool) .nil))))))))))))))))
abbrev Z4 : Type := (Int) × ((Int) × ((Int) × ((List (Int)) × ((List (Int)) × ((List (Int)) × (Unit))))))
abbrev Y5 : Sh := (.agg 6 (.cons (.hole (.int .u64)) (.cons (.hole (.int .u64)) (.cons (.hole (.int .i64)) (.cons (.hole (.sl (.int .u8))) (.cons (.hole (.sl (.int .i64))) (.cons (.hole (.sl (.int .i64))) .nil)))))))
def rs5 : List RVx := [(.tmp 0)]
/-- gazette/gazettelaw11.head -/
def p5 (fu : Nat) : Unit → Option ((Unit) × (Bool)) := fun _ =>
Option.bind (pPack fu ((1 : Int), [((5 : Int), (5 : Int), (1 : Int), (2 : Int), (3 : Int), (0 : Int), (0 : Int), [], (0 : Int), false, (0 : Int), ([], []), [], false), ((6 : Int), (3 : Int), (1 : Int), (2 : Int), (3 : Int), (0 : Int), (0 : Int), [], (0 : Int), false, (0 : Int), ([], []), [], false)], ())) fun ⟨_, ⟨a, c, _⟩⟩ =>
bif (c == (0 : Int)) then
 bif (((List.length a) : Int) == (2 : Int)) then
 bif decide ((0 : Int) ≤ 0 ∧ 0 < (List.length a : Int)) then
 bif decide (0 < List.length a) then
 bif (((((List.getD a 0 (dflt T_api_Packet)).2).2).1) == (2 : Int)) then
 bif decide ((0 : Int) ≤ 1 ∧ 1 < (List.length a : Int)) then
 bif decide (1 < List.length a) then
 some ((), (((((List.getD a 1 (dflt T_api_Packet)).2).2).1) == (1 : Int)))
 else none
 else none
 else
 some ((), false)
 else none
 else none
 else
 some ((), false)
else
 some ((), false)
def e5 (fu : Nat) : Ent := ⟨5, .nil, .nil, (.hole .bool), p5 fu⟩
def d5 (fu : Nat) : DC := (.seq (.region [opD 0 (.mov (.const vB))] [[]] false) (.seq (.region [opD 4 (.build 14 [vI, vI, vI, vU, vU, vU, vS, vU, vB, vU, vS, vS, vS, vB] [(0, (1, (cD 5))), (1, (1, (cD 1))), (2, (1, (cD 2))), (3, (1, (.const (.int .u64 3))))]), opD 5 (.build 15 [vU, vI, vI, vI, vU, vU, vU, vS, vU, vB, vU, vS, vS, vS, vB] [(0, (1, (.const (.int .u64 5)))), (1, (14, (tD 4)))]), opD 6 (.build 14 [vI, vI, vI, vU, vU, vU, vS, vU, vB, vU, vS, vS, vS, vB] [(0, (1, (cD 3))), (1, (1, (cD 1))), (2, (1, (cD 2))), (3, (1, (.const (.int .u64 3))))]), opD 7 (.build 15 [vU, vI, vI, vI, vU, vU, vU, vS, vU, vB, vU, vS, vS, vS, vB] [(0, (1, (.const (.int .u64 6)))), (1, (14, (tD 6)))]), oqD 8 (.bslice 48 15 2 [vU, vI, vI, vI, vU, vU, vU, vS, vU, vB, vU, vS, vS, vS, vB] [(0, (tD 5)), (1, (tD 7))]) (.ty T_gazetteref11_Wire), oqD 9 (.call 6 [(cD 1), (tD 8)]) (.ent (ePack fu)), mvD 3 9, opD 10 (.ext (tD 3) 0), opD 11 (.ext (tD 3) 1), mvD 1 10, mvD 2 11] [[], [0], [], [2], [1, 3], [4], [5], [6], [6], [7, 5, 0, 1, 2, 3, 4, 5, 6, 7], [8, 9, 0, 1, 2, 3, 4, 5, 6, 7, 8, 9]] false) (.seq (.region [mvD 12 2, opD 13 (.bin .eql (tD 12) (cD 0)), mvD 14 13, ogD 15 14 true (.mov (tD 1)), ogD 16 14 true (.len false (tD 15)), ogD 17 14 true (.bin .eql (tD 16) (cD 2)), opD 18 (.pick (tD 14) (tD 17) (.const vB)), mvD 19 18, ogD 20 19 true (.mov (tD 1)), ogD 21 19 true (.iaddr 4 (tD 20) (cD 0)), ogD 22 19 true (.faddr 2 (tD 21)), ogD 23 19 true (.load false 1 (tD 22)), ogD 24 19 true (.bin .eql (tD 23) (cD 2)), opD 25 (.pick (tD 19) (tD 24) (.const vB)), mvD 26 25, ogD 27 26 true (.mov (tD 1)), ogD 28 26 true (.iaddr 4 (tD 27) (cD 1)), ogD 29 26 true (.faddr 2 (tD 28)), ogD 30 26 true (.load false 1 (tD 29)), ogD 31 26 true (.bin .eql (tD 30) (cD 1)), opD 32 (.pick (tD 26) (tD 31) (.const vB)), mvD 0 32] [[], [0], [1], [2], [3, 2], [4, 2], [2, 5], [6, 2], [7], [8, 7], [9, 7], [10, 7], [11, 7], [7, 12], [13, 7], [14], [15, 14], [16, 14], [17, 14], [18, 14], [14, 19], [20, 14, 0, 1, 2, 3, 4, 5, 6, 7, 8, 9, 10, 11, 12, 13, 14, 15, 16, 17, 18, 19, 20]] false) .ret)))
set_option maxRecDepth 1000000 in
theorem g5 (fu : Nat) : (e5 fu).Good Try.prog := good_fn orders Try.func5 fu (d5 fu) rs5 33 (l := [ePack fu]) ⟨gPack fu, trivial⟩
def rs7 : List RVx := [(.tmp 2)]
/-- gazette/gazettelaw11.own -/
def p7 (fu : Nat) : (List (D_gazetteref11_Wire)) × (Unit) → Option ((Unit) × (List (D_gazetteref11_Wire))) := fun ⟨a, _⟩ =>
loopO (S := ((List (D_gazetteref11_Wire)) × ((Int) × (Unit))) × (Unit)) fu (fun ⟨⟨c, f, _⟩, _⟩ =>
 bif decide (f < (List.length a : Int)) then
 bif decide ((0 : Int) ≤ f ∧ f < (List.length a : Int)) then
 bif decide (Int.toNat f < List.length a) then
 bif decide ((0 : Int) ≤ f ∧ f < (List.length a : Int)) then
 bif decide (Int.toNat f < List.length a) then
 bif decide (List.length c = List.length c) then
 bif decide (List.length c + List.length ([((List.getD a (Int.toNat f) (dflt T_gazetteref11_Wire)).1, ((List.getD a (Int.toNat f) (dflt T_gazetteref11_Wire)).2).1, (((List.getD a (Int.toNat f) (dflt T_gazetteref11_Wire)).2).2).1, ((((List.getD a (Int.toNat f) (dflt T_gazetteref11_Wire)).2).2).2).1, (((((List.getD a (Int.toNat f) (dflt T_gazetteref11_Wire)).2).2).2).2).1, ((((((List.getD a (Int.toNat f) (dflt T_gazetteref11_Wire)).2).2).2).2).2).1, (((((((List.getD a (Int.toNat f) (dflt T_gazetteref11_Wire)).2).2).2).2).2).2).1, ((((((((List.getD a (Int.toNat f) (dflt T_gazetteref11_Wire)).2).2).2).2).2).2).2).1, (((((((((List.getD a (Int.toNat f) (dflt T_gazetteref11_Wire)).2).2).2).2).2).2).2).2).1, ((((((((((List.getD a (Int.toNat f) (dflt T_gazetteref11_Wire)).2).2).2).2).2).2).2).2).2).1, (((((((((((List.getD a (Int.toNat f) (dflt T_gazetteref11_Wire)).2).2).2).2).2).2).2).2).2).2).1, ((((((((((((((List.getD a (Int.toNat f) (dflt T_gazetteref11_Wire)).2).2).2).2).2).2).2).2).2).2).2).1).1, (((((((((((((List.getD a (Int.toNat f) (dflt T_gazetteref11_Wire)).2).2).2).2).2).2).2).2).2).2).2).1).2), (((((((((((((List.getD a (Int.toNat f) (dflt T_gazetteref11_Wire)).2).2).2).2).2).2).2).2).2).2).2).2).1, (((((((((((((List.getD a (Int.toNat f) (dflt T_gazetteref11_Wire)).2).2).2).2).2).2).2).2).2).2).2).2).2)]) ≤ maxLen ∧ (List.length c + List.length ([((List.getD a (Int.toNat f) (dflt T_gazetteref11_Wire)).1, ((List.getD a (Int.toNat f) (dflt T_gazetteref11_Wire)).2).1, (((List.getD a (Int.toNat f) (dflt T_gazetteref11_Wire)).2).2).1, ((((List.getD a (Int.toNat f) (dflt T_gazetteref11_Wire)).2).2).2).1, (((((List.getD a (Int.toNat f) (dflt T_gazetteref11_Wire)).2).2).2).2).1, ((((((List.getD a (Int.toNat f) (dflt T_gazetteref11_Wire)).2).2).2).2).2).1, (((((((List.getD a (Int.toNat f) (dflt T_gazetteref11_Wire)).2).2).2).2).2).2).1, ((((((((List.getD a (Int.toNat f) (dflt T_gazetteref11_Wire)).2).2).2).2).2).2).2).1, (((((((((List.getD a (Int.toNat f) (dflt T_gazetteref11_Wire)).2).2).2).2).2).2).2).2).1, ((((((((((List.getD a (Int.toNat f) (dflt T_gazetteref11_Wire)).2).2).2).2).2).2).2).2).2).1, (((((((((((List.getD a (Int.toNat f) (dflt T_gazetteref11_Wire)).2).2).2).2).2).2).2).2).2).2).1, ((((((((((((((List.getD a (Int.toNat f) (dflt T_gazetteref11_Wire)).2).2).2).2).2).2).2).2).2).2).2).1).1, (((((((((((((List.getD a (Int.toNat f) (dflt T_gazetteref11_Wire)).2).2).2).2).2).2).2).2).2).2).2).1).2), (((((((((((((List.getD a (Int.toNat f) (dflt T_gazetteref11_Wire)).2).2).2).2).2).2).2).2).2).2).2).2).1, (((((((((((((List.getD a (Int.toNat f) (dflt T_gazetteref11_Wire)).2).2).2).2).2).2).2).2).2).2).2).2).2)])) * 184 ≤ 140737488355328) then
 bif decide (List.length (c ++ [((List.getD a (Int.toNat f) (dflt T_gazetteref11_Wire)).1, ((List.getD a (Int.toNat f) (dflt T_gazetteref11_Wire)).2).1, (((List.getD a (Int.toNat f) (dflt T_gazetteref11_Wire)).2).2).1, ((((List.getD a (Int.toNat f) (dflt T_gazetteref11_Wire)).2).2).2).1, (((((List.getD a (Int.toNat f) (dflt T_gazetteref11_Wire)).2).2).2).2).1, ((((((List.getD a (Int.toNat f) (dflt T_gazetteref11_Wire)).2).2).2).2).2).1, (((((((List.getD a (Int.toNat f) (dflt T_gazetteref11_Wire)).2).2).2).2).2).2).1, ((((((((List.getD a (Int.toNat f) (dflt T_gazetteref11_Wire)).2).2).2).2).2).2).2).1, (((((((((List.getD a (Int.toNat f) (dflt T_gazetteref11_Wire)).2).2).2).2).2).2).2).2).1, ((((((((((List.getD a (Int.toNat f) (dflt T_gazetteref11_Wire)).2).2).2).2).2).2).2).2).2).1, (((((((((((List.getD a (Int.toNat f) (dflt T_gazetteref11_Wire)).2).2).2).2).2).2).2).2).2).2).1, ((((((((((((((List.getD a (Int.toNat f) (dflt T_gazetteref11_Wire)).2).2).2).2).2).2).2).2).2).2).2).1).1, (((((((((((((List.getD a (Int.toNat f) (dflt T_gazetteref11_Wire)).2).2).2).2).2).2).2).2).2).2).2).1).2), (((((((((((((List.getD a (Int.toNat f) (dflt T_gazetteref11_Wire)).2).2).2).2).2).2).2).2).2).2).2).2).1, (((((((((((((List.getD a (Int.toNat f) (dflt T_gazetteref11_Wire)).2).2).2).2).2).2).2).2).2).2).2).2).2)]) = List.length (c ++ [((List.getD a (Int.toNat f) (dflt T_gazetteref11_Wire)).1, ((List.getD a (Int.toNat f) (dflt T_gazetteref11_Wire)).2).1, (((List.getD a (Int.toNat f) (dflt T_gazetteref11_Wire)).2).2).1, ((((List.getD a (Int.toNat f) (dflt T_gazetteref11_Wire)).2).2).2).1, (((((List.getD a (Int.toNat f) (dflt T_gazetteref11_Wire)).2).2).2).2).1, ((((((List.getD a (Int.toNat f) (dflt T_gazetteref11_Wire)).2).2).2).2).2).1, (((((((List.getD a (Int.toNat f) (dflt T_gazetteref11_Wire)).2).2).2).2).2).2).1, ((((((((List.getD a (Int.toNat f) (dflt T_gazetteref11_Wire)).2).2).2).2).2).2).2).1, (((((((((List.getD a (Int.toNat f) (dflt T_gazetteref11_Wire)).2).2).2).2).2).2).2).2).1, ((((((((((List.getD a (Int.toNat f) (dflt T_gazetteref11_Wire)).2).2).2).2).2).2).2).2).2).1, (((((((((((List.getD a (Int.toNat f) (dflt T_gazetteref11_Wire)).2).2).2).2).2).2).2).2).2).2).1, ((((((((((((((List.getD a (Int.toNat f) (dflt T_gazetteref11_Wire)).2).2).2).2).2).2).2).2).2).2).2).1).1, (((((((((((((List.getD a (Int.toNat f) (dflt T_gazetteref11_Wire)).2).2).2).2).2).2).2).2).2).2).2).1).2), (((((((((((((List.getD a (Int.toNat f) (dflt T_gazetteref11_Wire)).2).2).2).2).2).2).2).2).2).2).2).2).1, (((((((((((((List.getD a (Int.toNat f) (dflt T_gazetteref11_Wire)).2).2).2).2).2).2).2).2).2).2).2).2).2)])) then
 some (.inl (((c ++ [((List.getD a (Int.toNat f) (dflt T_gazetteref11_Wire)).1, ((List.getD a (Int.toNat f) (dflt T_gazetteref11_Wire)).2).1, (((List.getD a (Int.toNat f) (dflt T_gazetteref11_Wire)).2).2).1, ((((List.getD a (Int.toNat f) (dflt T_gazetteref11_Wire)).2).2).2).1, (((((List.getD a (Int.toNat f) (dflt T_gazetteref11_Wire)).2).2).2).2).1, ((((((List.getD a (Int.toNat f) (dflt T_gazetteref11_Wire)).2).2).2).2).2).1, (((((((List.getD a (Int.toNat f) (dflt T_gazetteref11_Wire)).2).2).2).2).2).2).1, ((((((((List.getD a (Int.toNat f) (dflt T_gazetteref11_Wire)).2).2).2).2).2).2).2).1, (((((((((List.getD a (Int.toNat f) (dflt T_gazetteref11_Wire)).2).2).2).2).2).2).2).2).1, ((((((((((List.getD a (Int.toNat f) (dflt T_gazetteref11_Wire)).2).2).2).2).2).2).2).2).2).1, (((((((((((List.getD a (Int.toNat f) (dflt T_gazetteref11_Wire)).2).2).2).2).2).2).2).2).2).2).1, ((((((((((((((List.getD a (Int.toNat f) (dflt T_gazetteref11_Wire)).2).2).2).2).2).2).2).2).2).2).2).1).1, (((((((((((((List.getD a (Int.toNat f) (dflt T_gazetteref11_Wire)).2).2).2).2).2).2).2).2).2).2).2).1).2), (((((((((((((List.getD a (Int.toNat f) (dflt T_gazetteref11_Wire)).2).2).2).2).2).2).2).2).2).2).2).2).1, (((((((((((((List.getD a (Int.toNat f) (dflt T_gazetteref11_Wire)).2).2).2).2).2).2).2).2).2).2).2).2).2)]), IntKind.wrap .i64 (f + (1 : Int)), ()), ()))
 else none
 else none
 else none
 else none
 else none
 else none
 else none
 else
 inrO (bif decide (List.length c = List.length c) then
 some ((), c)
 else none))
 (([], (0 : Int), ()), ())
def e7 (fu : Nat) : Ent := ⟨7, (.cons (.hole (.sl T_gazetteref11_Wire)) .nil), .nil, (.own .own 48 T_gazetteref11_Wire), p7 fu⟩
def d7 (_ : Nat) : DC := (.seq (.region [opD 2 (.mov (.const vS))] [[]] false) (.seq (.region [opD 3 (.mov (.const vS))] [[]] false) (.seq (.seq (.region [opD 4 (.mov (cD 0))] [[]] false) (.block 0 (.loop ⟨[3, 4], (.cons (.own .own 48 T_gazetteref11_Wire) (.cons (.hole (.int .i64)) .nil)), [], .nil, [0], []⟩
 (.seq (.seq (.region [mvD 5 4, mvD 6 0, opD 7 (.len false (tD 6)), opD 8 (.bin .lss (tD 5) (tD 7))] [[], [], [1], [0, 2]] false) (.cond (.tmp 8) .skip (.exit 0))) (.seq (.block 1 (.region [mvD 11 3, mvD 12 0, mvD 13 4, opD 14 (.iaddr 15 (tD 12) (tD 13)), opD 15 (.faddr 0 (tD 14)), opD 16 (.load false 1 (tD 15)), mvD 17 0, mvD 18 4, opD 19 (.iaddr 15 (tD 17) (tD 18)), opD 20 (.faddr 1 (tD 19)), opD 21 (.load true 14 (tD 20)), opD 22 (.build 15 [vU, vI, vI, vI, vU, vU, vU, vS, vU, vB, vU, vS, vS, vS, vB] [(0, (1, (tD 16))), (1, (14, (tD 21)))]), oqD 23 (.bslice 48 15 1 [vU, vI, vI, vI, vU, vU, vU, vS, vU, vB, vU, vS, vS, vS, vB] [(0, (tD 22))]) (.ty T_gazetteref11_Wire), oqD 24 (.app 48 15 [vU, vI, vI, vI, vU, vU, vU, vS, vU, vB, vU, vS, vS, vS, vB] 184 (tD 11) (tD 23)) (.ty T_gazetteref11_Wire), mvD 3 24] [[], [], [], [1, 2], [3], [4], [], [], [6, 7], [8], [9], [5, 10], [11], [0, 12], [13, 13, 0, 1, 2, 3, 4, 5, 6, 7, 8, 9, 10, 11, 12, 13]] true)) (.region [mvD 9 4, opD 10 (.bin .add (tD 9) (cD 1)), mvD 4 10] [[], [0], [1, 0, 1]] false)))))) (.seq (.region [mvD 25 3, mvD 2 25] [[], [0, 0]] false) .ret))))
set_option maxRecDepth 1000000 in
theorem g7 (fu : Nat) : (e7 fu).Good Try.prog := good_fn orders Try.func7 fu (d7 fu) rs7 26 (l := []) trivial
def rs14 : List RVx := [(.tmp 2)]
/-- gazette/gazetteref11.node -/
def p14 (_ : Nat) : (Int) × (Unit) → Option ((Unit) × (Bool)) := fun ⟨a, _⟩ =>
bif decide (a ≥ (1 : Int)) then
 some ((), decide (a ≤ (7 : Int)))
else
 some ((), false)
def e14 (fu : Nat) : Ent := ⟨14, (.cons (.hole (.int .i64)) .nil), .nil, (.hole .bool), p14 fu⟩
def d14 (_ : Nat) : DC := (.seq (.region [opD 2 (.mov (.const vB))] [[]] false) (.seq (.region [mvD 3 0, opD 4 (.bin .geq (tD 3) (cD 1)), mvD 5 4, ogD 6 5 true (.mov (tD 0)), ogD 7 5 true (.bin .leq (tD 6) (cD 7)), opD 8 (.pick (tD 5) (tD 7) (.const vB)), mvD 2 8] [[], [0], [1], [2], [3, 2], [2, 4], [5, 2, 0, 1, 2, 3, 4, 5]] false) .ret))
set_option maxRecDepth 1000000 in
theorem g14 (fu : Nat) : (e14 fu).Good Try.prog := good_fn orders Try.func14 fu (d14 fu) rs14 9 (l := []) trivial
def rs15 : List RVx := [(.tmp 2)]
/-- gazette/gazetteref11.kind -/
def p15 (_ : Nat) : (Int) × (Unit) → Option ((Unit) × (Bool)) := fun ⟨a, _⟩ =>
bif decide (a ≥ (1 : Int)) then
 some ((), decide (a ≤ (9 : Int)))
else
 some ((), false)
def e15 (fu : Nat) : Ent := ⟨15, (.cons (.hole (.int .i64)) .nil), .nil, (.hole .bool), p15 fu⟩
def d15 (_ : Nat) : DC := (.seq (.region [opD 2 (.mov (.const vB))] [[]] false) (.seq (.region [mvD 3 0, opD 4 (.bin .geq (tD 3) (cD 1)), mvD 5 4, ogD 6 5 true (.mov (tD 0)), ogD 7 5 true (.bin .leq (tD 6) (cD 9)), opD 8 (.pick (tD 5) (tD 7) (.const vB)), mvD 2 8] [[], [0], [1], [2], [3, 2], [2, 4], [5, 2, 0, 1, 2, 3, 4, 5]] false) .ret))
set_option maxRecDepth 1000000 in
theorem g15 (fu : Nat) : (e15 fu).Good Try.prog := good_fn orders Try.func15 fu (d15 fu) rs15 9 (l := []) trivial
def rs16 : List RVx := [(.tmp 2)]
/-- gazette/gazetteref11.long -/
def p16 (fu : Nat) : (Z0) × (Unit) → Option ((Unit) × (Bool)) := fun ⟨⟨_, _, _, _, _, _, a, _, _, _, c, f, h, _, _⟩, _⟩ =>
bif decide ((List.length a : Int) > (8 : Int)) then
 some ((), true)
else
 bif decide ((List.length h : Int) > (262144 : Int)) then
 some ((), true)
 else
 bif decide ((List.length c : Int) > (7 : Int)) then
 some ((), true)
 else
 bif decide ((List.length f : Int) > (7 : Int)) then
 some ((), true)
 else
 loopO (S := ((Int) × (Unit)) × (Unit)) fu (fun ⟨⟨i, _⟩, _⟩ =>
 bif decide (i < (List.length a : Int)) then
 bif decide ((0 : Int) ≤ i ∧ i < (List.length a : Int)) then
 bif decide (Int.toNat i < List.length a) then
 bif decide ((List.length (((((List.getD a (Int.toNat i) (dflt T_api_Entry)).2).2).2).1) : Int) > (262144 : Int)) then
 inrO (some ((), true))
 else
 bif decide ((List.length ((((((List.getD a (Int.toNat i) (dflt T_api_Entry)).2).2).2).2).1) : Int) > (7 : Int)) then
 inrO (some ((), true))
 else
 bif decide ((List.length ((((((List.getD a (Int.toNat i) (dflt T_api_Entry)).2).2).2).2).2) : Int) > (7 : Int)) then
 inrO (some ((), true))
 else
 bif decide (((((List.getD a (Int.toNat i) (dflt T_api_Entry)).2).2).1) < (1 : Int)) then
 inrO (some ((), true))
 else
 bif decide (((((List.getD a (Int.toNat i) (dflt T_api_Entry)).2).2).1) > (3 : Int)) then
 inrO (some ((), true))
 else
 some (.inl ((IntKind.wrap .i64 (i + (1 : Int)), ()), ()))
 else none
 else none
 else
 inrO (some ((), false)))
 (((0 : Int), ()), ())
def e16 (fu : Nat) : Ent := ⟨16, (.cons Y1 .nil), .nil, (.hole .bool), p16 fu⟩
def d16 (_ : Nat) : DC := (.seq (.region [opD 1 (.box 40 14 (tD 0)), opD 2 (.mov (.const vB))] [[], []] false) (.seq (.seq (.region [opD 5 (.faddr 6 (tD 1)), opD 6 (.load false 1 (tD 5)), opD 7 (.len false (tD 6)), opD 8 (.bin .gtr (tD 7) (cD 8)), mvD 9 8, ogD 10 9 false (.faddr 12 (tD 1)), ogD 11 9 false (.load false 1 (tD 10)), ogD 12 9 false (.len false (tD 11)), ogD 13 9 false (.bin .gtr (tD 12) (cD 262144)), opD 14 (.pick (tD 9) (.const (.bool true)) (tD 13)), mvD 15 14, ogD 16 15 false (.faddr 10 (tD 1)), ogD 17 15 false (.faddr 0 (tD 16)), ogD 18 15 false (.load false 1 (tD 17)), ogD 19 15 false (.len false (tD 18)), ogD 20 15 false (.bin .gtr (tD 19) (cD 7)), opD 21 (.pick (tD 15) (.const (.bool true)) (tD 20)), mvD 22 21, ogD 23 22 false (.faddr 10 (tD 1)), ogD 24 22 false (.faddr 1 (tD 23)), ogD 25 22 false (.load false 1 (tD 24)), ogD 26 22 false (.len false (tD 25)), ogD 27 22 false (.bin .gtr (tD 26) (cD 7)), opD 28 (.pick (tD 22) (.const (.bool true)) (tD 27))] [[], [0], [1], [2], [3], [4], [5, 4], [6, 4], [7, 4], [4, 8], [9, 4], [10], [11, 10], [12, 10], [13, 10], [14, 10], [10, 15], [16, 10], [17], [18, 17], [19, 17], [20, 17], [21, 17], [17, 22]] false) (.cond (.tmp 28) (.seq (.region [opD 2 (.mov (.const (.bool true)))] [[]] false) .ret) .skip)) (.seq (.seq (.region [opD 3 (.mov (cD 0))] [[]] false) (.block 0 (.loop ⟨[3], (.cons (.hole (.int .i64)) .nil), [], .nil, [1], [0]⟩
 (.seq (.seq (.region [mvD 29 3, opD 30 (.faddr 6 (tD 1)), opD 31 (.load false 1 (tD 30)), opD 32 (.len false (tD 31)), opD 33 (.bin .lss (tD 29) (tD 32))] [[], [], [1], [2], [0, 3]] false) (.cond (.tmp 33) .skip (.exit 0))) (.seq (.block 1 (.seq (.region [opD 36 (.faddr 6 (tD 1)), opD 37 (.load false 1 (tD 36)), mvD 38 3, opD 39 (.iaddr 6 (tD 37) (tD 38)), opD 40 (.load true 6 (tD 39)), opD 4 (.alloc 67 6 [vU, vU, vI, vS, vS, vS]), onD (.store 6 (tD 4) (tD 40))] [[], [0], [], [1, 2], [3], [], [5, 4, 0, 1, 2, 3, 4, 5]] false) (.seq (.region [opD 41 (.faddr 3 (tD 4)), opD 42 (.load false 1 (tD 41)), opD 43 (.len false (tD 42)), opD 44 (.bin .gtr (tD 43) (cD 262144)), mvD 45 44, ogD 46 45 false (.faddr 4 (tD 4)), ogD 47 45 false (.faddr 0 (tD 46)), ogD 48 45 false (.load false 1 (tD 47)), ogD 49 45 false (.len false (tD 48)), ogD 50 45 false (.bin .gtr (tD 49) (cD 7)), opD 51 (.pick (tD 45) (.const (.bool true)) (tD 50)), mvD 52 51, ogD 53 52 false (.faddr 4 (tD 4)), ogD 54 52 false (.faddr 1 (tD 53)), ogD 55 52 false (.load false 1 (tD 54)), ogD 56 52 false (.len false (tD 55)), ogD 57 52 false (.bin .gtr (tD 56) (cD 7)), opD 58 (.pick (tD 52) (.const (.bool true)) (tD 57)), mvD 59 58, ogD 60 59 false (.faddr 2 (tD 4)), ogD 61 59 false (.load false 1 (tD 60)), ogD 62 59 false (.bin .lss (tD 61) (cD 1)), opD 63 (.pick (tD 59) (.const (.bool true)) (tD 62)), mvD 64 63, ogD 65 64 false (.faddr 2 (tD 4)), ogD 66 64 false (.load false 1 (tD 65)), ogD 67 64 false (.bin .gtr (tD 66) (cD 3)), opD 68 (.pick (tD 64) (.const (.bool true)) (tD 67))] [[], [0], [1], [2], [3], [4], [5, 4], [6, 4], [7, 4], [8, 4], [4, 9], [10, 4], [11], [12, 11], [13, 11], [14, 11], [15, 11], [11, 16], [17, 11], [18], [19, 18], [20, 18], [18, 21], [22, 18], [23], [24, 23], [25, 23], [23, 26]] false) (.cond (.tmp 68) (.seq (.region [opD 2 (.mov (.const (.bool true)))] [[]] false) .ret) .skip)))) (.region [mvD 34 3, opD 35 (.bin .add (tD 34) (cD 1)), mvD 3 35] [[], [0], [1, 0, 1]] false)))))) (.seq (.region [opD 2 (.mov (.const vB))] [[]] false) .ret))))
set_option maxRecDepth 1000000 in
theorem g16 (fu : Nat) : (e16 fu).Good Try.prog := good_fn orders Try.func16 fu (d16 fu) rs16 69 (l := []) trivial
def rs20 : List RVx := [(.tmp 2)]
/-- gazette/gazetteref11.bare -/
def p20 (_ : Nat) : (Z0) × (Unit) → Option ((Unit) × (Bool)) := fun ⟨⟨_, _, _, _, _, _, a, _, c, f, h, i, j, k, _⟩, _⟩ =>
bif ((List.length a : Int) == (0 : Int)) then
 bif !c then
 bif (f == (0 : Int)) then
 bif ((IntKind.wrap .i64 ((List.length h : Int) + (List.length i : Int))) == (0 : Int)) then
 bif ((List.length j : Int) == (0 : Int)) then
 some ((), !k)
 else
 some ((), false)
 else
 some ((), false)
 else
 some ((), false)
 else
 some ((), false)
else
 some ((), false)
def e20 (fu : Nat) : Ent := ⟨20, (.cons Y1 .nil), .nil, (.hole .bool), p20 fu⟩
def d20 (_ : Nat) : DC := (.seq (.region [opD 1 (.box 40 14 (tD 0)), opD 2 (.mov (.const vB))] [[], []] false) (.seq (.region [opD 3 (.faddr 6 (tD 1)), opD 4 (.load false 1 (tD 3)), opD 5 (.len false (tD 4)), opD 6 (.bin .eql (tD 5) (cD 0)), mvD 7 6, ogD 8 7 true (.faddr 8 (tD 1)), ogD 9 7 true (.load false 1 (tD 8)), ogD 10 7 true (.not (tD 9)), opD 11 (.pick (tD 7) (tD 10) (.const vB)), mvD 12 11, ogD 13 12 true (.faddr 9 (tD 1)), ogD 14 12 true (.load false 1 (tD 13)), ogD 15 12 true (.bin .eql (tD 14) (.const vU)), opD 16 (.pick (tD 12) (tD 15) (.const vB)), mvD 17 16, ogD 18 17 true (.faddr 10 (tD 1)), ogD 19 17 true (.faddr 0 (tD 18)), ogD 20 17 true (.load false 1 (tD 19)), ogD 21 17 true (.len false (tD 20)), ogD 22 17 true (.faddr 10 (tD 1)), ogD 23 17 true (.faddr 1 (tD 22)), ogD 24 17 true (.load false 1 (tD 23)), ogD 25 17 true (.len false (tD 24)), ogD 26 17 true (.bin .add (tD 21) (tD 25)), ogD 27 17 true (.bin .eql (tD 26) (cD 0)), opD 28 (.pick (tD 17) (tD 27) (.const vB)), mvD 29 28, ogD 30 29 true (.faddr 12 (tD 1)), ogD 31 29 true (.load false 1 (tD 30)), ogD 32 29 true (.len false (tD 31)), ogD 33 29 true (.bin .eql (tD 32) (cD 0)), opD 34 (.pick (tD 29) (tD 33) (.const vB)), mvD 35 34, ogD 36 35 true (.faddr 13 (tD 1)), ogD 37 35 true (.load false 1 (tD 36)), ogD 38 35 true (.not (tD 37)), opD 39 (.pick (tD 35) (tD 38) (.const vB)), mvD 2 39] [[], [0], [1], [2], [3], [4], [5, 4], [6, 4], [4, 7], [8, 4], [9], [10, 9], [11, 9], [9, 12], [13, 9], [14], [15, 14], [16, 14], [17, 14], [14], [19, 14], [20, 14], [21, 14], [18, 22, 14], [23, 14], [14, 24], [25, 14], [26], [27, 26], [28, 26], [29, 26], [26, 30], [31, 26], [32], [33, 32], [34, 32], [32, 35], [36, 32, 0, 1, 2, 3, 4, 5, 6, 7, 8, 9, 10, 11, 12, 13, 14, 15, 16, 17, 18, 19, 20, 21, 22, 23, 24, 25, 26, 27, 28, 29, 30, 31, 32, 33, 34, 35, 36]] false) .ret))
set_option maxRecDepth 1000000 in
theorem g20 (fu : Nat) : (e20 fu).Good Try.prog := good_fn orders Try.func20 fu (d20 fu) rs20 40 (l := []) trivial
def rs10 : List RVx := [(.tmp 2)]
/-- gazette/gazetteref11.Is -/
def p10 (fu : Nat) : (Z0) × (Unit) → Option ((Unit) × (Bool)) := fun ⟨⟨a, c, f, h, i, j, k, l, m, n, o, q, s, t, _⟩, _⟩ =>
Option.bind (p20 fu ((a, c, f, h, i, j, k, l, m, n, o, q, s, t, ()), ())) fun ⟨_, u⟩ =>
bif u then
 bif (a == (5 : Int)) then
 some ((), true)
 else
 bif (a == (6 : Int)) then
 bif (j == (0 : Int)) then
 some ((), (l == (0 : Int)))
 else
 some ((), false)
 else
 some ((), false)
else
 some ((), false)
def e10 (fu : Nat) : Ent := ⟨10, (.cons Y1 .nil), .nil, (.hole .bool), p10 fu⟩
def d10 (fu : Nat) : DC := (.seq (.region [opD 1 (.box 40 14 (tD 0)), opD 2 (.mov (.const vB))] [[], []] false) (.seq (.region [opD 4 (.load true 14 (tD 1)), oqD 5 (.call 20 [(tD 4)]) (.ent (e20 fu)), mvD 3 5] [[], [0], [1, 1, 0, 1]] false) (.seq (.region [mvD 6 3, mvD 7 6, ogD 8 7 true (.faddr 0 (tD 1)), ogD 9 7 true (.load false 1 (tD 8)), ogD 10 7 true (.bin .eql (tD 9) (cD 5)), ogD 11 7 true (.mov (tD 10)), ogD 12 11 false (.faddr 0 (tD 1)), ogD 13 11 false (.load false 1 (tD 12)), ogD 14 11 false (.bin .eql (tD 13) (cD 6)), ogD 15 11 false (.mov (tD 14)), ogD 16 15 true (.faddr 5 (tD 1)), ogD 17 15 true (.load false 1 (tD 16)), ogD 18 15 true (.bin .eql (tD 17) (.const vU)), ogD 19 11 false (.pick (tD 15) (tD 18) (.const vB)), ogD 20 11 false (.mov (tD 19)), ogD 21 20 true (.faddr 7 (tD 1)), ogD 22 20 true (.load false 1 (tD 21)), ogD 23 20 true (.bin .eql (tD 22) (.const vU)), ogD 24 11 false (.pick (tD 20) (tD 23) (.const vB)), ogD 25 7 true (.pick (tD 11) (.const (.bool true)) (tD 24)), opD 26 (.pick (tD 7) (tD 25) (.const vB)), mvD 2 26] [[], [0], [1], [2, 1], [3, 1], [4, 1, 1], [5], [6, 5], [7, 5], [8, 5, 5], [9], [10, 9], [11, 9], [9, 12, 5], [13, 9, 5], [14], [15, 14], [16, 14], [14, 17, 5], [5, 18, 1], [1, 19], [20, 14, 0, 1, 2, 3, 4, 5, 6, 7, 8, 9, 10, 11, 12, 13, 14, 15, 16, 17, 18, 19, 20]] false) .ret)))
set_option maxRecDepth 1000000 in
theorem g10 (fu : Nat) : (e10 fu).Good Try.prog := good_fn orders Try.func10 fu (d10 fu) rs10 27 (l := [e20 fu]) ⟨g20 fu, trivial⟩
def rs19 : List RVx := [(.tmp 2)]
/-- gazette/gazetteref01.Uint -/
def p19 (fu : Nat) : (Int) × (Unit) → Option ((Unit) × (List (Int))) := fun ⟨a, _⟩ =>
loopO (S := ((Int) × ((List (Int)) × (Unit))) × (Unit)) fu (fun ⟨⟨c, f, _⟩, _⟩ =>
 bif decide (c ≥ (128 : Int)) then
 bif decide (List.length f = List.length f) then
 bif decide (List.length f + List.length ([IntKind.wrap .u8 ((IntKind.wrap .u8 (IntKind.wrap .u64 ((BitVec.ofInt (IntKind.bits .u64) c &&& BitVec.ofInt (IntKind.bits .u64) (127 : Int)).toNat : Int))) + (128 : Int))]) ≤ maxLen ∧ (List.length f + List.length ([IntKind.wrap .u8 ((IntKind.wrap .u8 (IntKind.wrap .u64 ((BitVec.ofInt (IntKind.bits .u64) c &&& BitVec.ofInt (IntKind.bits .u64) (127 : Int)).toNat : Int))) + (128 : Int))])) * 1 ≤ 140737488355328) then
 bif decide (List.length (f ++ [IntKind.wrap .u8 ((IntKind.wrap .u8 (IntKind.wrap .u64 ((BitVec.ofInt (IntKind.bits .u64) c &&& BitVec.ofInt (IntKind.bits .u64) (127 : Int)).toNat : Int))) + (128 : Int))]) = List.length (f ++ [IntKind.wrap .u8 ((IntKind.wrap .u8 (IntKind.wrap .u64 ((BitVec.ofInt (IntKind.bits .u64) c &&& BitVec.ofInt (IntKind.bits .u64) (127 : Int)).toNat : Int))) + (128 : Int))])) then
 some (.inl ((Int.fdiv c (2 ^ (min (Int.toNat (7 : Int)) (IntKind.bits .u64))), (f ++ [IntKind.wrap .u8 ((IntKind.wrap .u8 (IntKind.wrap .u64 ((BitVec.ofInt (IntKind.bits .u64) c &&& BitVec.ofInt (IntKind.bits .u64) (127 : Int)).toNat : Int))) + (128 : Int))]), ()), ()))
 else none
 else none
 else none
 else
 inrO (bif decide (List.length f = List.length f) then
 bif decide (List.length f + List.length ([IntKind.wrap .u8 c]) ≤ maxLen ∧ (List.length f + List.length ([IntKind.wrap .u8 c])) * 1 ≤ 140737488355328) then
 bif decide (List.length (f ++ [IntKind.wrap .u8 c]) = List.length (f ++ [IntKind.wrap .u8 c])) then
 some ((), (f ++ [IntKind.wrap .u8 c]))
 else none
 else none
 else none))
 ((a, [], ()), ())
def e19 (fu : Nat) : Ent := ⟨19, (.cons (.hole (.int .u64)) .nil), .nil, (.own .own 5 (.int .u8)), p19 fu⟩
def d19 (_ : Nat) : DC := (.seq (.region [opD 2 (.mov (.const vS))] [[]] false) (.seq (.region [opD 3 (.mov (.const vS))] [[]] false) (.seq (.block 0 (.loop ⟨[0, 3], (.cons (.hole (.int .u64)) (.cons (.own .own 5 (.int .u8)) .nil)), [], .nil, [], []⟩
 (.seq (.seq (.region [mvD 4 0, opD 5 (.bin .geq (tD 4) (.const (.int .u64 128)))] [[], [0]] false) (.cond (.tmp 5) .skip (.exit 0))) (.block 1 (.seq (.region [mvD 6 3, mvD 7 0, opD 8 (.bin .and (tD 7) (.const (.int .u64 127))), opD 9 (.conv .u8 (tD 8)), opD 10 (.bin .add (tD 9) (.const (.int .u8 128))), oqD 11 (.bslice 5 1 1 [(.int .u8 0)] [(0, (tD 10))]) (.ty (.int .u8)), oqD 12 (.app 5 1 [(.int .u8 0)] 1 (tD 6) (tD 11)) (.ty (.int .u8)), mvD 3 12] [[], [], [1], [2], [3], [4], [0, 5], [6, 6, 0, 1, 2, 3, 4, 5, 6]] false) (.region [mvD 13 0, opD 14 (.bin .shr (tD 13) (.const (.int .u64 7))), mvD 0 14] [[], [0], [1, 0, 1]] false)))))) (.seq (.region [mvD 15 3, mvD 16 0, opD 17 (.conv .u8 (tD 16)), oqD 18 (.bslice 5 1 1 [(.int .u8 0)] [(0, (tD 17))]) (.ty (.int .u8)), oqD 19 (.app 5 1 [(.int .u8 0)] 1 (tD 15) (tD 18)) (.ty (.int .u8)), mvD 2 19] [[], [], [1], [2], [0, 3], [4, 4, 0, 1, 2, 3, 4]] false) .ret))))
set_option maxRecDepth 1000000 in
theorem g19 (fu : Nat) : (e19 fu).Good Try.prog := good_fn orders Try.func19 fu (d19 fu) rs19 20 (l := []) trivial
def rs28 : List RVx := [(.tmp 2)]
/-- gazette/gazetteref01.Bool -/
def p28 (_ : Nat) : (Bool) × (Unit) → Option ((Unit) × (List (Int))) := fun ⟨a, _⟩ =>
bif a then
 some ((), [(1 : Int)])
else
 some ((), [(0 : Int)])
def e28 (fu : Nat) : Ent := ⟨28, (.cons (.hole .bool) .nil), .nil, (.own .own 5 (.int .u8)), p28 fu⟩
def d28 (_ : Nat) : DC := (.seq (.region [opD 2 (.mov (.const vS))] [[]] false) (.seq (.seq (.region [mvD 3 0] [[]] false) (.cond (.tmp 3) (.seq (.region [oqD 4 (.bslice 5 1 1 [(.int .u8 0)] [(0, (.const (.int .u8 1)))]) (.ty (.int .u8)), mvD 2 4] [[], [0, 0]] false) .ret) .skip)) (.seq (.region [oqD 5 (.bslice 5 1 1 [(.int .u8 0)] [(0, (.const (.int .u8 0)))]) (.ty (.int .u8)), mvD 2 5] [[], [0, 0]] false) .ret)))
set_option maxRecDepth 1000000 in
theorem g28 (fu : Nat) : (e28 fu).Good Try.prog := good_fn orders Try.func28 fu (d28 fu) rs28 6 (l := []) trivial
def rs17 : List RVx := [(.tmp 2)]
/-- gazette/gazetteref11.beat -/
def p17 (fu : Nat) : (Z2) × (Unit) → Option ((Unit) × (List (Int))) := fun ⟨⟨a, c, _, _, f, h, i, _, j, _, _, _, _, _, _, _⟩, _⟩ =>
Option.bind (p19 fu (a, ())) fun ⟨_, k⟩ =>
Option.bind (p28 fu ((c == (6 : Int)), ())) fun ⟨_, l⟩ =>
bif decide (List.length k = List.length k) then
 bif decide (List.length l = List.length l) then
 bif decide (List.length k + List.length l ≤ maxLen ∧ (List.length k + List.length l) * 1 ≤ 140737488355328) then
 Option.bind (p19 fu (f, ())) fun ⟨_, m⟩ =>
 bif decide (List.length (k ++ l) = List.length (k ++ l)) then
 bif decide (List.length m = List.length m) then
 bif decide (List.length (k ++ l) + List.length m ≤ maxLen ∧ (List.length (k ++ l) + List.length m) * 1 ≤ 140737488355328) then
 Option.bind (p19 fu (h, ())) fun ⟨_, n⟩ =>
 bif decide (List.length ((k ++ l) ++ m) = List.length ((k ++ l) ++ m)) then
 bif decide (List.length n = List.length n) then
 bif decide (List.length ((k ++ l) ++ m) + List.length n ≤ maxLen ∧ (List.length ((k ++ l) ++ m) + List.length n) * 1 ≤ 140737488355328) then
 bif !(c == (6 : Int)) then
 Option.bind (p19 fu (i, ())) fun ⟨_, o⟩ =>
 bif decide (List.length (((k ++ l) ++ m) ++ n) = List.length (((k ++ l) ++ m) ++ n)) then
 bif decide (List.length o = List.length o) then
 bif decide (List.length (((k ++ l) ++ m) ++ n) + List.length o ≤ maxLen ∧ (List.length (((k ++ l) ++ m) ++ n) + List.length o) * 1 ≤ 140737488355328) then
 Option.bind (p19 fu (j, ())) fun ⟨_, q⟩ =>
 bif decide (List.length ((((k ++ l) ++ m) ++ n) ++ o) = List.length ((((k ++ l) ++ m) ++ n) ++ o)) then
 bif decide (List.length q = List.length q) then
 bif decide (List.length ((((k ++ l) ++ m) ++ n) ++ o) + List.length q ≤ maxLen ∧ (List.length ((((k ++ l) ++ m) ++ n) ++ o) + List.length q) * 1 ≤ 140737488355328) then
 bif decide (List.length (((((k ++ l) ++ m) ++ n) ++ o) ++ q) = List.length (((((k ++ l) ++ m) ++ n) ++ o) ++ q)) then
 some ((), (((((k ++ l) ++ m) ++ n) ++ o) ++ q))
 else none
 else none
 else none
 else none
 else none
 else none
 else none
 else
 bif decide (List.length (((k ++ l) ++ m) ++ n) = List.length (((k ++ l) ++ m) ++ n)) then
 some ((), (((k ++ l) ++ m) ++ n))
 else none
 else none
 else none
 else none
 else none
 else none
 else none
 else none
 else none
else none
def e17 (fu : Nat) : Ent := ⟨17, (.cons Y3 .nil), .nil, (.own .own 5 (.int .u8)), p17 fu⟩
def d17 (fu : Nat) : DC := (.seq (.region [opD 1 (.box 42 15 (tD 0)), opD 2 (.mov (.const vS))] [[], []] false) (.seq (.region [opD 5 (.faddr 1 (tD 1)), opD 6 (.faddr 0 (tD 5)), opD 7 (.load false 1 (tD 6)), opD 8 (.bin .eql (tD 7) (cD 6)), mvD 3 8] [[], [0], [1], [2], [3, 0, 1, 2, 3]] false) (.seq (.region [opD 9 (.faddr 0 (tD 1)), opD 10 (.load false 1 (tD 9)), oqD 11 (.call 19 [(tD 10)]) (.ent (e19 fu)), mvD 12 3, oqD 13 (.call 28 [(tD 12)]) (.ent (e28 fu)), oqD 14 (.app 5 1 [(.int .u8 0)] 1 (tD 11) (tD 13)) (.ty (.int .u8)), mvD 4 14] [[], [0], [1], [], [3, 2], [2, 4, 4], [5, 5, 0, 1, 2, 3, 4, 5]] false) (.seq (.region [mvD 15 4, opD 16 (.faddr 1 (tD 1)), opD 17 (.faddr 3 (tD 16)), opD 18 (.load false 1 (tD 17)), oqD 19 (.call 19 [(tD 18)]) (.ent (e19 fu)), oqD 20 (.app 5 1 [(.int .u8 0)] 1 (tD 15) (tD 19)) (.ty (.int .u8)), mvD 4 20] [[], [], [1], [2], [3], [0, 4, 4], [5, 5, 0, 1, 2, 3, 4, 5]] false) (.seq (.region [mvD 21 4, opD 22 (.faddr 1 (tD 1)), opD 23 (.faddr 4 (tD 22)), opD 24 (.load false 1 (tD 23)), oqD 25 (.call 19 [(tD 24)]) (.ent (e19 fu)), oqD 26 (.app 5 1 [(.int .u8 0)] 1 (tD 21) (tD 25)) (.ty (.int .u8)), mvD 4 26] [[], [], [1], [2], [3], [0, 4, 4], [5, 5, 0, 1, 2, 3, 4, 5]] false) (.seq (.seq (.region [mvD 27 3, opD 28 (.not (tD 27))] [[], [0]] false) (.cond (.tmp 28) (.seq (.region [mvD 29 4, opD 30 (.faddr 1 (tD 1)), opD 31 (.faddr 5 (tD 30)), opD 32 (.load false 1 (tD 31)), oqD 33 (.call 19 [(tD 32)]) (.ent (e19 fu)), oqD 34 (.app 5 1 [(.int .u8 0)] 1 (tD 29) (tD 33)) (.ty (.int .u8)), mvD 4 34] [[], [], [1], [2], [3], [0, 4, 4], [5, 5, 0, 1, 2, 3, 4, 5]] false) (.region [mvD 35 4, opD 36 (.faddr 1 (tD 1)), opD 37 (.faddr 7 (tD 36)), opD 38 (.load false 1 (tD 37)), oqD 39 (.call 19 [(tD 38)]) (.ent (e19 fu)), oqD 40 (.app 5 1 [(.int .u8 0)] 1 (tD 35) (tD 39)) (.ty (.int .u8)), mvD 4 40] [[], [], [1], [2], [3], [0, 4, 4], [5, 5, 0, 1, 2, 3, 4, 5]] false)) .skip)) (.seq (.region [mvD 41 4, mvD 2 41] [[], [0, 0]] false) .ret)))))))
set_option maxRecDepth 1000000 in
theorem g17 (fu : Nat) : (e17 fu).Good Try.prog := good_fn orders Try.func17 fu (d17 fu) rs17 42 (l := [e19 fu, e28 fu, e19 fu, e19 fu, e19 fu, e19 fu]) ⟨g19 fu, g28 fu, g19 fu, g19 fu, g19 fu, g19 fu, trivial⟩
def rs29 : List RVx := [(.tmp 2)]
/-- gazette/gazetteref01.Int -/
def p29 (fu : Nat) : (Int) × (Unit) → Option ((Unit) × (List (Int))) := fun ⟨a, _⟩ =>
bif decide (a < (0 : Int)) then
 Option.bind (p19 fu (IntKind.wrap .u64 ((IntKind.wrap .u64 ((2 : Int) * (IntKind.wrap .u64 (IntKind.wrap .i64 (0 - (IntKind.wrap .i64 (a + (1 : Int)))))))) + (1 : Int)), ())) fun ⟨_, c⟩ =>
 bif decide (List.length c = List.length c) then
 some ((), c)
 else none
else
 Option.bind (p19 fu (IntKind.wrap .u64 ((2 : Int) * (IntKind.wrap .u64 a)), ())) fun ⟨_, f⟩ =>
 bif decide (List.length f = List.length f) then
 some ((), f)
 else none
def e29 (fu : Nat) : Ent := ⟨29, (.cons (.hole (.int .i64)) .nil), .nil, (.own .own 5 (.int .u8)), p29 fu⟩
def d29 (fu : Nat) : DC := (.seq (.region [opD 2 (.mov (.const vS))] [[]] false) (.seq (.seq (.region [mvD 3 0, opD 4 (.bin .lss (tD 3) (cD 0))] [[], [0]] false) (.cond (.tmp 4) (.seq (.region [mvD 5 0, opD 6 (.bin .add (tD 5) (cD 1)), opD 7 (.pure .neg [(tD 6)]), opD 8 (.conv .u64 (tD 7)), opD 9 (.bin .mul (.const (.int .u64 2)) (tD 8)), opD 10 (.bin .add (tD 9) (.const (.int .u64 1))), oqD 11 (.call 19 [(tD 10)]) (.ent (e19 fu)), mvD 2 11] [[], [0], [1], [2], [3], [4], [5], [6, 6, 0, 1, 2, 3, 4, 5, 6]] false) .ret) .skip)) (.seq (.region [mvD 12 0, opD 13 (.conv .u64 (tD 12)), opD 14 (.bin .mul (.const (.int .u64 2)) (tD 13)), oqD 15 (.call 19 [(tD 14)]) (.ent (e19 fu)), mvD 2 15] [[], [0], [1], [2], [3, 3, 0, 1, 2, 3]] false) .ret)))
set_option maxRecDepth 1000000 in
theorem g29 (fu : Nat) : (e29 fu).Good Try.prog := good_fn orders Try.func29 fu (d29 fu) rs29 16 (l := [e19 fu, e19 fu]) ⟨g19 fu, g19 fu, trivial⟩
def rs32 : List RVx := [(.tmp 2)]
/-- gazette/gazetteref01.Text -/
def p32 (fu : Nat) : (List (Int)) × (Unit) → Option ((Unit) × (List (Int))) := fun ⟨a, _⟩ =>
Option.bind (p19 fu (IntKind.wrap .u64 (List.length a : Int), ())) fun ⟨_, c⟩ =>
bif decide (List.length c = List.length c) then
 bif decide (List.length c + List.length a ≤ maxLen ∧ (List.length c + List.length a) * 1 ≤ 140737488355328) then
 bif decide (List.length (c ++ a) = List.length (c ++ a)) then
 some ((), (c ++ a))
 else none
 else none
else none
def e32 (fu : Nat) : Ent := ⟨32, (.cons (.hole (.sl (.int .u8))) .nil), .nil, (.own .own 5 (.int .u8)), p32 fu⟩
def d32 (fu : Nat) : DC := (.seq (.region [opD 2 (.mov (.const vS))] [[]] false) (.seq (.region [mvD 3 0, opD 4 (.len false (tD 3)), opD 5 (.conv .u64 (tD 4)), oqD 6 (.call 19 [(tD 5)]) (.ent (e19 fu)), mvD 7 0, oqD 8 (.app 5 1 [(.int .u8 0)] 1 (tD 6) (tD 7)) (.ty (.int .u8)), mvD 2 8] [[], [0], [1], [2], [], [3, 4, 3], [5, 5, 0, 1, 2, 3, 4, 5]] false) .ret))
set_option maxRecDepth 1000000 in
theorem g32 (fu : Nat) : (e32 fu).Good Try.prog := good_fn orders Try.func32 fu (d32 fu) rs32 9 (l := [e19 fu]) ⟨g19 fu, trivial⟩
def rs39 : List RVx := [(.tmp 2)]
/-- gazette/gazetteref01.ints -/
def p39 (fu : Nat) : (List (Int)) × (Unit) → Option ((Unit) × (List (Int))) := fun ⟨a, _⟩ =>
Option.bind (p19 fu (IntKind.wrap .u64 (List.length a : Int), ())) fun ⟨_, c⟩ =>
bif decide (List.length c = List.length c) then
 loopO (S := ((List (Int)) × ((Int) × (Unit))) × (Unit)) fu (fun ⟨⟨f, h, _⟩, _⟩ =>
 bif decide (h < (List.length a : Int)) then
 bif decide ((0 : Int) ≤ h ∧ h < (List.length a : Int)) then
 bif decide (Int.toNat h < List.length a) then
 Option.bind (p29 fu ((List.getD a (Int.toNat h) (dflt (.int .i64))), ())) fun ⟨_, i⟩ =>
 bif decide (List.length f = List.length f) then
 bif decide (List.length i = List.length i) then
 bif decide (List.length f + List.length i ≤ maxLen ∧ (List.length f + List.length i) * 1 ≤ 140737488355328) then
 bif decide (List.length (f ++ i) = List.length (f ++ i)) then
 some (.inl (((f ++ i), IntKind.wrap .i64 (h + (1 : Int)), ()), ()))
 else none
 else none
 else none
 else none
 else none
 else none
 else
 inrO (bif decide (List.length f = List.length f) then
 some ((), f)
 else none))
 ((c, (0 : Int), ()), ())
else none
def e39 (fu : Nat) : Ent := ⟨39, (.cons (.hole (.sl (.int .i64))) .nil), .nil, (.own .own 5 (.int .u8)), p39 fu⟩
def d39 (fu : Nat) : DC := (.seq (.region [opD 2 (.mov (.const vS))] [[]] false) (.seq (.region [mvD 5 0, opD 6 (.len false (tD 5)), opD 7 (.conv .u64 (tD 6)), oqD 8 (.call 19 [(tD 7)]) (.ent (e19 fu)), mvD 3 8] [[], [0], [1], [2], [3, 3, 0, 1, 2, 3]] false) (.seq (.seq (.region [opD 4 (.mov (cD 0))] [[]] false) (.block 0 (.loop ⟨[3, 4], (.cons (.own .own 5 (.int .u8)) (.cons (.hole (.int .i64)) .nil)), [], .nil, [0], []⟩
 (.seq (.seq (.region [mvD 9 4, mvD 10 0, opD 11 (.len false (tD 10)), opD 12 (.bin .lss (tD 9) (tD 11))] [[], [], [1], [0, 2]] false) (.cond (.tmp 12) .skip (.exit 0))) (.seq (.block 1 (.region [mvD 15 3, mvD 16 0, mvD 17 4, opD 18 (.iaddr 1 (tD 16) (tD 17)), opD 19 (.load false 1 (tD 18)), oqD 20 (.call 29 [(tD 19)]) (.ent (e29 fu)), oqD 21 (.app 5 1 [(.int .u8 0)] 1 (tD 15) (tD 20)) (.ty (.int .u8)), mvD 3 21] [[], [], [], [1, 2], [3], [4], [0, 5, 5], [6, 6, 0, 1, 2, 3, 4, 5, 6]] false)) (.region [mvD 13 4, opD 14 (.bin .add (tD 13) (cD 1)), mvD 4 14] [[], [0], [1, 0, 1]] false)))))) (.seq (.region [mvD 22 3, mvD 2 22] [[], [0, 0]] false) .ret))))
set_option maxRecDepth 1000000 in
theorem g39 (fu : Nat) : (e39 fu).Good Try.prog := good_fn orders Try.func39 fu (d39 fu) rs39 23 (l := [e19 fu, e29 fu]) ⟨g19 fu, g29 fu, trivial⟩
def rs31 : List RVx := [(.tmp 2)]
/-- gazette/gazetteref01.Conf -/
def p31 (fu : Nat) : ((List (Int)) × ((List (Int)) × (Unit))) × (Unit) → Option ((Unit) × (List (Int))) := fun ⟨⟨a, c, _⟩, _⟩ =>
Option.bind (p39 fu (a, ())) fun ⟨_, f⟩ =>
Option.bind (p39 fu (c, ())) fun ⟨_, h⟩ =>
bif decide (List.length f = List.length f) then
 bif decide (List.length h = List.length h) then
 bif decide (List.length f + List.length h ≤ maxLen ∧ (List.length f + List.length h) * 1 ≤ 140737488355328) then
 bif decide (List.length (f ++ h) = List.length (f ++ h)) then
 some ((), (f ++ h))
 else none
 else none
 else none
else none
def e31 (fu : Nat) : Ent := ⟨31, (.cons (.agg 2 (.cons (.hole (.sl (.int .i64))) (.cons (.hole (.sl (.int .i64))) .nil))) .nil), .nil, (.own .own 5 (.int .u8)), p31 fu⟩
def d31 (fu : Nat) : DC := (.seq (.region [opD 1 (.box 37 2 (tD 0)), opD 2 (.mov (.const vS))] [[], []] false) (.seq (.region [opD 3 (.faddr 0 (tD 1)), opD 4 (.load false 1 (tD 3)), oqD 5 (.call 39 [(tD 4)]) (.ent (e39 fu)), opD 6 (.faddr 1 (tD 1)), opD 7 (.load false 1 (tD 6)), oqD 8 (.call 39 [(tD 7)]) (.ent (e39 fu)), oqD 9 (.app 5 1 [(.int .u8 0)] 1 (tD 5) (tD 8)) (.ty (.int .u8)), mvD 2 9] [[], [0], [1], [], [3], [4, 2], [2, 5, 5], [6, 6, 0, 1, 2, 3, 4, 5, 6]] true) .ret))
set_option maxRecDepth 1000000 in
theorem g31 (fu : Nat) : (e31 fu).Good Try.prog := good_fn orders Try.func31 fu (d31 fu) rs31 10 (l := [e39 fu, e39 fu]) ⟨g39 fu, g39 fu, trivial⟩
def rs30 : List RVx := [(.tmp 2)]
/-- gazette/gazetteref01.Entry -/
def p30 (fu : Nat) : (Z4) × (Unit) → Option ((Unit) × (List (Int))) := fun ⟨⟨a, c, f, h, i, j, _⟩, _⟩ =>
Option.bind (p19 fu (a, ())) fun ⟨_, k⟩ =>
Option.bind (p19 fu (c, ())) fun ⟨_, l⟩ =>
bif decide (List.length k = List.length k) then
 bif decide (List.length l = List.length l) then
 bif decide (List.length k + List.length l ≤ maxLen ∧ (List.length k + List.length l) * 1 ≤ 140737488355328) then
 Option.bind (p29 fu (f, ())) fun ⟨_, m⟩ =>
 bif decide (List.length (k ++ l) = List.length (k ++ l)) then
 bif decide (List.length m = List.length m) then
 bif decide (List.length (k ++ l) + List.length m ≤ maxLen ∧ (List.length (k ++ l) + List.length m) * 1 ≤ 140737488355328) then
 Option.bind (p32 fu (h, ())) fun ⟨_, n⟩ =>
 bif decide (List.length ((k ++ l) ++ m) = List.length ((k ++ l) ++ m)) then
 bif decide (List.length n = List.length n) then
 bif decide (List.length ((k ++ l) ++ m) + List.length n ≤ maxLen ∧ (List.length ((k ++ l) ++ m) + List.length n) * 1 ≤ 140737488355328) then
 Option.bind (p31 fu ((i, j, ()), ())) fun ⟨_, o⟩ =>
 bif decide (List.length (((k ++ l) ++ m) ++ n) = List.length (((k ++ l) ++ m) ++ n)) then
 bif decide (List.length o = List.length o) then
 bif decide (List.length (((k ++ l) ++ m) ++ n) + List.length o ≤ maxLen ∧ (List.length (((k ++ l) ++ m) ++ n) + List.length o) * 1 ≤ 140737488355328) then
 bif decide (List.length ((((k ++ l) ++ m) ++ n) ++ o) = List.length ((((k ++ l) ++ m) ++ n) ++ o)) then
 some ((), ((((k ++ l) ++ m) ++ n) ++ o))
 else none
 else none
 else none
 else none
 else none
 else none
 else none
 else none
 else none
 else none
 else none
 else none
else none
def e30 (fu : Nat) : Ent := ⟨30, (.cons Y5 .nil), .nil, (.own .own 5 (.int .u8)), p30 fu⟩
def d30 (fu : Nat) : DC := (.seq (.region [opD 1 (.box 67 6 (tD 0)), opD 2 (.mov (.const vS))] [[], []] false) (.seq (.region [opD 4 (.faddr 0 (tD 1)), opD 5 (.load false 1 (tD 4)), oqD 6 (.call 19 [(tD 5)]) (.ent (e19 fu)), opD 7 (.faddr 1 (tD 1)), opD 8 (.load false 1 (tD 7)), oqD 9 (.call 19 [(tD 8)]) (.ent (e19 fu)), oqD 10 (.app 5 1 [(.int .u8 0)] 1 (tD 6) (tD 9)) (.ty (.int .u8)), mvD 3 10] [[], [0], [1], [], [3], [4, 2], [2, 5, 5], [6, 6, 0, 1, 2, 3, 4, 5, 6]] true) (.seq (.region [mvD 11 3, opD 12 (.faddr 2 (tD 1)), opD 13 (.load false 1 (tD 12)), oqD 14 (.call 29 [(tD 13)]) (.ent (e29 fu)), oqD 15 (.app 5 1 [(.int .u8 0)] 1 (tD 11) (tD 14)) (.ty (.int .u8)), mvD 3 15] [[], [], [1], [2], [0, 3, 3], [4, 4, 0, 1, 2, 3, 4]] false) (.seq (.region [mvD 16 3, opD 17 (.faddr 3 (tD 1)), opD 18 (.load false 1 (tD 17)), oqD 19 (.call 32 [(tD 18)]) (.ent (e32 fu)), oqD 20 (.app 5 1 [(.int .u8 0)] 1 (tD 16) (tD 19)) (.ty (.int .u8)), mvD 3 20] [[], [], [1], [2], [0, 3, 3], [4, 4, 0, 1, 2, 3, 4]] false) (.seq (.region [mvD 21 3, opD 22 (.faddr 4 (tD 1)), opD 23 (.load true 2 (tD 22)), oqD 24 (.call 31 [(tD 23)]) (.ent (e31 fu)), oqD 25 (.app 5 1 [(.int .u8 0)] 1 (tD 21) (tD 24)) (.ty (.int .u8)), mvD 2 25] [[], [], [1], [2], [0, 3, 3], [4, 4, 0, 1, 2, 3, 4]] false) .ret)))))
set_option maxRecDepth 1000000 in
theorem g30 (fu : Nat) : (e30 fu).Good Try.prog := good_fn orders Try.func30 fu (d30 fu) rs30 26 (l := [e19 fu, e19 fu, e29 fu, e32 fu, e31 fu]) ⟨g19 fu, g19 fu, g29 fu, g32 fu, g31 fu, trivial⟩
def rs18 : List RVx := [(.tmp 2)]
/-- gazette/gazetteref11.full -/
def p18 (fu : Nat) : (Z2) × (Unit) → Option ((Unit) × (List (Int))) := fun ⟨⟨a, c, _, _, f, h, i, j, k, l, m, n, o, q, s, _⟩, _⟩ =>
Option.bind (p19 fu (a, ())) fun ⟨_, t⟩ =>
Option.bind (p29 fu (c, ())) fun ⟨_, u⟩ =>
bif decide (List.length t = List.length t) then
 bif decide (List.length u = List.length u) then
 bif decide (List.length t + List.length u ≤ maxLen ∧ (List.length t + List.length u) * 1 ≤ 140737488355328) then
 Option.bind (p19 fu (f, ())) fun ⟨_, w⟩ =>
 bif decide (List.length (t ++ u) = List.length (t ++ u)) then
 bif decide (List.length w = List.length w) then
 bif decide (List.length (t ++ u) + List.length w ≤ maxLen ∧ (List.length (t ++ u) + List.length w) * 1 ≤ 140737488355328) then
 Option.bind (p19 fu (h, ())) fun ⟨_, x⟩ =>
 bif decide (List.length ((t ++ u) ++ w) = List.length ((t ++ u) ++ w)) then
 bif decide (List.length x = List.length x) then
 bif decide (List.length ((t ++ u) ++ w) + List.length x ≤ maxLen ∧ (List.length ((t ++ u) ++ w) + List.length x) * 1 ≤ 140737488355328) then
 Option.bind (p19 fu (i, ())) fun ⟨_, y⟩ =>
 bif decide (List.length (((t ++ u) ++ w) ++ x) = List.length (((t ++ u) ++ w) ++ x)) then
 bif decide (List.length y = List.length y) then
 bif decide (List.length (((t ++ u) ++ w) ++ x) + List.length y ≤ maxLen ∧ (List.length (((t ++ u) ++ w) ++ x) + List.length y) * 1 ≤ 140737488355328) then
 Option.bind (p19 fu (IntKind.wrap .u64 (List.length j : Int), ())) fun ⟨_, z⟩ =>
 bif decide (List.length ((((t ++ u) ++ w) ++ x) ++ y) = List.length ((((t ++ u) ++ w) ++ x) ++ y)) then
 bif decide (List.length z = List.length z) then
 bif decide (List.length ((((t ++ u) ++ w) ++ x) ++ y) + List.length z ≤ maxLen ∧ (List.length ((((t ++ u) ++ w) ++ x) ++ y) + List.length z) * 1 ≤ 140737488355328) then
 bif decide (List.length (((((t ++ u) ++ w) ++ x) ++ y) ++ z) = List.length (((((t ++ u) ++ w) ++ x) ++ y) ++ z)) then
 loopO (S := ((List (Int)) × ((Int) × (Unit))) × (Unit)) fu (fun ⟨⟨a0, c0, _⟩, _⟩ =>
 bif decide (c0 < (List.length j : Int)) then
 bif decide ((0 : Int) ≤ c0 ∧ c0 < (List.length j : Int)) then
 bif decide (Int.toNat c0 < List.length j) then
 Option.bind (p30 fu (((List.getD j (Int.toNat c0) (dflt T_api_Entry)).1, ((List.getD j (Int.toNat c0) (dflt T_api_Entry)).2).1, (((List.getD j (Int.toNat c0) (dflt T_api_Entry)).2).2).1, ((((List.getD j (Int.toNat c0) (dflt T_api_Entry)).2).2).2).1, (((((List.getD j (Int.toNat c0) (dflt T_api_Entry)).2).2).2).2).1, (((((List.getD j (Int.toNat c0) (dflt T_api_Entry)).2).2).2).2).2, ()), ())) fun ⟨_, f0⟩ =>
 bif decide (List.length a0 = List.length a0) then
 bif decide (List.length f0 = List.length f0) then
 bif decide (List.length a0 + List.length f0 ≤ maxLen ∧ (List.length a0 + List.length f0) * 1 ≤ 140737488355328) then
 bif decide (List.length (a0 ++ f0) = List.length (a0 ++ f0)) then
 some (.inl (((a0 ++ f0), IntKind.wrap .i64 (c0 + (1 : Int)), ()), ()))
 else none
 else none
 else none
 else none
 else none
 else none
 else
 inrO (Option.bind (p19 fu (k, ())) fun ⟨_, h0⟩ =>
 bif decide (List.length a0 = List.length a0) then
 bif decide (List.length h0 = List.length h0) then
 bif decide (List.length a0 + List.length h0 ≤ maxLen ∧ (List.length a0 + List.length h0) * 1 ≤ 140737488355328) then
 Option.bind (p28 fu (l, ())) fun ⟨_, i0⟩ =>
 bif decide (List.length (a0 ++ h0) = List.length (a0 ++ h0)) then
 bif decide (List.length i0 = List.length i0) then
 bif decide (List.length (a0 ++ h0) + List.length i0 ≤ maxLen ∧ (List.length (a0 ++ h0) + List.length i0) * 1 ≤ 140737488355328) then
 Option.bind (p19 fu (m, ())) fun ⟨_, j0⟩ =>
 bif decide (List.length ((a0 ++ h0) ++ i0) = List.length ((a0 ++ h0) ++ i0)) then
 bif decide (List.length j0 = List.length j0) then
 bif decide (List.length ((a0 ++ h0) ++ i0) + List.length j0 ≤ maxLen ∧ (List.length ((a0 ++ h0) ++ i0) + List.length j0) * 1 ≤ 140737488355328) then
 Option.bind (p31 fu ((n, o, ()), ())) fun ⟨_, k0⟩ =>
 bif decide (List.length (((a0 ++ h0) ++ i0) ++ j0) = List.length (((a0 ++ h0) ++ i0) ++ j0)) then
 bif decide (List.length k0 = List.length k0) then
 bif decide (List.length (((a0 ++ h0) ++ i0) ++ j0) + List.length k0 ≤ maxLen ∧ (List.length (((a0 ++ h0) ++ i0) ++ j0) + List.length k0) * 1 ≤ 140737488355328) then
 Option.bind (p32 fu (q, ())) fun ⟨_, l0⟩ =>
 bif decide (List.length ((((a0 ++ h0) ++ i0) ++ j0) ++ k0) = List.length ((((a0 ++ h0) ++ i0) ++ j0) ++ k0)) then
 bif decide (List.length l0 = List.length l0) then
 bif decide (List.length ((((a0 ++ h0) ++ i0) ++ j0) ++ k0) + List.length l0 ≤ maxLen ∧ (List.length ((((a0 ++ h0) ++ i0) ++ j0) ++ k0) + List.length l0) * 1 ≤ 140737488355328) then
 Option.bind (p28 fu (s, ())) fun ⟨_, m0⟩ =>
 bif decide (List.length (((((a0 ++ h0) ++ i0) ++ j0) ++ k0) ++ l0) = List.length (((((a0 ++ h0) ++ i0) ++ j0) ++ k0) ++ l0)) then
 bif decide (List.length m0 = List.length m0) then
 bif decide (List.length (((((a0 ++ h0) ++ i0) ++ j0) ++ k0) ++ l0) + List.length m0 ≤ maxLen ∧ (List.length (((((a0 ++ h0) ++ i0) ++ j0) ++ k0) ++ l0) + List.length m0) * 1 ≤ 140737488355328) then
 bif decide (List.length ((((((a0 ++ h0) ++ i0) ++ j0) ++ k0) ++ l0) ++ m0) = List.length ((((((a0 ++ h0) ++ i0) ++ j0) ++ k0) ++ l0) ++ m0)) then
 some ((), ((((((a0 ++ h0) ++ i0) ++ j0) ++ k0) ++ l0) ++ m0))
 else none
 else none
 else none
 else none
 else none
 else none
 else none
 else none
 else none
 else none
 else none
 else none
 else none
 else none
 else none
 else none
 else none
 else none
 else none))
 (((((((t ++ u) ++ w) ++ x) ++ y) ++ z), (0 : Int), ()), ())
 else none
 else none
 else none
 else none
 else none
 else none
 else none
 else none
 else none
 else none
 else none
 else none
 else none
 else none
 else none
else none
def e18 (fu : Nat) : Ent := ⟨18, (.cons Y3 .nil), .nil, (.own .own 5 (.int .u8)), p18 fu⟩
def d18 (fu : Nat) : DC := (.seq (.region [opD 1 (.box 42 15 (tD 0)), opD 2 (.mov (.const vS))] [[], []] false) (.seq (.region [opD 6 (.faddr 1 (tD 1)), opD 7 (.load true 14 (tD 6)), opD 3 (.alloc 40 14 [vI, vI, vI, vU, vU, vU, vS, vU, vB, vU, vS, vS, vS, vB]), onD (.store 14 (tD 3) (tD 7))] [[], [0], [], [2, 1, 0, 1, 2]] false) (.seq (.region [opD 8 (.faddr 0 (tD 1)), opD 9 (.load false 1 (tD 8)), oqD 10 (.call 19 [(tD 9)]) (.ent (e19 fu)), opD 11 (.faddr 0 (tD 3)), opD 12 (.load false 1 (tD 11)), oqD 13 (.call 29 [(tD 12)]) (.ent (e29 fu)), oqD 14 (.app 5 1 [(.int .u8 0)] 1 (tD 10) (tD 13)) (.ty (.int .u8)), mvD 4 14] [[], [0], [1], [], [3], [4, 2], [2, 5, 5], [6, 6, 0, 1, 2, 3, 4, 5, 6]] true) (.seq (.region [mvD 15 4, opD 16 (.faddr 3 (tD 3)), opD 17 (.load false 1 (tD 16)), oqD 18 (.call 19 [(tD 17)]) (.ent (e19 fu)), oqD 19 (.app 5 1 [(.int .u8 0)] 1 (tD 15) (tD 18)) (.ty (.int .u8)), mvD 4 19] [[], [], [1], [2], [0, 3, 3], [4, 4, 0, 1, 2, 3, 4]] false) (.seq (.region [mvD 20 4, opD 21 (.faddr 4 (tD 3)), opD 22 (.load false 1 (tD 21)), oqD 23 (.call 19 [(tD 22)]) (.ent (e19 fu)), oqD 24 (.app 5 1 [(.int .u8 0)] 1 (tD 20) (tD 23)) (.ty (.int .u8)), mvD 4 24] [[], [], [1], [2], [0, 3, 3], [4, 4, 0, 1, 2, 3, 4]] false) (.seq (.region [mvD 25 4, opD 26 (.faddr 5 (tD 3)), opD 27 (.load false 1 (tD 26)), oqD 28 (.call 19 [(tD 27)]) (.ent (e19 fu)), oqD 29 (.app 5 1 [(.int .u8 0)] 1 (tD 25) (tD 28)) (.ty (.int .u8)), mvD 4 29] [[], [], [1], [2], [0, 3, 3], [4, 4, 0, 1, 2, 3, 4]] false) (.seq (.region [mvD 30 4, opD 31 (.faddr 6 (tD 3)), opD 32 (.load false 1 (tD 31)), opD 33 (.len false (tD 32)), opD 34 (.conv .u64 (tD 33)), oqD 35 (.call 19 [(tD 34)]) (.ent (e19 fu)), oqD 36 (.app 5 1 [(.int .u8 0)] 1 (tD 30) (tD 35)) (.ty (.int .u8)), mvD 4 36] [[], [], [1], [2], [3], [4], [0, 5, 5], [6, 6, 0, 1, 2, 3, 4, 5, 6]] false) (.seq (.seq (.region [opD 5 (.mov (cD 0))] [[]] false) (.block 0 (.loop ⟨[4, 5], (.cons (.own .own 5 (.int .u8)) (.cons (.hole (.int .i64)) .nil)), [], .nil, [3], [64]⟩
 (.seq (.seq (.region [mvD 37 5, opD 38 (.faddr 6 (tD 3)), opD 39 (.load false 1 (tD 38)), opD 40 (.len false (tD 39)), opD 41 (.bin .lss (tD 37) (tD 40))] [[], [], [1], [2], [0, 3]] false) (.cond (.tmp 41) .skip (.exit 0))) (.seq (.block 1 (.region [mvD 44 4, opD 45 (.faddr 6 (tD 3)), opD 46 (.load false 1 (tD 45)), mvD 47 5, opD 48 (.iaddr 6 (tD 46) (tD 47)), opD 49 (.load true 6 (tD 48)), oqD 50 (.call 30 [(tD 49)]) (.ent (e30 fu)), oqD 51 (.app 5 1 [(.int .u8 0)] 1 (tD 44) (tD 50)) (.ty (.int .u8)), mvD 4 51] [[], [], [1], [], [2, 3], [4], [5], [0, 6, 6], [7, 7, 0, 1, 2, 3, 4, 5, 6, 7]] false)) (.region [mvD 42 5, opD 43 (.bin .add (tD 42) (cD 1)), mvD 5 43] [[], [0], [1, 0, 1]] false)))))) (.seq (.region [mvD 52 4, opD 53 (.faddr 7 (tD 3)), opD 54 (.load false 1 (tD 53)), oqD 55 (.call 19 [(tD 54)]) (.ent (e19 fu)), oqD 56 (.app 5 1 [(.int .u8 0)] 1 (tD 52) (tD 55)) (.ty (.int .u8)), mvD 4 56] [[], [], [1], [2], [0, 3, 3], [4, 4, 0, 1, 2, 3, 4]] false) (.seq (.region [mvD 57 4, opD 58 (.faddr 8 (tD 3)), opD 59 (.load false 1 (tD 58)), oqD 60 (.call 28 [(tD 59)]) (.ent (e28 fu)), oqD 61 (.app 5 1 [(.int .u8 0)] 1 (tD 57) (tD 60)) (.ty (.int .u8)), mvD 4 61] [[], [], [1], [2], [0, 3, 3], [4, 4, 0, 1, 2, 3, 4]] false) (.seq (.region [mvD 62 4, opD 63 (.faddr 9 (tD 3)), opD 64 (.load false 1 (tD 63)), oqD 65 (.call 19 [(tD 64)]) (.ent (e19 fu)), oqD 66 (.app 5 1 [(.int .u8 0)] 1 (tD 62) (tD 65)) (.ty (.int .u8)), mvD 4 66] [[], [], [1], [2], [0, 3, 3], [4, 4, 0, 1, 2, 3, 4]] false) (.seq (.region [mvD 67 4, opD 68 (.faddr 10 (tD 3)), opD 69 (.load true 2 (tD 68)), oqD 70 (.call 31 [(tD 69)]) (.ent (e31 fu)), oqD 71 (.app 5 1 [(.int .u8 0)] 1 (tD 67) (tD 70)) (.ty (.int .u8)), mvD 4 71] [[], [], [1], [2], [0, 3, 3], [4, 4, 0, 1, 2, 3, 4]] false) (.seq (.region [mvD 72 4, opD 73 (.faddr 12 (tD 3)), opD 74 (.load false 1 (tD 73)), oqD 75 (.call 32 [(tD 74)]) (.ent (e32 fu)), oqD 76 (.app 5 1 [(.int .u8 0)] 1 (tD 72) (tD 75)) (.ty (.int .u8)), mvD 4 76] [[], [], [1], [2], [0, 3, 3], [4, 4, 0, 1, 2, 3, 4]] false) (.seq (.region [mvD 77 4, opD 78 (.faddr 13 (tD 3)), opD 79 (.load false 1 (tD 78)), oqD 80 (.call 28 [(tD 79)]) (.ent (e28 fu)), oqD 81 (.app 5 1 [(.int .u8 0)] 1 (tD 77) (tD 80)) (.ty (.int .u8)), mvD 2 81] [[], [], [1], [2], [0, 3, 3], [4, 4, 0, 1, 2, 3, 4]] false) .ret))))))))))))))
set_option maxRecDepth 1000000 in
theorem g18 (fu : Nat) : (e18 fu).Good Try.prog := good_fn orders Try.func18 fu (d18 fu) rs18 82 (l := [e19 fu, e29 fu, e19 fu, e19 fu, e19 fu, e19 fu, e30 fu, e19 fu, e28 fu, e19 fu, e31 fu, e32 fu, e28 fu]) ⟨g19 fu, g29 fu, g19 fu, g19 fu, g19 fu, g19 fu, g30 fu, g19 fu, g28 fu, g19 fu, g31 fu, g32 fu, g28 fu, trivial⟩
def rs8 : List RVx := [(.tmp 4), (.tmp 5)]
/-- gazette/gazetteref11.Pack -/
def p8 (fu : Nat) : (Int) × ((List (D_gazetteref11_Wire)) × (Unit)) → Option ((Unit) × ((List (D_api_Packet)) × ((Int) × (Unit)))) := fun ⟨a, c, _⟩ =>
Option.bind (p14 fu (a, ())) fun ⟨_, f⟩ =>
loopO (S := ((Bool) × ((Int) × (Unit))) × (Unit)) fu (fun ⟨⟨h, i, _⟩, _⟩ =>
 bif decide (i < (List.length c : Int)) then
 bif decide ((0 : Int) ≤ i ∧ i < (List.length c : Int)) then
 bif decide (Int.toNat i < List.length c) then
 Option.bind (p14 fu (((((List.getD c (Int.toNat i) (dflt T_gazetteref11_Wire)).2).2).2).1, ())) fun ⟨_, j⟩ =>
 Option.bind (p15 fu (((List.getD c (Int.toNat i) (dflt T_gazetteref11_Wire)).2).1, ())) fun ⟨_, k⟩ =>
 bif h then
 bif (((((List.getD c (Int.toNat i) (dflt T_gazetteref11_Wire)).2).2).1) == a) then
 bif j then
 bif ((((((List.getD c (Int.toNat i) (dflt T_gazetteref11_Wire)).2).2).2).1) != a) then
 some (.inl ((k, IntKind.wrap .i64 (i + (1 : Int)), ()), ()))
 else
 some (.inl ((false, IntKind.wrap .i64 (i + (1 : Int)), ()), ()))
 else
 some (.inl ((false, IntKind.wrap .i64 (i + (1 : Int)), ()), ()))
 else
 some (.inl ((false, IntKind.wrap .i64 (i + (1 : Int)), ()), ()))
 else
 some (.inl ((false, IntKind.wrap .i64 (i + (1 : Int)), ()), ()))
 else none
 else none
 else
 inrO (bif !h then
 some ((), ([], (1 : Int), ()))
 else
 loopO (S := ((Bool) × ((Int) × (Unit))) × (Unit)) fu (fun ⟨⟨l, m, _⟩, _⟩ =>
 bif decide (m < (List.length c : Int)) then
 bif decide ((0 : Int) ≤ m ∧ m < (List.length c : Int)) then
 bif decide (Int.toNat m < List.length c) then
 Option.bind (p16 fu ((((List.getD c (Int.toNat m) (dflt T_gazetteref11_Wire)).2).1, (((List.getD c (Int.toNat m) (dflt T_gazetteref11_Wire)).2).2).1, ((((List.getD c (Int.toNat m) (dflt T_gazetteref11_Wire)).2).2).2).1, (((((List.getD c (Int.toNat m) (dflt T_gazetteref11_Wire)).2).2).2).2).1, ((((((List.getD c (Int.toNat m) (dflt T_gazetteref11_Wire)).2).2).2).2).2).1, (((((((List.getD c (Int.toNat m) (dflt T_gazetteref11_Wire)).2).2).2).2).2).2).1, ((((((((List.getD c (Int.toNat m) (dflt T_gazetteref11_Wire)).2).2).2).2).2).2).2).1, (((((((((List.getD c (Int.toNat m) (dflt T_gazetteref11_Wire)).2).2).2).2).2).2).2).2).1, ((((((((((List.getD c (Int.toNat m) (dflt T_gazetteref11_Wire)).2).2).2).2).2).2).2).2).2).1, (((((((((((List.getD c (Int.toNat m) (dflt T_gazetteref11_Wire)).2).2).2).2).2).2).2).2).2).2).1, (((((((((((((List.getD c (Int.toNat m) (dflt T_gazetteref11_Wire)).2).2).2).2).2).2).2).2).2).2).2).1).1, (((((((((((((List.getD c (Int.toNat m) (dflt T_gazetteref11_Wire)).2).2).2).2).2).2).2).2).2).2).2).1).2, (((((((((((((List.getD c (Int.toNat m) (dflt T_gazetteref11_Wire)).2).2).2).2).2).2).2).2).2).2).2).2).1, (((((((((((((List.getD c (Int.toNat m) (dflt T_gazetteref11_Wire)).2).2).2).2).2).2).2).2).2).2).2).2).2, ()), ())) fun ⟨_, n⟩ =>
 bif l then
 some (.inl ((true, IntKind.wrap .i64 (m + (1 : Int)), ()), ()))
 else
 some (.inl ((n, IntKind.wrap .i64 (m + (1 : Int)), ()), ()))
 else none
 else none
 else
 inrO (bif l then
 some ((), ([], (2 : Int), ()))
 else
 loopO (S := ((List (D_api_Packet)) × ((Int) × (Unit))) × (Unit)) fu (fun ⟨⟨o, q, _⟩, _⟩ =>
 bif decide (q ≤ (7 : Int)) then
 loopO (S := ((Int) × ((Int) × ((List (Int)) × ((List (Int)) × ((Int) × (Unit)))))) × (Unit)) fu (fun ⟨⟨s, t, u, w, x, _⟩, _⟩ =>
 bif decide (x < (List.length c : Int)) then
 bif decide ((0 : Int) ≤ x ∧ x < (List.length c : Int)) then
 bif decide (Int.toNat x < List.length c) then
 bif ((((((List.getD c (Int.toNat x) (dflt T_gazetteref11_Wire)).2).2).2).1) != q) then
 bif decide (List.length u = List.length u) then
 bif decide (List.length w = List.length w) then
 some (.inl ((s, t, u, w, IntKind.wrap .i64 (x + (1 : Int)), ()), ()))
 else none
 else none
 else
 bif decide ((0 : Int) ≤ x ∧ x < (List.length c : Int)) then
 bif decide (Int.toNat x < List.length c) then
 Option.bind (p10 fu ((((List.getD c (Int.toNat x) (dflt T_gazetteref11_Wire)).2).1, (((List.getD c (Int.toNat x) (dflt T_gazetteref11_Wire)).2).2).1, ((((List.getD c (Int.toNat x) (dflt T_gazetteref11_Wire)).2).2).2).1, (((((List.getD c (Int.toNat x) (dflt T_gazetteref11_Wire)).2).2).2).2).1, ((((((List.getD c (Int.toNat x) (dflt T_gazetteref11_Wire)).2).2).2).2).2).1, (((((((List.getD c (Int.toNat x) (dflt T_gazetteref11_Wire)).2).2).2).2).2).2).1, ((((((((List.getD c (Int.toNat x) (dflt T_gazetteref11_Wire)).2).2).2).2).2).2).2).1, (((((((((List.getD c (Int.toNat x) (dflt T_gazetteref11_Wire)).2).2).2).2).2).2).2).2).1, ((((((((((List.getD c (Int.toNat x) (dflt T_gazetteref11_Wire)).2).2).2).2).2).2).2).2).2).1, (((((((((((List.getD c (Int.toNat x) (dflt T_gazetteref11_Wire)).2).2).2).2).2).2).2).2).2).2).1, (((((((((((((List.getD c (Int.toNat x) (dflt T_gazetteref11_Wire)).2).2).2).2).2).2).2).2).2).2).2).1).1, (((((((((((((List.getD c (Int.toNat x) (dflt T_gazetteref11_Wire)).2).2).2).2).2).2).2).2).2).2).2).1).2, (((((((((((((List.getD c (Int.toNat x) (dflt T_gazetteref11_Wire)).2).2).2).2).2).2).2).2).2).2).2).2).1, (((((((((((((List.getD c (Int.toNat x) (dflt T_gazetteref11_Wire)).2).2).2).2).2).2).2).2).2).2).2).2).2, ()), ())) fun ⟨_, y⟩ =>
 bif y then
 bif decide ((0 : Int) ≤ x ∧ x < (List.length c : Int)) then
 bif decide (Int.toNat x < List.length c) then
 Option.bind (p17 fu (((List.getD c (Int.toNat x) (dflt T_gazetteref11_Wire)).1, ((List.getD c (Int.toNat x) (dflt T_gazetteref11_Wire)).2).1, (((List.getD c (Int.toNat x) (dflt T_gazetteref11_Wire)).2).2).1, ((((List.getD c (Int.toNat x) (dflt T_gazetteref11_Wire)).2).2).2).1, (((((List.getD c (Int.toNat x) (dflt T_gazetteref11_Wire)).2).2).2).2).1, ((((((List.getD c (Int.toNat x) (dflt T_gazetteref11_Wire)).2).2).2).2).2).1, (((((((List.getD c (Int.toNat x) (dflt T_gazetteref11_Wire)).2).2).2).2).2).2).1, ((((((((List.getD c (Int.toNat x) (dflt T_gazetteref11_Wire)).2).2).2).2).2).2).2).1, (((((((((List.getD c (Int.toNat x) (dflt T_gazetteref11_Wire)).2).2).2).2).2).2).2).2).1, ((((((((((List.getD c (Int.toNat x) (dflt T_gazetteref11_Wire)).2).2).2).2).2).2).2).2).2).1, (((((((((((List.getD c (Int.toNat x) (dflt T_gazetteref11_Wire)).2).2).2).2).2).2).2).2).2).2).1, (((((((((((((List.getD c (Int.toNat x) (dflt T_gazetteref11_Wire)).2).2).2).2).2).2).2).2).2).2).2).1).1, (((((((((((((List.getD c (Int.toNat x) (dflt T_gazetteref11_Wire)).2).2).2).2).2).2).2).2).2).2).2).1).2, (((((((((((((List.getD c (Int.toNat x) (dflt T_gazetteref11_Wire)).2).2).2).2).2).2).2).2).2).2).2).2).1, (((((((((((((List.getD c (Int.toNat x) (dflt T_gazetteref11_Wire)).2).2).2).2).2).2).2).2).2).2).2).2).2, ()), ())) fun ⟨_, z⟩ =>
 bif decide (List.length u = List.length u) then
 bif decide (List.length z = List.length z) then
 bif decide (List.length u + List.length z ≤ maxLen ∧ (List.length u + List.length z) * 1 ≤ 140737488355328) then
 bif decide (List.length (u ++ z) = List.length (u ++ z)) then
 bif decide (List.length w = List.length w) then
 some (.inl ((IntKind.wrap .i64 (s + (1 : Int)), t, (u ++ z), w, IntKind.wrap .i64 (x + (1 : Int)), ()), ()))
 else none
 else none
 else none
 else none
 else none
 else none
 else none
 else
 bif decide ((0 : Int) ≤ x ∧ x < (List.length c : Int)) then
 bif decide (Int.toNat x < List.length c) then
 Option.bind (p18 fu (((List.getD c (Int.toNat x) (dflt T_gazetteref11_Wire)).1, ((List.getD c (Int.toNat x) (dflt T_gazetteref11_Wire)).2).1, (((List.getD c (Int.toNat x) (dflt T_gazetteref11_Wire)).2).2).1, ((((List.getD c (Int.toNat x) (dflt T_gazetteref11_Wire)).2).2).2).1, (((((List.getD c (Int.toNat x) (dflt T_gazetteref11_Wire)).2).2).2).2).1, ((((((List.getD c (Int.toNat x) (dflt T_gazetteref11_Wire)).2).2).2).2).2).1, (((((((List.getD c (Int.toNat x) (dflt T_gazetteref11_Wire)).2).2).2).2).2).2).1, ((((((((List.getD c (Int.toNat x) (dflt T_gazetteref11_Wire)).2).2).2).2).2).2).2).1, (((((((((List.getD c (Int.toNat x) (dflt T_gazetteref11_Wire)).2).2).2).2).2).2).2).2).1, ((((((((((List.getD c (Int.toNat x) (dflt T_gazetteref11_Wire)).2).2).2).2).2).2).2).2).2).1, (((((((((((List.getD c (Int.toNat x) (dflt T_gazetteref11_Wire)).2).2).2).2).2).2).2).2).2).2).1, (((((((((((((List.getD c (Int.toNat x) (dflt T_gazetteref11_Wire)).2).2).2).2).2).2).2).2).2).2).2).1).1, (((((((((((((List.getD c (Int.toNat x) (dflt T_gazetteref11_Wire)).2).2).2).2).2).2).2).2).2).2).2).1).2, (((((((((((((List.getD c (Int.toNat x) (dflt T_gazetteref11_Wire)).2).2).2).2).2).2).2).2).2).2).2).2).1, (((((((((((((List.getD c (Int.toNat x) (dflt T_gazetteref11_Wire)).2).2).2).2).2).2).2).2).2).2).2).2).2, ()), ())) fun ⟨_, a0⟩ =>
 bif decide (List.length w = List.length w) then
 bif decide (List.length a0 = List.length a0) then
 bif decide (List.length w + List.length a0 ≤ maxLen ∧ (List.length w + List.length a0) * 1 ≤ 140737488355328) then
 bif decide (List.length u = List.length u) then
 bif decide (List.length (w ++ a0) = List.length (w ++ a0)) then
 some (.inl ((s, IntKind.wrap .i64 (t + (1 : Int)), u, (w ++ a0), IntKind.wrap .i64 (x + (1 : Int)), ()), ()))
 else none
 else none
 else none
 else none
 else none
 else none
 else none
 else none
 else none
 else none
 else none
 else
 inrO (orK (E := ((List (D_api_Packet)) × (Unit)) × (Unit))
 (bif decide (s > (0 : Int)) then
 Option.bind (p19 fu (IntKind.wrap .u64 s, ())) fun ⟨_, c0⟩ =>
 bif decide (List.length c0 = List.length c0) then
 bif decide (List.length u = List.length u) then
 bif decide (List.length c0 + List.length u ≤ maxLen ∧ (List.length c0 + List.length u) * 1 ≤ 140737488355328) then
 bif decide (List.length (c0 ++ u) = List.length (c0 ++ u)) then
 bif decide (List.length o = List.length o) then
 bif decide (List.length o + List.length ([(a, q, (2 : Int), (c0 ++ u))]) ≤ maxLen ∧ (List.length o + List.length ([(a, q, (2 : Int), (c0 ++ u))])) * 48 ≤ 140737488355328) then
 bif decide (List.length (o ++ [(a, q, (2 : Int), (c0 ++ u))]) = List.length (o ++ [(a, q, (2 : Int), (c0 ++ u))])) then
 some (.inl (((o ++ [(a, q, (2 : Int), (c0 ++ u))]), ()), ()))
 else none
 else none
 else none
 else none
 else none
 else none
 else none
 else
 bif decide (List.length o = List.length o) then
 some (.inl ((o, ()), ()))
 else none)
 fun ⟨⟨o, _⟩, _⟩ =>
 bif decide (t > (0 : Int)) then
 Option.bind (p19 fu (IntKind.wrap .u64 t, ())) fun ⟨_, f0⟩ =>
 bif decide (List.length f0 = List.length f0) then
 bif decide (List.length w = List.length w) then
 bif decide (List.length f0 + List.length w ≤ maxLen ∧ (List.length f0 + List.length w) * 1 ≤ 140737488355328) then
 bif decide (List.length (f0 ++ w) = List.length (f0 ++ w)) then
 bif decide (List.length o = List.length o) then
 bif decide (List.length o + List.length ([(a, q, (1 : Int), (f0 ++ w))]) ≤ maxLen ∧ (List.length o + List.length ([(a, q, (1 : Int), (f0 ++ w))])) * 48 ≤ 140737488355328) then
 bif decide (List.length (o ++ [(a, q, (1 : Int), (f0 ++ w))]) = List.length (o ++ [(a, q, (1 : Int), (f0 ++ w))])) then
 some (.inl (((o ++ [(a, q, (1 : Int), (f0 ++ w))]), IntKind.wrap .i64 (q + (1 : Int)), ()), ()))
 else none
 else none
 else none
 else none
 else none
 else none
 else none
 else
 bif decide (List.length o = List.length o) then
 some (.inl ((o, IntKind.wrap .i64 (q + (1 : Int)), ()), ()))
 else none))
 (((0 : Int), (0 : Int), [], [], (0 : Int), ()), ())
 else
 inrO (bif decide (List.length o = List.length o) then
 some ((), (o, (0 : Int), ()))
 else none))
 (([], (1 : Int), ()), ())))
 ((decide ((List.length c : Int) > (4096 : Int)), (0 : Int), ()), ())))
 ((f, (0 : Int), ()), ())
def e8 (fu : Nat) : Ent := ⟨8, (.cons (.hole (.int .i64)) (.cons (.hole (.sl T_gazetteref11_Wire)) .nil)), .nil, (.tup 2 (.cons (.own .own 46 T_api_Packet) (.cons (.hole (.int .i64)) .nil))), p8 fu⟩
def d8 (fu : Nat) : DC := (.seq (.region [opD 4 (.mov (.const vS)), opD 5 (.mov (cD 0))] [[], [0]] false) (.seq (.region [mvD 22 0, oqD 23 (.call 14 [(tD 22)]) (.ent (e14 fu)), mvD 6 23] [[], [0], [1, 1, 0, 1]] false) (.seq (.seq (.region [opD 7 (.mov (cD 0))] [[]] false) (.block 0 (.loop ⟨[6, 7], (.cons (.hole .bool) (.cons (.hole (.int .i64)) .nil)), [], .nil, [0, 1], []⟩
 (.seq (.seq (.region [mvD 24 7, mvD 25 1, opD 26 (.len false (tD 25)), opD 27 (.bin .lss (tD 24) (tD 26))] [[], [], [1], [0, 2]] false) (.cond (.tmp 27) .skip (.exit 0))) (.seq (.block 1 (.seq (.region [mvD 30 1, mvD 31 7, opD 32 (.iaddr 15 (tD 30) (tD 31)), opD 33 (.faddr 1 (tD 32)), opD 34 (.load true 14 (tD 33)), opD 8 (.alloc 40 14 [vI, vI, vI, vU, vU, vU, vS, vU, vB, vU, vS, vS, vS, vB]), onD (.store 14 (tD 8) (tD 34))] [[], [], [0, 1], [2], [3], [], [5, 4, 0, 1, 2, 3, 4, 5]] false) (.seq (.region [opD 35 (.faddr 2 (tD 8)), opD 36 (.load false 1 (tD 35)), oqD 37 (.call 14 [(tD 36)]) (.ent (e14 fu)), mvD 9 37] [[], [0], [1], [2, 2, 0, 1, 2]] false) (.seq (.region [opD 38 (.faddr 0 (tD 8)), opD 39 (.load false 1 (tD 38)), oqD 40 (.call 15 [(tD 39)]) (.ent (e15 fu)), mvD 10 40] [[], [0], [1], [2, 2, 0, 1, 2]] false) (.region [mvD 41 6, mvD 42 41, ogD 43 42 true (.faddr 1 (tD 8)), ogD 44 42 true (.load false 1 (tD 43)), ogD 45 42 true (.mov (tD 0)), ogD 46 42 true (.bin .eql (tD 44) (tD 45)), opD 47 (.pick (tD 42) (tD 46) (.const vB)), mvD 48 47, ogD 49 48 true (.mov (tD 9)), opD 50 (.pick (tD 48) (tD 49) (.const vB)), mvD 51 50, ogD 52 51 true (.faddr 2 (tD 8)), ogD 53 51 true (.load false 1 (tD 52)), ogD 54 51 true (.mov (tD 0)), ogD 55 51 true (.bin .neq (tD 53) (tD 54)), opD 56 (.pick (tD 51) (tD 55) (.const vB)), mvD 57 56, ogD 58 57 true (.mov (tD 10)), opD 59 (.pick (tD 57) (tD 58) (.const vB)), mvD 6 59] [[], [0], [1], [2, 1], [1], [3, 4, 1], [1, 5], [6, 1], [7], [7, 8], [9, 7], [10], [11, 10], [10], [12, 13, 10], [10, 14], [15, 10], [16], [16, 17], [18, 16, 0, 1, 2, 3, 4, 5, 6, 7, 8, 9, 10, 11, 12, 13, 14, 15, 16, 17, 18]] false))))) (.region [mvD 28 7, opD 29 (.bin .add (tD 28) (cD 1)), mvD 7 29] [[], [0], [1, 0, 1]] false)))))) (.seq (.seq (.region [mvD 60 6, opD 61 (.not (tD 60))] [[], [0]] false) (.cond (.tmp 61) (.seq (.region [opD 4 (.mov (.const vS)), opD 5 (.mov (cD 1))] [[], [0, 0]] false) .ret) .skip)) (.seq (.region [mvD 62 1, opD 63 (.len false (tD 62)), opD 64 (.bin .gtr (tD 63) (cD 4096)), mvD 11 64] [[], [0], [1], [2, 0, 1, 2]] false) (.seq (.seq (.region [opD 12 (.mov (cD 0))] [[]] false) (.block 2 (.loop ⟨[11, 12], (.cons (.hole .bool) (.cons (.hole (.int .i64)) .nil)), [], .nil, [0, 1], []⟩
 (.seq (.seq (.region [mvD 65 12, mvD 66 1, opD 67 (.len false (tD 66)), opD 68 (.bin .lss (tD 65) (tD 67))] [[], [], [1], [0, 2]] false) (.cond (.tmp 68) .skip (.exit 2))) (.seq (.block 3 (.seq (.region [mvD 71 1, mvD 72 12, opD 73 (.iaddr 15 (tD 71) (tD 72)), opD 74 (.faddr 1 (tD 73)), opD 75 (.load true 14 (tD 74)), oqD 76 (.call 16 [(tD 75)]) (.ent (e16 fu)), mvD 13 76] [[], [], [0, 1], [2], [3], [4], [5, 5, 0, 1, 2, 3, 4, 5]] false) (.region [mvD 77 11, mvD 78 77, ogD 79 78 false (.mov (tD 13)), opD 80 (.pick (tD 78) (.const (.bool true)) (tD 79)), mvD 11 80] [[], [0], [1], [1, 2], [3, 1, 0, 1, 2, 3]] false))) (.region [mvD 69 12, opD 70 (.bin .add (tD 69) (cD 1)), mvD 12 70] [[], [0], [1, 0, 1]] false)))))) (.seq (.seq (.region [mvD 81 11] [[]] false) (.cond (.tmp 81) (.seq (.region [opD 4 (.mov (.const vS)), opD 5 (.mov (cD 2))] [[], [0, 0]] false) .ret) .skip)) (.seq (.region [opD 14 (.mov (.const vS))] [[]] false) (.seq (.seq (.region [opD 15 (.mov (cD 1))] [[]] false) (.block 4 (.loop ⟨[14, 15], (.cons (.own .own 46 T_api_Packet) (.cons (.hole (.int .i64)) .nil)), [], .nil, [0, 1], []⟩
 (.seq (.seq (.region [mvD 82 15, opD 83 (.bin .leq (tD 82) (cD 7))] [[], [0]] false) (.cond (.tmp 83) .skip (.exit 4))) (.seq (.block 5 (.seq (.region [opD 16 (.mov (cD 0))] [[]] false) (.seq (.region [opD 17 (.mov (cD 0))] [[]] false) (.seq (.region [opD 18 (.mov (.const vS))] [[]] false) (.seq (.region [opD 19 (.mov (.const vS))] [[]] false) (.seq (.seq (.region [opD 20 (.mov (cD 0))] [[]] false) (.block 6 (.loop ⟨[16, 17, 18, 19, 20], (.cons (.hole (.int .i64)) (.cons (.hole (.int .i64)) (.cons (.own .own 5 (.int .u8)) (.cons (.own .own 5 (.int .u8)) (.cons (.hole (.int .i64)) .nil))))), [], .nil, [0, 1, 14, 15], [384]⟩
 (.seq (.seq (.region [mvD 86 20, mvD 87 1, opD 88 (.len false (tD 87)), opD 89 (.bin .lss (tD 86) (tD 88))] [[], [], [1], [0, 2]] false) (.cond (.tmp 89) .skip (.exit 6))) (.seq (.block 7 (.seq (.seq (.region [mvD 92 1, mvD 93 20, opD 94 (.iaddr 15 (tD 92) (tD 93)), opD 95 (.faddr 1 (tD 94)), opD 96 (.faddr 2 (tD 95)), opD 97 (.load false 1 (tD 96)), mvD 98 15, opD 99 (.bin .neq (tD 97) (tD 98))] [[], [], [0, 1], [2], [3], [4], [], [5, 6]] false) (.cond (.tmp 99) (.exit 7) .skip)) (.seq (.region [mvD 100 1, mvD 101 20, opD 102 (.iaddr 15 (tD 100) (tD 101)), opD 103 (.faddr 1 (tD 102)), opD 104 (.load true 14 (tD 103)), oqD 105 (.call 10 [(tD 104)]) (.ent (e10 fu)), mvD 21 105] [[], [], [0, 1], [2], [3], [4], [5, 5, 0, 1, 2, 3, 4, 5]] false) (.seq (.region [mvD 106 21] [[]] false) (.cond (.tmp 106) (.seq (.region [mvD 107 16, opD 108 (.bin .add (tD 107) (cD 1)), mvD 16 108] [[], [0], [1, 0, 1]] false) (.region [mvD 109 18, mvD 110 1, mvD 111 20, opD 112 (.iaddr 15 (tD 110) (tD 111)), opD 113 (.load true 15 (tD 112)), oqD 114 (.call 17 [(tD 113)]) (.ent (e17 fu)), oqD 115 (.app 5 1 [(.int .u8 0)] 1 (tD 109) (tD 114)) (.ty (.int .u8)), mvD 18 115] [[], [], [], [1, 2], [3], [4], [0, 5, 5], [6, 6, 0, 1, 2, 3, 4, 5, 6]] false)) (.seq (.region [mvD 116 17, opD 117 (.bin .add (tD 116) (cD 1)), mvD 17 117] [[], [0], [1, 0, 1]] false) (.region [mvD 118 19, mvD 119 1, mvD 120 20, opD 121 (.iaddr 15 (tD 119) (tD 120)), opD 122 (.load true 15 (tD 121)), oqD 123 (.call 18 [(tD 122)]) (.ent (e18 fu)), oqD 124 (.app 5 1 [(.int .u8 0)] 1 (tD 118) (tD 123)) (.ty (.int .u8)), mvD 19 124] [[], [], [], [1, 2], [3], [4], [0, 5, 5], [6, 6, 0, 1, 2, 3, 4, 5, 6]] false))))))) (.region [mvD 90 20, opD 91 (.bin .add (tD 90) (cD 1)), mvD 20 91] [[], [0], [1, 0, 1]] false)))))) (.join ⟨[14], (.cons (.own .own 46 T_api_Packet) .nil), [], .nil, [0, 1, 15, 17, 19], [498]⟩
 (.seq (.region [mvD 125 16, opD 126 (.bin .gtr (tD 125) (cD 0))] [[], [0]] false) (.cond (.tmp 126) (.region [mvD 127 14, mvD 128 0, mvD 129 15, mvD 130 16, opD 131 (.conv .u64 (tD 130)), oqD 132 (.call 19 [(tD 131)]) (.ent (e19 fu)), mvD 133 18, oqD 134 (.app 5 1 [(.int .u8 0)] 1 (tD 132) (tD 133)) (.ty (.int .u8)), opD 135 (.build 4 [vI, vI, vI, vS] [(0, (1, (tD 128))), (1, (1, (tD 129))), (2, (1, (cD 2))), (3, (1, (tD 134)))]), oqD 136 (.bslice 46 4 1 [vI, vI, vI, vS] [(0, (tD 135))]) (.ty T_api_Packet), oqD 137 (.app 46 4 [vI, vI, vI, vS] 48 (tD 127) (tD 136)) (.ty T_api_Packet), mvD 14 137] [[], [], [], [], [3], [4], [], [5, 6, 5], [1, 2, 7], [8], [0, 9, 7], [10, 10, 0, 1, 2, 3, 4, 5, 6, 7, 8, 9, 10]] false) .skip))
 (.seq (.region [mvD 138 17, opD 139 (.bin .gtr (tD 138) (cD 0))] [[], [0]] false) (.cond (.tmp 139) (.region [mvD 140 14, mvD 141 0, mvD 142 15, mvD 143 17, opD 144 (.conv .u64 (tD 143)), oqD 145 (.call 19 [(tD 144)]) (.ent (e19 fu)), mvD 146 19, oqD 147 (.app 5 1 [(.int .u8 0)] 1 (tD 145) (tD 146)) (.ty (.int .u8)), opD 148 (.build 4 [vI, vI, vI, vS] [(0, (1, (tD 141))), (1, (1, (tD 142))), (2, (1, (cD 1))), (3, (1, (tD 147)))]), oqD 149 (.bslice 46 4 1 [vI, vI, vI, vS] [(0, (tD 148))]) (.ty T_api_Packet), oqD 150 (.app 46 4 [vI, vI, vI, vS] 48 (tD 140) (tD 149)) (.ty T_api_Packet), mvD 14 150] [[], [], [], [], [3], [4], [], [5, 6, 5], [1, 2, 7], [8], [0, 9, 7], [10, 10, 0, 1, 2, 3, 4, 5, 6, 7, 8, 9, 10]] false) .skip))))))))) (.region [mvD 84 15, opD 85 (.bin .add (tD 84) (cD 1)), mvD 15 85] [[], [0], [1, 0, 1]] false)))))) (.seq (.region [mvD 151 14, mvD 4 151, opD 5 (.mov (cD 0))] [[], [0, 0], [1, 0, 1]] false) .ret))))))))))
set_option maxRecDepth 1000000 in
theorem g8 (fu : Nat) : (e8 fu).Good Try.prog := good_fn orders Try.func8 fu (d8 fu) rs8 152 (l := [e14 fu, e14 fu, e15 fu, e16 fu, e10 fu, e17 fu, e18 fu, e19 fu, e19 fu]) ⟨g14 fu, g14 fu, g15 fu, g16 fu, g10 fu, g17 fu, g18 fu, g19 fu, g19 fu, trivial⟩
def rs9 : List RVx := [(.tmp 2)]
/-- gazette/beats.Is -/
def p9 (_ : Nat) : (Z0) × (Unit) → Option ((Unit) × (Bool)) := fun ⟨⟨a, _, _, _, _, c, f, h, i, j, k, l, m, n, _⟩, _⟩ =>
orK (E := ((Bool) × (Unit)) × (Unit))
 (bif ((IntKind.wrap .i64 ((IntKind.wrap .i64 ((IntKind.wrap .i64 ((List.length f : Int) + (List.length k : Int))) + (List.length l : Int))) + (List.length m : Int))) == (0 : Int)) then
 bif !i then
 bif (j == (0 : Int)) then
 some (.inl ((!n, ()), ()))
 else
 some (.inl ((false, ()), ()))
 else
 some (.inl ((false, ()), ()))
 else
 some (.inl ((false, ()), ())))
 fun ⟨⟨o, _⟩, _⟩ =>
bif (a == (5 : Int)) then
 some ((), o)
else
 bif (a == (6 : Int)) then
 bif o then
 bif (c == (0 : Int)) then
 some ((), (h == (0 : Int)))
 else
 some ((), false)
 else
 some ((), false)
 else
 some ((), false)
def e9 (fu : Nat) : Ent := ⟨9, (.cons Y1 .nil), .nil, (.hole .bool), p9 fu⟩
def d9 (_ : Nat) : DC := (.seq (.region [opD 1 (.box 40 14 (tD 0)), opD 2 (.mov (.const vB))] [[], []] false) (.join ⟨[3], (.cons (.hole .bool) .nil), [], .nil, [1], [0]⟩
 (.region [opD 4 (.faddr 6 (tD 1)), opD 5 (.load false 1 (tD 4)), opD 6 (.len false (tD 5)), opD 7 (.faddr 10 (tD 1)), opD 8 (.faddr 0 (tD 7)), opD 9 (.load false 1 (tD 8)), opD 10 (.len false (tD 9)), opD 11 (.bin .add (tD 6) (tD 10)), opD 12 (.faddr 10 (tD 1)), opD 13 (.faddr 1 (tD 12)), opD 14 (.load false 1 (tD 13)), opD 15 (.len false (tD 14)), opD 16 (.bin .add (tD 11) (tD 15)), opD 17 (.faddr 12 (tD 1)), opD 18 (.load false 1 (tD 17)), opD 19 (.len false (tD 18)), opD 20 (.bin .add (tD 16) (tD 19)), opD 21 (.bin .eql (tD 20) (cD 0)), mvD 22 21, ogD 23 22 true (.faddr 8 (tD 1)), ogD 24 22 true (.load false 1 (tD 23)), ogD 25 22 true (.not (tD 24)), opD 26 (.pick (tD 22) (tD 25) (.const vB)), mvD 27 26, ogD 28 27 true (.faddr 9 (tD 1)), ogD 29 27 true (.load false 1 (tD 28)), ogD 30 27 true (.bin .eql (tD 29) (.const vU)), opD 31 (.pick (tD 27) (tD 30) (.const vB)), mvD 32 31, ogD 33 32 true (.faddr 13 (tD 1)), ogD 34 32 true (.load false 1 (tD 33)), ogD 35 32 true (.not (tD 34)), opD 36 (.pick (tD 32) (tD 35) (.const vB)), mvD 3 36] [[], [0], [1], [], [3], [4], [5], [2, 6], [], [8], [9], [10], [7, 11], [], [13], [14], [12, 15], [16], [17], [18], [19, 18], [20, 18], [18, 21], [22, 18], [23], [24, 23], [25, 23], [23, 26], [27, 23], [28], [29, 28], [30, 28], [28, 31], [32, 28, 0, 1, 2, 3, 4, 5, 6, 7, 8, 9, 10, 11, 12, 13, 14, 15, 16, 17, 18, 19, 20, 21, 22, 23, 24, 25, 26, 27, 28, 29, 30, 31, 32]] false)
 (.seq (.seq (.region [opD 37 (.faddr 0 (tD 1)), opD 38 (.load false 1 (tD 37))] [[], [0]] false) (.block 0 (.seq (.region [opD 40 (.bin .eql (tD 38) (cD 5)), mvD 39 40] [[], [0]] false) (.cond (.tmp 39) (.seq (.region [mvD 41 3, mvD 2 41] [[], [0, 0]] false) .ret) (.seq (.region [opD 43 (.bin .eql (tD 38) (cD 6)), mvD 42 43] [[], [0]] false) (.cond (.tmp 42) (.seq (.region [mvD 44 3, mvD 45 44, ogD 46 45 true (.faddr 5 (tD 1)), ogD 47 45 true (.load false 1 (tD 46)), ogD 48 45 true (.bin .eql (tD 47) (.const vU)), opD 49 (.pick (tD 45) (tD 48) (.const vB)), mvD 50 49, ogD 51 50 true (.faddr 7 (tD 1)), ogD 52 50 true (.load false 1 (tD 51)), ogD 53 50 true (.bin .eql (tD 52) (.const vU)), opD 54 (.pick (tD 50) (tD 53) (.const vB)), mvD 2 54] [[], [0], [1], [2, 1], [3, 1], [1, 4], [5, 1], [6], [7, 6], [8, 6], [6, 9], [10, 6, 0, 1, 2, 3, 4, 5, 6, 7, 8, 9, 10]] false) .ret) .skip)))))) (.seq (.region [opD 2 (.mov (.const vB))] [[]] false) .ret))))
set_option maxRecDepth 1000000 in
theorem g9 (fu : Nat) : (e9 fu).Good Try.prog := good_fn orders Try.func9 fu (d9 fu) rs9 55 (l := []) trivial
def rs11 : List RVx := [(.tmp 4)]
/-- gazette/gazetteref03.Same -/
def p11 (fu : Nat) : (List (D_api_Packet)) × ((List (D_api_Packet)) × (Unit)) → Option ((Unit) × (Bool)) := fun ⟨a, c, _⟩ =>
bif ((List.length a : Int) != (List.length c : Int)) then
 some ((), false)
else
 loopO (S := ((Int) × (Unit)) × (Unit)) fu (fun ⟨⟨f, _⟩, _⟩ =>
 bif decide (f < (List.length a : Int)) then
 bif decide ((0 : Int) ≤ f ∧ f < (List.length a : Int)) then
 bif decide (Int.toNat f < List.length a) then
 bif decide ((0 : Int) ≤ f ∧ f < (List.length c : Int)) then
 bif decide (Int.toNat f < List.length c) then
 bif (((List.getD a (Int.toNat f) (dflt T_api_Packet)).1) != ((List.getD c (Int.toNat f) (dflt T_api_Packet)).1)) then
 inrO (some ((), false))
 else
 bif decide ((0 : Int) ≤ f ∧ f < (List.length a : Int)) then
 bif decide (Int.toNat f < List.length a) then
 bif decide ((0 : Int) ≤ f ∧ f < (List.length c : Int)) then
 bif decide (Int.toNat f < List.length c) then
 bif ((((List.getD a (Int.toNat f) (dflt T_api_Packet)).2).1) != (((List.getD c (Int.toNat f) (dflt T_api_Packet)).2).1)) then
 inrO (some ((), false))
 else
 bif decide ((0 : Int) ≤ f ∧ f < (List.length a : Int)) then
 bif decide (Int.toNat f < List.length a) then
 bif decide ((0 : Int) ≤ f ∧ f < (List.length c : Int)) then
 bif decide (Int.toNat f < List.length c) then
 bif (((((List.getD a (Int.toNat f) (dflt T_api_Packet)).2).2).1) != ((((List.getD c (Int.toNat f) (dflt T_api_Packet)).2).2).1)) then
 inrO (some ((), false))
 else
 bif decide ((0 : Int) ≤ f ∧ f < (List.length a : Int)) then
 bif decide (Int.toNat f < List.length a) then
 bif decide ((0 : Int) ≤ f ∧ f < (List.length c : Int)) then
 bif decide (Int.toNat f < List.length c) then
 bif !(ByteArray.toList (strOfNums ((((List.getD a (Int.toNat f) (dflt T_api_Packet)).2).2).2)) == ByteArray.toList (strOfNums ((((List.getD c (Int.toNat f) (dflt T_api_Packet)).2).2).2))) then
 inrO (some ((), false))
 else
 some (.inl ((IntKind.wrap .i64 (f + (1 : Int)), ()), ()))
 else none
 else none
 else none
 else none
 else none
 else none
 else none
 else none
 else none
 else none
 else none
 else none
 else none
 else none
 else none
 else none
 else
 inrO (some ((), true)))
 (((0 : Int), ()), ())
def e11 (fu : Nat) : Ent := ⟨11, (.cons (.hole (.sl T_api_Packet)) (.cons (.hole (.sl T_api_Packet)) .nil)), .nil, (.hole .bool), p11 fu⟩
def d11 (_ : Nat) : DC := (.seq (.region [opD 4 (.mov (.const vB))] [[]] false) (.seq (.seq (.region [mvD 6 0, opD 7 (.len false (tD 6)), mvD 8 1, opD 9 (.len false (tD 8)), opD 10 (.bin .neq (tD 7) (tD 9))] [[], [0], [], [2], [1, 3]] false) (.cond (.tmp 10) (.seq (.region [opD 4 (.mov (.const vB))] [[]] false) .ret) .skip)) (.seq (.seq (.region [opD 5 (.mov (cD 0))] [[]] false) (.block 0 (.loop ⟨[5], (.cons (.hole (.int .i64)) .nil), [], .nil, [0, 1], []⟩
 (.seq (.seq (.region [mvD 11 5, mvD 12 0, opD 13 (.len false (tD 12)), opD 14 (.bin .lss (tD 11) (tD 13))] [[], [], [1], [0, 2]] false) (.cond (.tmp 14) .skip (.exit 0))) (.seq (.block 1 (.seq (.region [mvD 17 0, mvD 18 5, opD 19 (.iaddr 4 (tD 17) (tD 18)), opD 20 (.faddr 0 (tD 19)), opD 21 (.load false 1 (tD 20)), mvD 22 1, mvD 23 5, opD 24 (.iaddr 4 (tD 22) (tD 23)), opD 25 (.faddr 0 (tD 24)), opD 26 (.load false 1 (tD 25)), opD 27 (.bin .neq (tD 21) (tD 26)), mvD 28 27, ogD 29 28 false (.mov (tD 0)), ogD 30 28 false (.mov (tD 5)), ogD 31 28 false (.iaddr 4 (tD 29) (tD 30)), ogD 32 28 false (.faddr 1 (tD 31)), ogD 33 28 false (.load false 1 (tD 32)), ogD 34 28 false (.mov (tD 1)), ogD 35 28 false (.mov (tD 5)), ogD 36 28 false (.iaddr 4 (tD 34) (tD 35)), ogD 37 28 false (.faddr 1 (tD 36)), ogD 38 28 false (.load false 1 (tD 37)), ogD 39 28 false (.bin .neq (tD 33) (tD 38)), opD 40 (.pick (tD 28) (.const (.bool true)) (tD 39)), mvD 41 40, ogD 42 41 false (.mov (tD 0)), ogD 43 41 false (.mov (tD 5)), ogD 44 41 false (.iaddr 4 (tD 42) (tD 43)), ogD 45 41 false (.faddr 2 (tD 44)), ogD 46 41 false (.load false 1 (tD 45)), ogD 47 41 false (.mov (tD 1)), ogD 48 41 false (.mov (tD 5)), ogD 49 41 false (.iaddr 4 (tD 47) (tD 48)), ogD 50 41 false (.faddr 2 (tD 49)), ogD 51 41 false (.load false 1 (tD 50)), ogD 52 41 false (.bin .neq (tD 46) (tD 51)), opD 53 (.pick (tD 41) (.const (.bool true)) (tD 52)), mvD 54 53, ogD 55 54 false (.mov (tD 0)), ogD 56 54 false (.mov (tD 5)), ogD 57 54 false (.iaddr 4 (tD 55) (tD 56)), ogD 58 54 false (.faddr 3 (tD 57)), ogD 59 54 false (.load false 1 (tD 58)), ogD 60 54 false (.b2s (tD 59)), ogD 61 54 false (.mov (tD 1)), ogD 62 54 false (.mov (tD 5)), ogD 63 54 false (.iaddr 4 (tD 61) (tD 62)), ogD 64 54 false (.faddr 3 (tD 63)), ogD 65 54 false (.load false 1 (tD 64)), ogD 66 54 false (.b2s (tD 65)), ogD 67 54 false (.bin .neq (tD 60) (tD 66)), opD 68 (.pick (tD 54) (.const (.bool true)) (tD 67))] [[], [], [0, 1], [2], [3], [], [], [5, 6], [7], [8], [4, 9], [10], [11], [11], [12, 13, 11], [14, 11], [15, 11], [11], [11], [17, 18, 11], [19, 11], [20, 11], [16, 21, 11], [11, 22], [23, 11], [24], [24], [25, 26, 24], [27, 24], [28, 24], [24], [24], [30, 31, 24], [32, 24], [33, 24], [29, 34, 24], [24, 35], [36, 24], [37], [37], [38, 39, 37], [40, 37], [41, 37], [42, 37], [37], [37], [44, 45, 37], [46, 37], [47, 37], [48, 37], [43, 49, 37], [37, 50]] true) (.cond (.tmp 68) (.seq (.region [opD 4 (.mov (.const vB))] [[]] false) .ret) .skip))) (.region [mvD 15 5, opD 16 (.bin .add (tD 15) (cD 1)), mvD 5 16] [[], [0], [1, 0, 1]] false)))))) (.seq (.region [opD 4 (.mov (.const (.bool true)))] [[]] false) .ret))))
set_option maxRecDepth 1000000 in
theorem g11 (fu : Nat) : (e11 fu).Good Try.prog := good_fn orders Try.func11 fu (d11 fu) rs11 69 (l := []) trivial
def rs3 : List RVx := [(.tmp 4)]
/-- gazette/gazettelaw11.BeatsPacks -/
def p3 (fu : Nat) : (Int) × ((List (D_gazetteref11_Wire)) × (Unit)) → Option ((Unit) × (Bool)) := fun ⟨a, c, _⟩ =>
Option.bind (p5 fu ()) fun ⟨_, f⟩ =>
Option.bind (p7 fu (c, ())) fun ⟨_, h⟩ =>
bif decide (List.length h = List.length h) then
 Option.bind (pPack fu (a, h, ())) fun ⟨_, ⟨i, j, _⟩⟩ =>
 Option.bind (p8 fu (a, c, ())) fun ⟨_, ⟨k, l, _⟩⟩ =>
 loopO (S := ((Int) × (Unit)) × (Unit)) fu (fun ⟨⟨m, _⟩, _⟩ =>
 bif decide (m < (List.length c : Int)) then
 bif decide ((0 : Int) ≤ m ∧ m < (List.length c : Int)) then
 bif decide (Int.toNat m < List.length c) then
 Option.bind (p9 fu ((((List.getD c (Int.toNat m) (dflt T_gazetteref11_Wire)).2).1, (((List.getD c (Int.toNat m) (dflt T_gazetteref11_Wire)).2).2).1, ((((List.getD c (Int.toNat m) (dflt T_gazetteref11_Wire)).2).2).2).1, (((((List.getD c (Int.toNat m) (dflt T_gazetteref11_Wire)).2).2).2).2).1, ((((((List.getD c (Int.toNat m) (dflt T_gazetteref11_Wire)).2).2).2).2).2).1, (((((((List.getD c (Int.toNat m) (dflt T_gazetteref11_Wire)).2).2).2).2).2).2).1, ((((((((List.getD c (Int.toNat m) (dflt T_gazetteref11_Wire)).2).2).2).2).2).2).2).1, (((((((((List.getD c (Int.toNat m) (dflt T_gazetteref11_Wire)).2).2).2).2).2).2).2).2).1, ((((((((((List.getD c (Int.toNat m) (dflt T_gazetteref11_Wire)).2).2).2).2).2).2).2).2).2).1, (((((((((((List.getD c (Int.toNat m) (dflt T_gazetteref11_Wire)).2).2).2).2).2).2).2).2).2).2).1, (((((((((((((List.getD c (Int.toNat m) (dflt T_gazetteref11_Wire)).2).2).2).2).2).2).2).2).2).2).2).1).1, (((((((((((((List.getD c (Int.toNat m) (dflt T_gazetteref11_Wire)).2).2).2).2).2).2).2).2).2).2).2).1).2, (((((((((((((List.getD c (Int.toNat m) (dflt T_gazetteref11_Wire)).2).2).2).2).2).2).2).2).2).2).2).2).1, (((((((((((((List.getD c (Int.toNat m) (dflt T_gazetteref11_Wire)).2).2).2).2).2).2).2).2).2).2).2).2).2, ()), ())) fun ⟨_, n⟩ =>
 bif decide ((0 : Int) ≤ m ∧ m < (List.length c : Int)) then
 bif decide (Int.toNat m < List.length c) then
 Option.bind (p10 fu ((((List.getD c (Int.toNat m) (dflt T_gazetteref11_Wire)).2).1, (((List.getD c (Int.toNat m) (dflt T_gazetteref11_Wire)).2).2).1, ((((List.getD c (Int.toNat m) (dflt T_gazetteref11_Wire)).2).2).2).1, (((((List.getD c (Int.toNat m) (dflt T_gazetteref11_Wire)).2).2).2).2).1, ((((((List.getD c (Int.toNat m) (dflt T_gazetteref11_Wire)).2).2).2).2).2).1, (((((((List.getD c (Int.toNat m) (dflt T_gazetteref11_Wire)).2).2).2).2).2).2).1, ((((((((List.getD c (Int.toNat m) (dflt T_gazetteref11_Wire)).2).2).2).2).2).2).2).1, (((((((((List.getD c (Int.toNat m) (dflt T_gazetteref11_Wire)).2).2).2).2).2).2).2).2).1, ((((((((((List.getD c (Int.toNat m) (dflt T_gazetteref11_Wire)).2).2).2).2).2).2).2).2).2).1, (((((((((((List.getD c (Int.toNat m) (dflt T_gazetteref11_Wire)).2).2).2).2).2).2).2).2).2).2).1, (((((((((((((List.getD c (Int.toNat m) (dflt T_gazetteref11_Wire)).2).2).2).2).2).2).2).2).2).2).2).1).1, (((((((((((((List.getD c (Int.toNat m) (dflt T_gazetteref11_Wire)).2).2).2).2).2).2).2).2).2).2).2).1).2, (((((((((((((List.getD c (Int.toNat m) (dflt T_gazetteref11_Wire)).2).2).2).2).2).2).2).2).2).2).2).2).1, (((((((((((((List.getD c (Int.toNat m) (dflt T_gazetteref11_Wire)).2).2).2).2).2).2).2).2).2).2).2).2).2, ()), ())) fun ⟨_, o⟩ =>
 bif !(n == o) then
 inrO (some ((), false))
 else
 some (.inl ((IntKind.wrap .i64 (m + (1 : Int)), ()), ()))
 else none
 else none
 else none
 else none
 else
 inrO (bif f then
 bif (j == l) then
 bif decide (List.length i = List.length i) then
 bif decide (List.length k = List.length k) then
 Option.bind (p11 fu (i, k, ())) fun ⟨_, q⟩ =>
 some ((), q)
 else none
 else none
 else
 some ((), false)
 else
 some ((), false)))
 (((0 : Int), ()), ())
else none
def e3 (fu : Nat) : Ent := ⟨3, (.cons (.hole (.int .i64)) (.cons (.hole (.sl T_gazetteref11_Wire)) .nil)), .nil, (.hole .bool), p3 fu⟩
def d3 (fu : Nat) : DC := (.seq (.region [opD 4 (.mov (.const vB))] [[]] false) (.seq (.region [oqD 11 (.call 5 []) (.ent (e5 fu)), mvD 5 11] [[], [0, 0, 0]] false) (.seq (.region [mvD 13 0, mvD 14 1, oqD 15 (.call 7 [(tD 14)]) (.ent (e7 fu)), oqD 16 (.call 6 [(tD 13), (tD 15)]) (.ent (ePack fu)), mvD 12 16, opD 17 (.ext (tD 12) 0), opD 18 (.ext (tD 12) 1), mvD 6 17, mvD 7 18] [[], [], [1], [0, 2, 2], [3], [4], [4], [5, 3, 0, 1, 2, 3, 4, 5], [6, 7, 0, 1, 2, 3, 4, 5, 6, 7]] false) (.seq (.region [mvD 20 0, mvD 21 1, oqD 22 (.call 8 [(tD 20), (tD 21)]) (.ent (e8 fu)), mvD 19 22, opD 23 (.ext (tD 19) 0), opD 24 (.ext (tD 19) 1), mvD 8 23, mvD 9 24] [[], [], [0, 1], [2], [3], [3], [4, 2, 0, 1, 2, 3, 4], [5, 6, 0, 1, 2, 3, 4, 5, 6]] false) (.seq (.seq (.region [opD 10 (.mov (cD 0))] [[]] false) (.block 0 (.loop ⟨[10], (.cons (.hole (.int .i64)) .nil), [], .nil, [1, 5, 6, 7, 8, 9], [96, 224]⟩
 (.seq (.seq (.region [mvD 25 10, mvD 26 1, opD 27 (.len false (tD 26)), opD 28 (.bin .lss (tD 25) (tD 27))] [[], [], [1], [0, 2]] false) (.cond (.tmp 28) .skip (.exit 0))) (.seq (.block 1 (.seq (.region [mvD 31 1, mvD 32 10, opD 33 (.iaddr 15 (tD 31) (tD 32)), opD 34 (.faddr 1 (tD 33)), opD 35 (.load true 14 (tD 34)), oqD 36 (.call 9 [(tD 35)]) (.ent (e9 fu)), mvD 37 1, mvD 38 10, opD 39 (.iaddr 15 (tD 37) (tD 38)), opD 40 (.faddr 1 (tD 39)), opD 41 (.load true 14 (tD 40)), oqD 42 (.call 10 [(tD 41)]) (.ent (e10 fu)), opD 43 (.beq true (tD 36) (tD 42))] [[], [], [0, 1], [2], [3], [4], [], [], [6, 7], [8], [9], [10, 5], [5, 11]] true) (.cond (.tmp 43) (.seq (.region [opD 4 (.mov (.const vB))] [[]] false) .ret) .skip))) (.region [mvD 29 10, opD 30 (.bin .add (tD 29) (cD 1)), mvD 10 30] [[], [0], [1, 0, 1]] false)))))) (.seq (.region [mvD 44 5, mvD 45 44, ogD 46 45 true (.mov (tD 7)), ogD 47 45 true (.mov (tD 9)), ogD 48 45 true (.bin .eql (tD 46) (tD 47)), opD 49 (.pick (tD 45) (tD 48) (.const vB)), mvD 50 49, ogD 51 50 true (.mov (tD 6)), ogD 52 50 true (.mov (tD 8)), (⟨(some 53), (some (50, true)), (.call 11 [(tD 51), (tD 52)])⟩, (.ent (e11 fu))), opD 54 (.pick (tD 50) (tD 53) (.const vB)), mvD 4 54] [[], [0], [1], [1], [2, 3, 1], [1, 4], [5, 1], [6], [6], [7, 8, 6, 6], [6, 9], [10, 9, 0, 1, 2, 3, 4, 5, 6, 7, 8, 9, 10]] false) .ret))))))
set_option maxRecDepth 1000000 in
theorem g3 (fu : Nat) : (e3 fu).Good Try.prog := good_fn orders Try.func3 fu (d3 fu) rs3 55 (l := [e5 fu, e7 fu, ePack fu, e8 fu, e9 fu, e10 fu, e11 fu]) ⟨g5 fu, g7 fu, gPack fu, g8 fu, g9 fu, g10 fu, g11 fu, trivial⟩
end Go.Proofs.Ytahamggipcikgaa
