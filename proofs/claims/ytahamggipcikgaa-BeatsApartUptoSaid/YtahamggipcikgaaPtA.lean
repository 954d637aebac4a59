/-
  The functions, typed.
-/
import Derived.Test.YtahamggipcikgaaPkF
import Derived.Test.YtahamggipcikgaaDaL
import Derived.Test.YtahamggipcikgaaRows
namespace Go.Proofs.Ytahamggipcikgaa
open Go.RowKit
abbrev T_runtime_errorAddressString : Tp := (.pair .str (.int .u64))
abbrev D_runtime_errorAddressString := (ByteArray) × (Int)
abbrev T_beats_box : Tp := (.pair (.int .i64) (.int .i64))
abbrev D_beats_box := (Int) × (Int)
abbrev T_api_Conf : Tp := (.pair (.sl (.int .i64)) (.sl (.int .i64)))
abbrev D_api_Conf := (List (Int)) × (List (Int))
abbrev T_runtime_boundsError : Tp := (.pair (.int .i64) (.pair (.int .i64) (.pair .bool (.int .u8))))
abbrev D_runtime_boundsError := (Int) × ((Int) × ((Bool) × (Int)))
abbrev T_api_Packet : Tp := (.pair (.int .i64) (.pair (.int .i64) (.pair (.int .i64) (.sl (.int .u8)))))
abbrev D_api_Packet := (Int) × ((Int) × ((Int) × (List (Int))))
abbrev T_api_Entry : Tp := (.pair (.int .u64) (.pair (.int .u64) (.pair (.int .i64) (.pair (.sl (.int .u8)) T_api_Conf))))
abbrev D_api_Entry := (Int) × ((Int) × ((Int) × ((List (Int)) × (D_api_Conf))))
abbrev T_api_Msg : Tp := (.pair (.int .i64) (.pair (.int .i64) (.pair (.int .i64) (.pair (.int .u64) (.pair (.int .u64) (.pair (.int .u64) (.pair (.sl T_api_Entry) (.pair (.int .u64) (.pair .bool (.pair (.int .u64) (.pair T_api_Conf (.pair (.sl (.int .u8)) .bool))))))))))))
abbrev D_api_Msg := (Int) × ((Int) × ((Int) × ((Int) × ((Int) × ((Int) × ((List (D_api_Entry)) × ((Int) × ((Bool) × ((Int) × ((D_api_Conf) × ((List (Int)) × (Bool))))))))))))
abbrev T_gazetteref11_Wire : Tp := (.pair (.int .u64) T_api_Msg)
abbrev D_gazetteref11_Wire := (Int) × (D_api_Msg)
theorem orders : Try.prog.follows .mixedOrders = true := by kernel_rfl

def rs5 : List RVx := [(.tmp 0)]
/-- gazette/gazettelaw11.head -/
def p5 (fu : Nat) : Unit → Option ((Unit) × (Bool)) := fun _ =>
Option.bind (pPack fu ((1 : Int), [((5 : Int), (5 : Int), (1 : Int), (2 : Int), (3 : Int), (0 : Int), (0 : Int), [], (0 : Int), false, (0 : Int), ([], []), [], false), ((6 : Int), (3 : Int), (1 : Int), (2 : Int), (3 : Int), (0 : Int), (0 : Int), [], (0 : Int), false, (0 : Int), ([], []), [], false)], ())) fun ⟨_, ⟨a, c, _⟩⟩ =>
bif (c == (0 : Int)) then
 bif (((List.length a) : Int) == (2 : Int)) then
 bif decide ((0 : Int) ≤ 0 ∧ 0 < (List.length a : Int)) then
 bif decide (0 < List.length a) then
 bif (((((List.getD a 0 (dflt T_api_Packet)).2).2).1) == (2 : Int)) then
 bif decide ((0 : Int) ≤ 1 ∧ 1 < (List.length a : Int)) then
 bif decide (1 < List.length a) then
 some ((), (((((List.getD a 1 (dflt T_api_Packet)).2).2).1) == (1 : Int)))
 else none
 else none
 else
 some ((), false)
 else none
 else none
 else
 some ((), false)
else
 some ((), false)
def e5 (fu : Nat) : Ent := ⟨5, .nil, .nil, (.hole .bool), p5 fu⟩
def d5 (fu : Nat) : DC := (.seq (.region [opD 0 (.mov (.const vB))] [[]] false) (.seq (.region [opD 4 (.build 14 [vI, vI, vI, vU, vU, vU, vS, vU, vB, vU, vS, vS, vS, vB] [(0, (1, (cD 5))), (1, (1, (cD 1))), (2, (1, (cD 2))), (3, (1, (.const (.int .u64 3))))]), opD 5 (.build 15 [vU, vI, vI, vI, vU, vU, vU, vS, vU, vB, vU, vS, vS, vS, vB] [(0, (1, (.const (.int .u64 5)))), (1, (14, (tD 4)))]), opD 6 (.build 14 [vI, vI, vI, vU, vU, vU, vS, vU, vB, vU, vS, vS, vS, vB] [(0, (1, (cD 3))), (1, (1, (cD 1))), (2, (1, (cD 2))), (3, (1, (.const (.int .u64 3))))]), opD 7 (.build 15 [vU, vI, vI, vI, vU, vU, vU, vS, vU, vB, vU, vS, vS, vS, vB] [(0, (1, (.const (.int .u64 6)))), (1, (14, (tD 6)))]), oqD 8 (.bslice 48 15 2 [vU, vI, vI, vI, vU, vU, vU, vS, vU, vB, vU, vS, vS, vS, vB] [(0, (tD 5)), (1, (tD 7))]) (.ty T_gazetteref11_Wire), oqD 9 (.call 6 [(cD 1), (tD 8)]) (.ent (ePack fu)), mvD 3 9, opD 10 (.ext (tD 3) 0), opD 11 (.ext (tD 3) 1), mvD 1 10, mvD 2 11] [[], [0], [], [2], [1, 3], [4], [5], [6], [6], [7, 5, 0, 1, 2, 3, 4, 5, 6, 7], [8, 9, 0, 1, 2, 3, 4, 5, 6, 7, 8, 9]] false) (.seq (.region [mvD 12 2, opD 13 (.bin .eql (tD 12) (cD 0)), mvD 14 13, ogD 15 14 true (.mov (tD 1)), ogD 16 14 true (.len false (tD 15)), ogD 17 14 true (.bin .eql (tD 16) (cD 2)), opD 18 (.pick (tD 14) (tD 17) (.const vB)), mvD 19 18, ogD 20 19 true (.mov (tD 1)), ogD 21 19 true (.iaddr 4 (tD 20) (cD 0)), ogD 22 19 true (.faddr 2 (tD 21)), ogD 23 19 true (.load false 1 (tD 22)), ogD 24 19 true (.bin .eql (tD 23) (cD 2)), opD 25 (.pick (tD 19) (tD 24) (.const vB)), mvD 26 25, ogD 27 26 true (.mov (tD 1)), ogD 28 26 true (.iaddr 4 (tD 27) (cD 1)), ogD 29 26 true (.faddr 2 (tD 28)), ogD 30 26 true (.load false 1 (tD 29)), ogD 31 26 true (.bin .eql (tD 30) (cD 1)), opD 32 (.pick (tD 26) (tD 31) (.const vB)), mvD 0 32] [[], [0], [1], [2], [3, 2], [4, 2], [2, 5], [6, 2], [7], [8, 7], [9, 7], [10, 7], [11, 7], [7, 12], [13, 7], [14], [15, 14], [16, 14], [17, 14], [18, 14], [14, 19], [20, 14, 0, 1, 2, 3, 4, 5, 6, 7, 8, 9, 10, 11, 12, 13, 14, 15, 16, 17, 18, 19, 20]] false) .ret)))
set_option maxRecDepth 1000000 in
theorem g5 (fu : Nat) : (e5 fu).Good Try.prog := good_fn orders Try.func5 fu (d5 fu) rs5 33 (l := [ePack fu]) ⟨gPack fu, trivial⟩
def rs7 : List RVx := [(.tmp 2)]
/-- gazette/gazettelaw11.own -/
def p7 (fu : Nat) : (List (D_gazetteref11_Wire)) × (Unit) → Option ((Unit) × (List (D_gazetteref11_Wire))) := fun ⟨a, _⟩ =>
loopO (S := ((List (D_gazetteref11_Wire)) × ((Int) × (Unit))) × (Unit)) fu (fun ⟨⟨c, f, _⟩, _⟩ =>
 bif decide (f < (List.length a : Int)) then
 bif decide ((0 : Int) ≤ f ∧ f < (List.length a : Int)) then
 bif decide (Int.toNat f < List.length a) then
 bif decide ((0 : Int) ≤ f ∧ f < (List.length a : Int)) then
 bif decide (Int.toNat f < List.length a) then
 bif decide (List.length c = List.length c) then
 bif decide (List.length c + List.length ([((List.getD a (Int.toNat f) (dflt T_gazetteref11_Wire)).1, ((List.getD a (Int.toNat f) (dflt T_gazetteref11_Wire)).2).1, (((List.getD a (Int.toNat f) (dflt T_gazetteref11_Wire)).2).2).1, ((((List.getD a (Int.toNat f) (dflt T_gazetteref11_Wire)).2).2).2).1, (((((List.getD a (Int.toNat f) (dflt T_gazetteref11_Wire)).2).2).2).2).1, ((((((List.getD a (Int.toNat f) (dflt T_gazetteref11_Wire)).2).2).2).2).2).1, (((((((List.getD a (Int.toNat f) (dflt T_gazetteref11_Wire)).2).2).2).2).2).2).1, ((((((((List.getD a (Int.toNat f) (dflt T_gazetteref11_Wire)).2).2).2).2).2).2).2).1, (((((((((List.getD a (Int.toNat f) (dflt T_gazetteref11_Wire)).2).2).2).2).2).2).2).2).1, ((((((((((List.getD a (Int.toNat f) (dflt T_gazetteref11_Wire)).2).2).2).2).2).2).2).2).2).1, (((((((((((List.getD a (Int.toNat f) (dflt T_gazetteref11_Wire)).2).2).2).2).2).2).2).2).2).2).1, ((((((((((((((List.getD a (Int.toNat f) (dflt T_gazetteref11_Wire)).2).2).2).2).2).2).2).2).2).2).2).1).1, (((((((((((((List.getD a (Int.toNat f) (dflt T_gazetteref11_Wire)).2).2).2).2).2).2).2).2).2).2).2).1).2), (((((((((((((List.getD a (Int.toNat f) (dflt T_gazetteref11_Wire)).2).2).2).2).2).2).2).2).2).2).2).2).1, (((((((((((((List.getD a (Int.toNat f) (dflt T_gazetteref11_Wire)).2).2).2).2).2).2).2).2).2).2).2).2).2)]) ≤ maxLen ∧ (List.length c + List.length ([((List.getD a (Int.toNat f) (dflt T_gazetteref11_Wire)).1, ((List.getD a (Int.toNat f) (dflt T_gazetteref11_Wire)).2).1, (((List.getD a (Int.toNat f) (dflt T_gazetteref11_Wire)).2).2).1, ((((List.getD a (Int.toNat f) (dflt T_gazetteref11_Wire)).2).2).2).1, (((((List.getD a (Int.toNat f) (dflt T_gazetteref11_Wire)).2).2).2).2).1, ((((((List.getD a (Int.toNat f) (dflt T_gazetteref11_Wire)).2).2).2).2).2).1, (((((((List.getD a (Int.toNat f) (dflt T_gazetteref11_Wire)).2).2).2).2).2).2).1, ((((((((List.getD a (Int.toNat f) (dflt T_gazetteref11_Wire)).2).2).2).2).2).2).2).1, (((((((((List.getD a (Int.toNat f) (dflt T_gazetteref11_Wire)).2).2).2).2).2).2).2).2).1, ((((((((((List.getD a (Int.toNat f) (dflt T_gazetteref11_Wire)).2).2).2).2).2).2).2).2).2).1, (((((((((((List.getD a (Int.toNat f) (dflt T_gazetteref11_Wire)).2).2).2).2).2).2).2).2).2).2).1, ((((((((((((((List.getD a (Int.toNat f) (dflt T_gazetteref11_Wire)).2).2).2).2).2).2).2).2).2).2).2).1).1, (((((((((((((List.getD a (Int.toNat f) (dflt T_gazetteref11_Wire)).2).2).2).2).2).2).2).2).2).2).2).1).2), (((((((((((((List.getD a (Int.toNat f) (dflt T_gazetteref11_Wire)).2).2).2).2).2).2).2).2).2).2).2).2).1, (((((((((((((List.getD a (Int.toNat f) (dflt T_gazetteref11_Wire)).2).2).2).2).2).2).2).2).2).2).2).2).2)])) * 184 ≤ 140737488355328) then
 bif decide (List.length (c ++ [((List.getD a (Int.toNat f) (dflt T_gazetteref11_Wire)).1, ((List.getD a (Int.toNat f) (dflt T_gazetteref11_Wire)).2).1, (((List.getD a (Int.toNat f) (dflt T_gazetteref11_Wire)).2).2).1, ((((List.getD a (Int.toNat f) (dflt T_gazetteref11_Wire)).2).2).2).1, (((((List.getD a (Int.toNat f) (dflt T_gazetteref11_Wire)).2).2).2).2).1, ((((((List.getD a (Int.toNat f) (dflt T_gazetteref11_Wire)).2).2).2).2).2).1, (((((((List.getD a (Int.toNat f) (dflt T_gazetteref11_Wire)).2).2).2).2).2).2).1, ((((((((List.getD a (Int.toNat f) (dflt T_gazetteref11_Wire)).2).2).2).2).2).2).2).1, (((((((((List.getD a (Int.toNat f) (dflt T_gazetteref11_Wire)).2).2).2).2).2).2).2).2).1, ((((((((((List.getD a (Int.toNat f) (dflt T_gazetteref11_Wire)).2).2).2).2).2).2).2).2).2).1, (((((((((((List.getD a (Int.toNat f) (dflt T_gazetteref11_Wire)).2).2).2).2).2).2).2).2).2).2).1, ((((((((((((((List.getD a (Int.toNat f) (dflt T_gazetteref11_Wire)).2).2).2).2).2).2).2).2).2).2).2).1).1, (((((((((((((List.getD a (Int.toNat f) (dflt T_gazetteref11_Wire)).2).2).2).2).2).2).2).2).2).2).2).1).2), (((((((((((((List.getD a (Int.toNat f) (dflt T_gazetteref11_Wire)).2).2).2).2).2).2).2).2).2).2).2).2).1, (((((((((((((List.getD a (Int.toNat f) (dflt T_gazetteref11_Wire)).2).2).2).2).2).2).2).2).2).2).2).2).2)]) = List.length (c ++ [((List.getD a (Int.toNat f) (dflt T_gazetteref11_Wire)).1, ((List.getD a (Int.toNat f) (dflt T_gazetteref11_Wire)).2).1, (((List.getD a (Int.toNat f) (dflt T_gazetteref11_Wire)).2).2).1, ((((List.getD a (Int.toNat f) (dflt T_gazetteref11_Wire)).2).2).2).1, (((((List.getD a (Int.toNat f) (dflt T_gazetteref11_Wire)).2).2).2).2).1, ((((((List.getD a (Int.toNat f) (dflt T_gazetteref11_Wire)).2).2).2).2).2).1, (((((((List.getD a (Int.toNat f) (dflt T_gazetteref11_Wire)).2).2).2).2).2).2).1, ((((((((List.getD a (Int.toNat f) (dflt T_gazetteref11_Wire)).2).2).2).2).2).2).2).1, (((((((((List.getD a (Int.toNat f) (dflt T_gazetteref11_Wire)).2).2).2).2).2).2).2).2).1, ((((((((((List.getD a (Int.toNat f) (dflt T_gazetteref11_Wire)).2).2).2).2).2).2).2).2).2).1, (((((((((((List.getD a (Int.toNat f) (dflt T_gazetteref11_Wire)).2).2).2).2).2).2).2).2).2).2).1, ((((((((((((((List.getD a (Int.toNat f) (dflt T_gazetteref11_Wire)).2).2).2).2).2).2).2).2).2).2).2).1).1, (((((((((((((List.getD a (Int.toNat f) (dflt T_gazetteref11_Wire)).2).2).2).2).2).2).2).2).2).2).2).1).2), (((((((((((((List.getD a (Int.toNat f) (dflt T_gazetteref11_Wire)).2).2).2).2).2).2).2).2).2).2).2).2).1, (((((((((((((List.getD a (Int.toNat f) (dflt T_gazetteref11_Wire)).2).2).2).2).2).2).2).2).2).2).2).2).2)])) then
 some (.inl (((c ++ [((List.getD a (Int.toNat f) (dflt T_gazetteref11_Wire)).1, ((List.getD a (Int.toNat f) (dflt T_gazetteref11_Wire)).2).1, (((List.getD a (Int.toNat f) (dflt T_gazetteref11_Wire)).2).2).1, ((((List.getD a (Int.toNat f) (dflt T_gazetteref11_Wire)).2).2).2).1, (((((List.getD a (Int.toNat f) (dflt T_gazetteref11_Wire)).2).2).2).2).1, ((((((List.getD a (Int.toNat f) (dflt T_gazetteref11_Wire)).2).2).2).2).2).1, (((((((List.getD a (Int.toNat f) (dflt T_gazetteref11_Wire)).2).2).2).2).2).2).1, ((((((((List.getD a (Int.toNat f) (dflt T_gazetteref11_Wire)).2).2).2).2).2).2).2).1, (((((((((List.getD a (Int.toNat f) (dflt T_gazetteref11_Wire)).2).2).2).2).2).2).2).2).1, ((((((((((List.getD a (Int.toNat f) (dflt T_gazetteref11_Wire)).2).2).2).2).2).2).2).2).2).1, (((((((((((List.getD a (Int.toNat f) (dflt T_gazetteref11_Wire)).2).2).2).2).2).2).2).2).2).2).1, ((((((((((((((List.getD a (Int.toNat f) (dflt T_gazetteref11_Wire)).2).2).2).2).2).2).2).2).2).2).2).1).1, (((((((((((((List.getD a (Int.toNat f) (dflt T_gazetteref11_Wire)).2).2).2).2).2).2).2).2).2).2).2).1).2), (((((((((((((List.getD a (Int.toNat f) (dflt T_gazetteref11_Wire)).2).2).2).2).2).2).2).2).2).2).2).2).1, (((((((((((((List.getD a (Int.toNat f) (dflt T_gazetteref11_Wire)).2).2).2).2).2).2).2).2).2).2).2).2).2)]), IntKind.wrap .i64 (f + (1 : Int)), ()), ()))
 else none
 else none
 else none
 else none
 else none
 else none
 else none
 else
 inrO (bif decide (List.length c = List.length c) then
 some ((), c)
 else none))
 (([], (0 : Int), ()), ())
def e7 (fu : Nat) : Ent := ⟨7, (.cons (.hole (.sl T_gazetteref11_Wire)) .nil), .nil, (.own .own 48 T_gazetteref11_Wire), p7 fu⟩
def d7 (_ : Nat) : DC := (.seq (.region [opD 2 (.mov (.const vS))] [[]] false) (.seq (.region [opD 3 (.mov (.const vS))] [[]] false) (.seq (.seq (.region [opD 4 (.mov (cD 0))] [[]] false) (.block 0 (.loop ⟨[3, 4], (.cons (.own .own 48 T_gazetteref11_Wire) (.cons (.hole (.int .i64)) .nil)), [], .nil, [0], []⟩
 (.seq (.seq (.region [mvD 5 4, mvD 6 0, opD 7 (.len false (tD 6)), opD 8 (.bin .lss (tD 5) (tD 7))] [[], [], [1], [0, 2]] false) (.cond (.tmp 8) .skip (.exit 0))) (.seq (.block 1 (.region [mvD 11 3, mvD 12 0, mvD 13 4, opD 14 (.iaddr 15 (tD 12) (tD 13)), opD 15 (.faddr 0 (tD 14)), opD 16 (.load false 1 (tD 15)), mvD 17 0, mvD 18 4, opD 19 (.iaddr 15 (tD 17) (tD 18)), opD 20 (.faddr 1 (tD 19)), opD 21 (.load true 14 (tD 20)), opD 22 (.build 15 [vU, vI, vI, vI, vU, vU, vU, vS, vU, vB, vU, vS, vS, vS, vB] [(0, (1, (tD 16))), (1, (14, (tD 21)))]), oqD 23 (.bslice 48 15 1 [vU, vI, vI, vI, vU, vU, vU, vS, vU, vB, vU, vS, vS, vS, vB] [(0, (tD 22))]) (.ty T_gazetteref11_Wire), oqD 24 (.app 48 15 [vU, vI, vI, vI, vU, vU, vU, vS, vU, vB, vU, vS, vS, vS, vB] 184 (tD 11) (tD 23)) (.ty T_gazetteref11_Wire), mvD 3 24] [[], [], [], [1, 2], [3], [4], [], [], [6, 7], [8], [9], [5, 10], [11], [0, 12], [13, 13, 0, 1, 2, 3, 4, 5, 6, 7, 8, 9, 10, 11, 12, 13]] true)) (.region [mvD 9 4, opD 10 (.bin .add (tD 9) (cD 1)), mvD 4 10] [[], [0], [1, 0, 1]] false)))))) (.seq (.region [mvD 25 3, mvD 2 25] [[], [0, 0]] false) .ret))))
set_option maxRecDepth 1000000 in
theorem g7 (fu : Nat) : (e7 fu).Good Try.prog := good_fn orders Try.func7 fu (d7 fu) rs7 26 (l := []) trivial
def rs11 : List RVx := [(.tmp 4)]
/-- gazette/gazetteref03.Same -/
def p11 (fu : Nat) : (List (D_api_Packet)) × ((List (D_api_Packet)) × (Unit)) → Option ((Unit) × (Bool)) := fun ⟨a, c, _⟩ =>
bif ((List.length a : Int) != (List.length c : Int)) then
 some ((), false)
else
 loopO (S := ((Int) × (Unit)) × (Unit)) fu (fun ⟨⟨f, _⟩, _⟩ =>
 bif decide (f < (List.length a : Int)) then
 bif decide ((0 : Int) ≤ f ∧ f < (List.length a : Int)) then
 bif decide (Int.toNat f < List.length a) then
 bif decide ((0 : Int) ≤ f ∧ f < (List.length c : Int)) then
 bif decide (Int.toNat f < List.length c) then
 bif (((List.getD a (Int.toNat f) (dflt T_api_Packet)).1) != ((List.getD c (Int.toNat f) (dflt T_api_Packet)).1)) then
 inrO (some ((), false))
 else
 bif decide ((0 : Int) ≤ f ∧ f < (List.length a : Int)) then
 bif decide (Int.toNat f < List.length a) then
 bif decide ((0 : Int) ≤ f ∧ f < (List.length c : Int)) then
 bif decide (Int.toNat f < List.length c) then
 bif ((((List.getD a (Int.toNat f) (dflt T_api_Packet)).2).1) != (((List.getD c (Int.toNat f) (dflt T_api_Packet)).2).1)) then
 inrO (some ((), false))
 else
 bif decide ((0 : Int) ≤ f ∧ f < (List.length a : Int)) then
 bif decide (Int.toNat f < List.length a) then
 bif decide ((0 : Int) ≤ f ∧ f < (List.length c : Int)) then
 bif decide (Int.toNat f < List.length c) then
 bif (((((List.getD a (Int.toNat f) (dflt T_api_Packet)).2).2).1) != ((((List.getD c (Int.toNat f) (dflt T_api_Packet)).2).2).1)) then
 inrO (some ((), false))
 else
 bif decide ((0 : Int) ≤ f ∧ f < (List.length a : Int)) then
 bif decide (Int.toNat f < List.length a) then
 bif decide ((0 : Int) ≤ f ∧ f < (List.length c : Int)) then
 bif decide (Int.toNat f < List.length c) then
 bif !(ByteArray.toList (strOfNums ((((List.getD a (Int.toNat f) (dflt T_api_Packet)).2).2).2)) == ByteArray.toList (strOfNums ((((List.getD c (Int.toNat f) (dflt T_api_Packet)).2).2).2))) then
 inrO (some ((), false))
 else
 some (.inl ((IntKind.wrap .i64 (f + (1 : Int)), ()), ()))
 else none
 else none
 else none
 else none
 else none
 else none
 else none
 else none
 else none
 else none
 else none
 else none
 else none
 else none
 else none
 else none
 else
 inrO (some ((), true)))
 (((0 : Int), ()), ())
def e11 (fu : Nat) : Ent := ⟨11, (.cons (.hole (.sl T_api_Packet)) (.cons (.hole (.sl T_api_Packet)) .nil)), .nil, (.hole .bool), p11 fu⟩
def d11 (_ : Nat) : DC := (.seq (.region [opD 4 (.mov (.const vB))] [[]] false) (.seq (.seq (.region [mvD 6 0, opD 7 (.len false (tD 6)), mvD 8 1, opD 9 (.len false (tD 8)), opD 10 (.bin .neq (tD 7) (tD 9))] [[], [0], [], [2], [1, 3]] false) (.cond (.tmp 10) (.seq (.region [opD 4 (.mov (.const vB))] [[]] false) .ret) .skip)) (.seq (.seq (.region [opD 5 (.mov (cD 0))] [[]] false) (.block 0 (.loop ⟨[5], (.cons (.hole (.int .i64)) .nil), [], .nil, [0, 1], []⟩
 (.seq (.seq (.region [mvD 11 5, mvD 12 0, opD 13 (.len false (tD 12)), opD 14 (.bin .lss (tD 11) (tD 13))] [[], [], [1], [0, 2]] false) (.cond (.tmp 14) .skip (.exit 0))) (.seq (.block 1 (.seq (.region [mvD 17 0, mvD 18 5, opD 19 (.iaddr 4 (tD 17) (tD 18)), opD 20 (.faddr 0 (tD 19)), opD 21 (.load false 1 (tD 20)), mvD 22 1, mvD 23 5, opD 24 (.iaddr 4 (tD 22) (tD 23)), opD 25 (.faddr 0 (tD 24)), opD 26 (.load false 1 (tD 25)), opD 27 (.bin .neq (tD 21) (tD 26)), mvD 28 27, ogD 29 28 false (.mov (tD 0)), ogD 30 28 false (.mov (tD 5)), ogD 31 28 false (.iaddr 4 (tD 29) (tD 30)), ogD 32 28 false (.faddr 1 (tD 31)), ogD 33 28 false (.load false 1 (tD 32)), ogD 34 28 false (.mov (tD 1)), ogD 35 28 false (.mov (tD 5)), ogD 36 28 false (.iaddr 4 (tD 34) (tD 35)), ogD 37 28 false (.faddr 1 (tD 36)), ogD 38 28 false (.load false 1 (tD 37)), ogD 39 28 false (.bin .neq (tD 33) (tD 38)), opD 40 (.pick (tD 28) (.const (.bool true)) (tD 39)), mvD 41 40, ogD 42 41 false (.mov (tD 0)), ogD 43 41 false (.mov (tD 5)), ogD 44 41 false (.iaddr 4 (tD 42) (tD 43)), ogD 45 41 false (.faddr 2 (tD 44)), ogD 46 41 false (.load false 1 (tD 45)), ogD 47 41 false (.mov (tD 1)), ogD 48 41 false (.mov (tD 5)), ogD 49 41 false (.iaddr 4 (tD 47) (tD 48)), ogD 50 41 false (.faddr 2 (tD 49)), ogD 51 41 false (.load false 1 (tD 50)), ogD 52 41 false (.bin .neq (tD 46) (tD 51)), opD 53 (.pick (tD 41) (.const (.bool true)) (tD 52)), mvD 54 53, ogD 55 54 false (.mov (tD 0)), ogD 56 54 false (.mov (tD 5)), ogD 57 54 false (.iaddr 4 (tD 55) (tD 56)), ogD 58 54 false (.faddr 3 (tD 57)), ogD 59 54 false (.load false 1 (tD 58)), ogD 60 54 false (.b2s (tD 59)), ogD 61 54 false (.mov (tD 1)), ogD 62 54 false (.mov (tD 5)), ogD 63 54 false (.iaddr 4 (tD 61) (tD 62)), ogD 64 54 false (.faddr 3 (tD 63)), ogD 65 54 false (.load false 1 (tD 64)), ogD 66 54 false (.b2s (tD 65)), ogD 67 54 false (.bin .neq (tD 60) (tD 66)), opD 68 (.pick (tD 54) (.const (.bool true)) (tD 67))] [[], [], [0, 1], [2], [3], [], [], [5, 6], [7], [8], [4, 9], [10], [11], [11], [12, 13, 11], [14, 11], [15, 11], [11], [11], [17, 18, 11], [19, 11], [20, 11], [16, 21, 11], [11, 22], [23, 11], [24], [24], [25, 26, 24], [27, 24], [28, 24], [24], [24], [30, 31, 24], [32, 24], [33, 24], [29, 34, 24], [24, 35], [36, 24], [37], [37], [38, 39, 37], [40, 37], [41, 37], [42, 37], [37], [37], [44, 45, 37], [46, 37], [47, 37], [48, 37], [43, 49, 37], [37, 50]] true) (.cond (.tmp 68) (.seq (.region [opD 4 (.mov (.const vB))] [[]] false) .ret) .skip))) (.region [mvD 15 5, opD 16 (.bin .add (tD 15) (cD 1)), mvD 5 16] [[], [0], [1, 0, 1]] false)))))) (.seq (.region [opD 4 (.mov (.const (.bool true)))] [[]] false) .ret))))
set_option maxRecDepth 1000000 in
theorem g11 (fu : Nat) : (e11 fu).Good Try.prog := good_fn orders Try.func11 fu (d11 fu) rs11 69 (l := []) trivial
def rs4 : List RVx := [(.tmp 6)]
/-- gazette/gazettelaw11.BeatsApart -/
def p4 (fu : Nat) : (Int) × ((List (D_gazetteref11_Wire)) × ((Int) × (Unit))) → Option ((Unit) × (Bool)) := fun ⟨a, c, f, _⟩ =>
Option.bind (p5 fu ()) fun ⟨_, h⟩ =>
Option.bind (p7 fu (c, ())) fun ⟨_, i⟩ =>
bif decide (List.length i = List.length i) then
 Option.bind (pPack fu (a, i, ())) fun ⟨_, ⟨j, k, _⟩⟩ =>
 bif !h then
 some ((), h)
 else
 bif (k != (0 : Int)) then
 some ((), h)
 else
 loopO (S := ((List (D_gazetteref11_Wire)) × ((Int) × (Unit))) × (Unit)) fu (fun ⟨⟨l, m, _⟩, _⟩ =>
 bif decide (m < (List.length c : Int)) then
 bif decide ((0 : Int) ≤ m ∧ m < (List.length c : Int)) then
 bif decide (Int.toNat m < List.length c) then
 bif ((((((List.getD c (Int.toNat m) (dflt T_gazetteref11_Wire)).2).2).2).1) == f) then
 bif decide ((0 : Int) ≤ m ∧ m < (List.length c : Int)) then
 bif decide (Int.toNat m < List.length c) then
 bif decide (List.length l = List.length l) then
 bif decide (List.length l + List.length ([((List.getD c (Int.toNat m) (dflt T_gazetteref11_Wire)).1, ((List.getD c (Int.toNat m) (dflt T_gazetteref11_Wire)).2).1, (((List.getD c (Int.toNat m) (dflt T_gazetteref11_Wire)).2).2).1, ((((List.getD c (Int.toNat m) (dflt T_gazetteref11_Wire)).2).2).2).1, (((((List.getD c (Int.toNat m) (dflt T_gazetteref11_Wire)).2).2).2).2).1, ((((((List.getD c (Int.toNat m) (dflt T_gazetteref11_Wire)).2).2).2).2).2).1, (((((((List.getD c (Int.toNat m) (dflt T_gazetteref11_Wire)).2).2).2).2).2).2).1, ((((((((List.getD c (Int.toNat m) (dflt T_gazetteref11_Wire)).2).2).2).2).2).2).2).1, (((((((((List.getD c (Int.toNat m) (dflt T_gazetteref11_Wire)).2).2).2).2).2).2).2).2).1, ((((((((((List.getD c (Int.toNat m) (dflt T_gazetteref11_Wire)).2).2).2).2).2).2).2).2).2).1, (((((((((((List.getD c (Int.toNat m) (dflt T_gazetteref11_Wire)).2).2).2).2).2).2).2).2).2).2).1, ((((((((((((((List.getD c (Int.toNat m) (dflt T_gazetteref11_Wire)).2).2).2).2).2).2).2).2).2).2).2).1).1, (((((((((((((List.getD c (Int.toNat m) (dflt T_gazetteref11_Wire)).2).2).2).2).2).2).2).2).2).2).2).1).2), (((((((((((((List.getD c (Int.toNat m) (dflt T_gazetteref11_Wire)).2).2).2).2).2).2).2).2).2).2).2).2).1, (((((((((((((List.getD c (Int.toNat m) (dflt T_gazetteref11_Wire)).2).2).2).2).2).2).2).2).2).2).2).2).2)]) ≤ maxLen ∧ (List.length l + List.length ([((List.getD c (Int.toNat m) (dflt T_gazetteref11_Wire)).1, ((List.getD c (Int.toNat m) (dflt T_gazetteref11_Wire)).2).1, (((List.getD c (Int.toNat m) (dflt T_gazetteref11_Wire)).2).2).1, ((((List.getD c (Int.toNat m) (dflt T_gazetteref11_Wire)).2).2).2).1, (((((List.getD c (Int.toNat m) (dflt T_gazetteref11_Wire)).2).2).2).2).1, ((((((List.getD c (Int.toNat m) (dflt T_gazetteref11_Wire)).2).2).2).2).2).1, (((((((List.getD c (Int.toNat m) (dflt T_gazetteref11_Wire)).2).2).2).2).2).2).1, ((((((((List.getD c (Int.toNat m) (dflt T_gazetteref11_Wire)).2).2).2).2).2).2).2).1, (((((((((List.getD c (Int.toNat m) (dflt T_gazetteref11_Wire)).2).2).2).2).2).2).2).2).1, ((((((((((List.getD c (Int.toNat m) (dflt T_gazetteref11_Wire)).2).2).2).2).2).2).2).2).2).1, (((((((((((List.getD c (Int.toNat m) (dflt T_gazetteref11_Wire)).2).2).2).2).2).2).2).2).2).2).1, ((((((((((((((List.getD c (Int.toNat m) (dflt T_gazetteref11_Wire)).2).2).2).2).2).2).2).2).2).2).2).1).1, (((((((((((((List.getD c (Int.toNat m) (dflt T_gazetteref11_Wire)).2).2).2).2).2).2).2).2).2).2).2).1).2), (((((((((((((List.getD c (Int.toNat m) (dflt T_gazetteref11_Wire)).2).2).2).2).2).2).2).2).2).2).2).2).1, (((((((((((((List.getD c (Int.toNat m) (dflt T_gazetteref11_Wire)).2).2).2).2).2).2).2).2).2).2).2).2).2)])) * 184 ≤ 140737488355328) then
 bif decide (List.length (l ++ [((List.getD c (Int.toNat m) (dflt T_gazetteref11_Wire)).1, ((List.getD c (Int.toNat m) (dflt T_gazetteref11_Wire)).2).1, (((List.getD c (Int.toNat m) (dflt T_gazetteref11_Wire)).2).2).1, ((((List.getD c (Int.toNat m) (dflt T_gazetteref11_Wire)).2).2).2).1, (((((List.getD c (Int.toNat m) (dflt T_gazetteref11_Wire)).2).2).2).2).1, ((((((List.getD c (Int.toNat m) (dflt T_gazetteref11_Wire)).2).2).2).2).2).1, (((((((List.getD c (Int.toNat m) (dflt T_gazetteref11_Wire)).2).2).2).2).2).2).1, ((((((((List.getD c (Int.toNat m) (dflt T_gazetteref11_Wire)).2).2).2).2).2).2).2).1, (((((((((List.getD c (Int.toNat m) (dflt T_gazetteref11_Wire)).2).2).2).2).2).2).2).2).1, ((((((((((List.getD c (Int.toNat m) (dflt T_gazetteref11_Wire)).2).2).2).2).2).2).2).2).2).1, (((((((((((List.getD c (Int.toNat m) (dflt T_gazetteref11_Wire)).2).2).2).2).2).2).2).2).2).2).1, ((((((((((((((List.getD c (Int.toNat m) (dflt T_gazetteref11_Wire)).2).2).2).2).2).2).2).2).2).2).2).1).1, (((((((((((((List.getD c (Int.toNat m) (dflt T_gazetteref11_Wire)).2).2).2).2).2).2).2).2).2).2).2).1).2), (((((((((((((List.getD c (Int.toNat m) (dflt T_gazetteref11_Wire)).2).2).2).2).2).2).2).2).2).2).2).2).1, (((((((((((((List.getD c (Int.toNat m) (dflt T_gazetteref11_Wire)).2).2).2).2).2).2).2).2).2).2).2).2).2)]) = List.length (l ++ [((List.getD c (Int.toNat m) (dflt T_gazetteref11_Wire)).1, ((List.getD c (Int.toNat m) (dflt T_gazetteref11_Wire)).2).1, (((List.getD c (Int.toNat m) (dflt T_gazetteref11_Wire)).2).2).1, ((((List.getD c (Int.toNat m) (dflt T_gazetteref11_Wire)).2).2).2).1, (((((List.getD c (Int.toNat m) (dflt T_gazetteref11_Wire)).2).2).2).2).1, ((((((List.getD c (Int.toNat m) (dflt T_gazetteref11_Wire)).2).2).2).2).2).1, (((((((List.getD c (Int.toNat m) (dflt T_gazetteref11_Wire)).2).2).2).2).2).2).1, ((((((((List.getD c (Int.toNat m) (dflt T_gazetteref11_Wire)).2).2).2).2).2).2).2).1, (((((((((List.getD c (Int.toNat m) (dflt T_gazetteref11_Wire)).2).2).2).2).2).2).2).2).1, ((((((((((List.getD c (Int.toNat m) (dflt T_gazetteref11_Wire)).2).2).2).2).2).2).2).2).2).1, (((((((((((List.getD c (Int.toNat m) (dflt T_gazetteref11_Wire)).2).2).2).2).2).2).2).2).2).2).1, ((((((((((((((List.getD c (Int.toNat m) (dflt T_gazetteref11_Wire)).2).2).2).2).2).2).2).2).2).2).2).1).1, (((((((((((((List.getD c (Int.toNat m) (dflt T_gazetteref11_Wire)).2).2).2).2).2).2).2).2).2).2).2).1).2), (((((((((((((List.getD c (Int.toNat m) (dflt T_gazetteref11_Wire)).2).2).2).2).2).2).2).2).2).2).2).2).1, (((((((((((((List.getD c (Int.toNat m) (dflt T_gazetteref11_Wire)).2).2).2).2).2).2).2).2).2).2).2).2).2)])) then
 some (.inl (((l ++ [((List.getD c (Int.toNat m) (dflt T_gazetteref11_Wire)).1, ((List.getD c (Int.toNat m) (dflt T_gazetteref11_Wire)).2).1, (((List.getD c (Int.toNat m) (dflt T_gazetteref11_Wire)).2).2).1, ((((List.getD c (Int.toNat m) (dflt T_gazetteref11_Wire)).2).2).2).1, (((((List.getD c (Int.toNat m) (dflt T_gazetteref11_Wire)).2).2).2).2).1, ((((((List.getD c (Int.toNat m) (dflt T_gazetteref11_Wire)).2).2).2).2).2).1, (((((((List.getD c (Int.toNat m) (dflt T_gazetteref11_Wire)).2).2).2).2).2).2).1, ((((((((List.getD c (Int.toNat m) (dflt T_gazetteref11_Wire)).2).2).2).2).2).2).2).1, (((((((((List.getD c (Int.toNat m) (dflt T_gazetteref11_Wire)).2).2).2).2).2).2).2).2).1, ((((((((((List.getD c (Int.toNat m) (dflt T_gazetteref11_Wire)).2).2).2).2).2).2).2).2).2).1, (((((((((((List.getD c (Int.toNat m) (dflt T_gazetteref11_Wire)).2).2).2).2).2).2).2).2).2).2).1, ((((((((((((((List.getD c (Int.toNat m) (dflt T_gazetteref11_Wire)).2).2).2).2).2).2).2).2).2).2).2).1).1, (((((((((((((List.getD c (Int.toNat m) (dflt T_gazetteref11_Wire)).2).2).2).2).2).2).2).2).2).2).2).1).2), (((((((((((((List.getD c (Int.toNat m) (dflt T_gazetteref11_Wire)).2).2).2).2).2).2).2).2).2).2).2).2).1, (((((((((((((List.getD c (Int.toNat m) (dflt T_gazetteref11_Wire)).2).2).2).2).2).2).2).2).2).2).2).2).2)]), IntKind.wrap .i64 (m + (1 : Int)), ()), ()))
 else none
 else none
 else none
 else none
 else none
 else
 bif decide (List.length l = List.length l) then
 some (.inl ((l, IntKind.wrap .i64 (m + (1 : Int)), ()), ()))
 else none
 else none
 else none
 else
 inrO (bif decide (List.length l = List.length l) then
 Option.bind (p7 fu (l, ())) fun ⟨_, n⟩ =>
 bif decide (List.length n = List.length n) then
 Option.bind (pPack fu (a, n, ())) fun ⟨_, ⟨o, q, _⟩⟩ =>
 loopO (S := ((List (D_api_Packet)) × ((Int) × (Unit))) × (Unit)) fu (fun ⟨⟨s, t, _⟩, _⟩ =>
 bif decide (t < ((List.length j) : Int)) then
 bif decide ((0 : Int) ≤ t ∧ t < (List.length j : Int)) then
 bif decide (Int.toNat t < List.length j) then
 bif ((((List.getD j (Int.toNat t) (dflt T_api_Packet)).2).1) == f) then
 bif decide ((0 : Int) ≤ t ∧ t < (List.length j : Int)) then
 bif decide (Int.toNat t < List.length j) then
 bif decide (List.length s = List.length s) then
 bif decide (List.length s + List.length ([((List.getD j (Int.toNat t) (dflt T_api_Packet)).1, ((List.getD j (Int.toNat t) (dflt T_api_Packet)).2).1, (((List.getD j (Int.toNat t) (dflt T_api_Packet)).2).2).1, (((List.getD j (Int.toNat t) (dflt T_api_Packet)).2).2).2)]) ≤ maxLen ∧ (List.length s + List.length ([((List.getD j (Int.toNat t) (dflt T_api_Packet)).1, ((List.getD j (Int.toNat t) (dflt T_api_Packet)).2).1, (((List.getD j (Int.toNat t) (dflt T_api_Packet)).2).2).1, (((List.getD j (Int.toNat t) (dflt T_api_Packet)).2).2).2)])) * 48 ≤ 140737488355328) then
 bif decide (List.length (s ++ [((List.getD j (Int.toNat t) (dflt T_api_Packet)).1, ((List.getD j (Int.toNat t) (dflt T_api_Packet)).2).1, (((List.getD j (Int.toNat t) (dflt T_api_Packet)).2).2).1, (((List.getD j (Int.toNat t) (dflt T_api_Packet)).2).2).2)]) = List.length (s ++ [((List.getD j (Int.toNat t) (dflt T_api_Packet)).1, ((List.getD j (Int.toNat t) (dflt T_api_Packet)).2).1, (((List.getD j (Int.toNat t) (dflt T_api_Packet)).2).2).1, (((List.getD j (Int.toNat t) (dflt T_api_Packet)).2).2).2)])) then
 some (.inl (((s ++ [((List.getD j (Int.toNat t) (dflt T_api_Packet)).1, ((List.getD j (Int.toNat t) (dflt T_api_Packet)).2).1, (((List.getD j (Int.toNat t) (dflt T_api_Packet)).2).2).1, (((List.getD j (Int.toNat t) (dflt T_api_Packet)).2).2).2)]), IntKind.wrap .i64 (t + (1 : Int)), ()), ()))
 else none
 else none
 else none
 else none
 else none
 else
 bif decide (List.length s = List.length s) then
 some (.inl ((s, IntKind.wrap .i64 (t + (1 : Int)), ()), ()))
 else none
 else none
 else none
 else
 inrO (bif (q == (0 : Int)) then
 bif decide (((List.length o) : Int) ≤ (2 : Int)) then
 bif decide (List.length s = List.length s) then
 bif decide (List.length o = List.length o) then
 Option.bind (p11 fu (s, o, ())) fun ⟨_, u⟩ =>
 some ((), u)
 else none
 else none
 else
 some ((), false)
 else
 some ((), false)))
 (([], (0 : Int), ()), ())
 else none
 else none))
 (([], (0 : Int), ()), ())
else none
def e4 (fu : Nat) : Ent := ⟨4, (.cons (.hole (.int .i64)) (.cons (.hole (.sl T_gazetteref11_Wire)) (.cons (.hole (.int .i64)) .nil))), .nil, (.hole .bool), p4 fu⟩
def d4 (fu : Nat) : DC := (.seq (.region [opD 6 (.mov (.const vB))] [[]] false) (.seq (.region [oqD 16 (.call 5 []) (.ent (e5 fu)), mvD 7 16] [[], [0, 0, 0]] false) (.seq (.region [mvD 18 0, mvD 19 1, oqD 20 (.call 7 [(tD 19)]) (.ent (e7 fu)), oqD 21 (.call 6 [(tD 18), (tD 20)]) (.ent (ePack fu)), mvD 17 21, opD 22 (.ext (tD 17) 0), opD 23 (.ext (tD 17) 1), mvD 8 22, mvD 9 23] [[], [], [1], [0, 2, 2], [3], [4], [4], [5, 3, 0, 1, 2, 3, 4, 5], [6, 7, 0, 1, 2, 3, 4, 5, 6, 7]] false) (.seq (.seq (.region [mvD 24 7, opD 25 (.not (tD 24)), mvD 26 25, ogD 27 26 false (.mov (tD 9)), ogD 28 26 false (.bin .neq (tD 27) (cD 0)), opD 29 (.pick (tD 26) (.const (.bool true)) (tD 28))] [[], [0], [1], [2], [3, 2], [2, 4]] false) (.cond (.tmp 29) (.seq (.region [mvD 30 7, mvD 6 30] [[], [0, 0]] false) .ret) .skip)) (.seq (.region [opD 10 (.mov (.const vS))] [[]] false) (.seq (.seq (.region [opD 11 (.mov (cD 0))] [[]] false) (.block 0 (.loop ⟨[10, 11], (.cons (.own .own 42 T_gazetteref11_Wire) (.cons (.hole (.int .i64)) .nil)), [], .nil, [0, 1, 2, 8], [96]⟩
 (.seq (.seq (.region [mvD 31 11, mvD 32 1, opD 33 (.len false (tD 32)), opD 34 (.bin .lss (tD 31) (tD 33))] [[], [], [1], [0, 2]] false) (.cond (.tmp 34) .skip (.exit 0))) (.seq (.block 1 (.seq (.region [mvD 37 1, mvD 38 11, opD 39 (.iaddr 15 (tD 37) (tD 38)), opD 40 (.faddr 1 (tD 39)), opD 41 (.faddr 2 (tD 40)), opD 42 (.load false 1 (tD 41)), mvD 43 2, opD 44 (.bin .eql (tD 42) (tD 43))] [[], [], [0, 1], [2], [3], [4], [], [5, 6]] false) (.cond (.tmp 44) (.region [mvD 45 10, mvD 46 1, mvD 47 11, opD 48 (.iaddr 15 (tD 46) (tD 47)), opD 49 (.load true 15 (tD 48)), oqD 50 (.bslice 42 15 1 [vU, vI, vI, vI, vU, vU, vU, vS, vU, vB, vU, vS, vS, vS, vB] [(0, (tD 49))]) (.ty T_gazetteref11_Wire), oqD 51 (.app 42 15 [vU, vI, vI, vI, vU, vU, vU, vS, vU, vB, vU, vS, vS, vS, vB] 184 (tD 45) (tD 50)) (.ty T_gazetteref11_Wire), mvD 10 51] [[], [], [], [1, 2], [3], [4], [0, 5], [6, 6, 0, 1, 2, 3, 4, 5, 6]] false) .skip))) (.region [mvD 35 11, opD 36 (.bin .add (tD 35) (cD 1)), mvD 11 36] [[], [0], [1, 0, 1]] false)))))) (.seq (.region [mvD 53 0, mvD 54 10, oqD 55 (.call 7 [(tD 54)]) (.ent (e7 fu)), oqD 56 (.call 6 [(tD 53), (tD 55)]) (.ent (ePack fu)), mvD 52 56, opD 57 (.ext (tD 52) 0), opD 58 (.ext (tD 52) 1), mvD 12 57, mvD 13 58] [[], [], [1], [0, 2, 2], [3], [4], [4], [5, 3, 0, 1, 2, 3, 4, 5], [6, 7, 0, 1, 2, 3, 4, 5, 6, 7]] false) (.seq (.region [opD 14 (.mov (.const vS))] [[]] false) (.seq (.seq (.region [opD 15 (.mov (cD 0))] [[]] false) (.block 2 (.loop ⟨[14, 15], (.cons (.own .own 46 T_api_Packet) (.cons (.hole (.int .i64)) .nil)), [], .nil, [2, 8, 12, 13], [96, 433]⟩
 (.seq (.seq (.region [mvD 59 15, mvD 60 8, opD 61 (.len false (tD 60)), opD 62 (.bin .lss (tD 59) (tD 61))] [[], [], [1], [0, 2]] false) (.cond (.tmp 62) .skip (.exit 2))) (.seq (.block 3 (.seq (.region [mvD 65 8, mvD 66 15, opD 67 (.iaddr 4 (tD 65) (tD 66)), opD 68 (.faddr 1 (tD 67)), opD 69 (.load false 1 (tD 68)), mvD 70 2, opD 71 (.bin .eql (tD 69) (tD 70))] [[], [], [0, 1], [2], [3], [], [4, 5]] false) (.cond (.tmp 71) (.region [mvD 72 14, mvD 73 8, mvD 74 15, opD 75 (.iaddr 4 (tD 73) (tD 74)), opD 76 (.load true 4 (tD 75)), oqD 77 (.bslice 46 4 1 [vI, vI, vI, vS] [(0, (tD 76))]) (.ty T_api_Packet), oqD 78 (.app 46 4 [vI, vI, vI, vS] 48 (tD 72) (tD 77)) (.ty T_api_Packet), mvD 14 78] [[], [], [], [1, 2], [3], [4], [0, 5], [6, 6, 0, 1, 2, 3, 4, 5, 6]] false) .skip))) (.region [mvD 63 15, opD 64 (.bin .add (tD 63) (cD 1)), mvD 15 64] [[], [0], [1, 0, 1]] false)))))) (.seq (.region [mvD 79 13, opD 80 (.bin .eql (tD 79) (cD 0)), mvD 81 80, ogD 82 81 true (.mov (tD 12)), ogD 83 81 true (.len false (tD 82)), ogD 84 81 true (.bin .leq (tD 83) (cD 2)), opD 85 (.pick (tD 81) (tD 84) (.const vB)), mvD 86 85, ogD 87 86 true (.mov (tD 14)), ogD 88 86 true (.mov (tD 12)), (⟨(some 89), (some (86, true)), (.call 11 [(tD 87), (tD 88)])⟩, (.ent (e11 fu))), opD 90 (.pick (tD 86) (tD 89) (.const vB)), mvD 6 90] [[], [0], [1], [2], [3, 2], [4, 2], [2, 5], [6, 2], [7], [7], [8, 9, 7, 7], [7, 10], [11, 10, 0, 1, 2, 3, 4, 5, 6, 7, 8, 9, 10, 11]] false) .ret))))))))))
set_option maxRecDepth 1000000 in
theorem g4 (fu : Nat) : (e4 fu).Good Try.prog := good_fn orders Try.func4 fu (d4 fu) rs4 91 (l := [e5 fu, e7 fu, ePack fu, e7 fu, ePack fu, e11 fu]) ⟨g5 fu, g7 fu, gPack fu, g7 fu, gPack fu, g11 fu, trivial⟩
end Go.Proofs.Ytahamggipcikgaa
