/-
  The functions, typed.
-/
import Derived.Test.YtglholedidkbcaaInE
import Derived.Test.YtglholedidkbcaaDaL
import Derived.Test.YtglholedidkbcaaRows
namespace Go.Proofs.Ytglholedidkbcaa
open Go.RowKit
abbrev T_runtime_errorAddressString : Tp := (.pair .str (.int .u64))
abbrev D_runtime_errorAddressString := (ByteArray) × (Int)
abbrev T_api_Change : Tp := (.pair (.int .i64) (.int .i64))
abbrev D_api_Change := (Int) × (Int)
abbrev T_api_Conf : Tp := (.pair (.sl (.int .i64)) (.sl (.int .i64)))
abbrev D_api_Conf := (List (Int)) × (List (Int))
abbrev T_runtime_boundsError : Tp := (.pair (.int .i64) (.pair (.int .i64) (.pair .bool (.int .u8))))
abbrev D_runtime_boundsError := (Int) × ((Int) × ((Bool) × (Int)))
theorem orders : Try.prog.follows .mixedOrders = true := by kernel_rfl
abbrev Y0 : Sh := (.tup 2 (.cons (.agg 2 (.cons (.own .own 3 (.int .i64)) (.cons (.own .own 3 (.int .i64)) .nil))) (.cons (.hole (.int .i64)) .nil)))
def rs24 : List RVx := [(.tmp 2)]
/-- gazette/raftconf.isNode -/
def p24 (_ : Nat) : (Int) × (Unit) → Option ((Unit) × (Bool)) := fun ⟨a, _⟩ =>
bif decide (a ≥ (1 : Int)) then
 some ((), decide (a ≤ (7 : Int)))
else
 some ((), false)
def e24 (fu : Nat) : Ent := ⟨24, (.cons (.hole (.int .i64)) .nil), .nil, (.hole .bool), p24 fu⟩
def d24 (_ : Nat) : DC := (.seq (.region [opD 2 (.mov (.const vB))] [[]] false) (.seq (.region [mvD 3 0, opD 4 (.bin .geq (tD 3) (cD 1)), mvD 5 4, ogD 6 5 true (.mov (tD 0)), ogD 7 5 true (.bin .leq (tD 6) (cD 7)), opD 8 (.pick (tD 5) (tD 7) (.const vB)), mvD 2 8] [[], [0], [1], [2], [3, 2], [2, 4], [5, 2, 0, 1, 2, 3, 4, 5]] false) .ret))
set_option maxRecDepth 1000000 in
theorem v24 (fu : Nat) : evF fu (d24 fu) rs24 9 (e24 fu).ash (e24 fu).osh (e24 fu).vsh = p24 fu := by kernel_rfl
set_option maxRecDepth 1000000 in
theorem b24 (fu : Nat) : BodyD Try.prog 24 9 (d24 fu).erase rs24 := bodyD_mk Try.func24 (by kernel_rfl) (by kernel_rfl) (by kernel_rfl) (by kernel_rfl)
theorem g24 (fu : Nat) : (e24 fu).Good Try.prog := good_by orders (b24 fu) (l := []) (by kernel_rfl) trivial (by kernel_rfl) (v24 fu)
def rs25 : List RVx := [(.tmp 2)]
/-- gazette/raftconf.rises -/
def p25 (fu : Nat) : (List (Int)) × (Unit) → Option ((Unit) × (Bool)) := fun ⟨a, _⟩ =>
loopO (S := ((Int) × (Unit)) × (Unit)) fu (fun ⟨⟨c, _⟩, _⟩ =>
 bif decide (c < (List.length a : Int)) then
 bif decide ((0 : Int) ≤ c ∧ c < (List.length a : Int)) then
 bif decide (Int.toNat c < List.length a) then
 bif decide ((0 : Int) ≤ IntKind.wrap .i64 (c - (1 : Int)) ∧ IntKind.wrap .i64 (c - (1 : Int)) < (List.length a : Int)) then
 bif decide (Int.toNat (IntKind.wrap .i64 (c - (1 : Int))) < List.length a) then
 bif decide ((List.getD a (Int.toNat c) (dflt (.int .i64))) ≤ (List.getD a (Int.toNat (IntKind.wrap .i64 (c - (1 : Int)))) (dflt (.int .i64)))) then
 inrO (some ((), false))
 else
 some (.inl ((IntKind.wrap .i64 (c + (1 : Int)), ()), ()))
 else none
 else none
 else none
 else none
 else
 inrO (some ((), true)))
 (((1 : Int), ()), ())
def e25 (fu : Nat) : Ent := ⟨25, (.cons (.hole (.sl (.int .i64))) .nil), .nil, (.hole .bool), p25 fu⟩
def d25 (_ : Nat) : DC := (.seq (.region [opD 2 (.mov (.const vB))] [[]] false) (.seq (.seq (.region [opD 3 (.mov (cD 1))] [[]] false) (.block 0 (.loop ⟨[3], (.cons (.hole (.int .i64)) .nil), [], .nil, [0], []⟩
 (.seq (.seq (.region [mvD 4 3, mvD 5 0, opD 6 (.len false (tD 5)), opD 7 (.bin .lss (tD 4) (tD 6))] [[], [], [1], [0, 2]] false) (.cond (.tmp 7) .skip (.exit 0))) (.seq (.block 1 (.seq (.region [mvD 10 0, mvD 11 3, opD 12 (.iaddr 1 (tD 10) (tD 11)), opD 13 (.load false 1 (tD 12)), mvD 14 0, mvD 15 3, opD 16 (.bin .sub (tD 15) (cD 1)), opD 17 (.iaddr 1 (tD 14) (tD 16)), opD 18 (.load false 1 (tD 17)), opD 19 (.bin .leq (tD 13) (tD 18))] [[], [], [0, 1], [2], [], [], [5], [4, 6], [7], [3, 8]] true) (.cond (.tmp 19) (.seq (.region [opD 2 (.mov (.const vB))] [[]] false) .ret) .skip))) (.region [mvD 8 3, opD 9 (.bin .add (tD 8) (cD 1)), mvD 3 9] [[], [0], [1, 0, 1]] false)))))) (.seq (.region [opD 2 (.mov (.const (.bool true)))] [[]] false) .ret)))
set_option maxRecDepth 1000000 in
theorem v25 (fu : Nat) : evF fu (d25 fu) rs25 20 (e25 fu).ash (e25 fu).osh (e25 fu).vsh = p25 fu := by kernel_rfl
set_option maxRecDepth 1000000 in
theorem b25 (fu : Nat) : BodyD Try.prog 25 20 (d25 fu).erase rs25 := bodyD_mk Try.func25 (by kernel_rfl) (by kernel_rfl) (by kernel_rfl) (by kernel_rfl)
theorem g25 (fu : Nat) : (e25 fu).Good Try.prog := good_by orders (b25 fu) (l := []) (by kernel_rfl) trivial (by kernel_rfl) (v25 fu)
def rs50 : List RVx := [(.tmp 4)]
/-- slices.Index[[]int,int] -/
def p50 (fu : Nat) : (List (Int)) × ((Int) × (Unit)) → Option ((Unit) × (Int)) := fun ⟨a, c, _⟩ =>
loopO (S := ((Int) × (Unit)) × (Unit)) fu (fun ⟨⟨f, _⟩, _⟩ =>
 bif decide (f < (List.length a : Int)) then
 bif decide ((0 : Int) ≤ f ∧ f < (List.length a : Int)) then
 bif decide (Int.toNat f < List.length a) then
 bif (c == (List.getD a (Int.toNat f) (dflt (.int .i64)))) then
 inrO (some ((), f))
 else
 some (.inl ((IntKind.wrap .i64 (f + (1 : Int)), ()), ()))
 else none
 else none
 else
 inrO (some ((), ((-1) : Int))))
 (((0 : Int), ()), ())
def e50 (fu : Nat) : Ent := ⟨50, (.cons (.hole (.sl (.int .i64))) (.cons (.hole (.int .i64)) .nil)), .nil, (.hole (.int .i64)), p50 fu⟩
def d50 (_ : Nat) : DC := (.seq (.region [opD 4 (.mov (cD 0))] [[]] false) (.seq (.seq (.region [mvD 6 0, opD 7 (.len false (tD 6)), opD 8 (.mov (cD 0))] [[], [0], []] false) (.block 0 (.loop ⟨[8], (.cons (.hole (.int .i64)) .nil), [], .nil, [0, 1, 7], []⟩
 (.seq (.region [opD 9 (.bin .lss (tD 8) (tD 7))] [[]] false) (.seq (.cond (.tmp 9) .skip (.exit 0)) (.seq (.block 1 (.seq (.region [mvD 10 8, mvD 5 10] [[], [0, 0]] false) (.seq (.region [mvD 11 1, mvD 12 0, mvD 13 5, opD 14 (.iaddr 1 (tD 12) (tD 13)), opD 15 (.load false 1 (tD 14)), opD 16 (.bin .eql (tD 11) (tD 15))] [[], [], [], [1, 2], [3], [0, 4]] false) (.cond (.tmp 16) (.seq (.region [mvD 17 5, mvD 4 17] [[], [0, 0]] false) .ret) .skip)))) (.region [opD 18 (.bin .add (tD 8) (cD 1)), mvD 8 18] [[], [0]] false))))))) (.seq (.region [opD 4 (.mov (.const (.int .i64 (-1))))] [[]] false) .ret)))
set_option maxRecDepth 1000000 in
theorem v50 (fu : Nat) : evF fu (d50 fu) rs50 19 (e50 fu).ash (e50 fu).osh (e50 fu).vsh = p50 fu := by kernel_rfl
set_option maxRecDepth 1000000 in
theorem b50 (fu : Nat) : BodyD Try.prog 50 19 (d50 fu).erase rs50 := bodyD_mk Try.func50 (by kernel_rfl) (by kernel_rfl) (by kernel_rfl) (by kernel_rfl)
theorem g50 (fu : Nat) : (e50 fu).Good Try.prog := good_by orders (b50 fu) (l := []) (by kernel_rfl) trivial (by kernel_rfl) (v50 fu)
def rs33 : List RVx := [(.tmp 4)]
/-- slices.Contains[[]int,int] -/
def p33 (fu : Nat) : (List (Int)) × ((Int) × (Unit)) → Option ((Unit) × (Bool)) := fun ⟨a, c, _⟩ =>
Option.bind (p50 fu (a, c, ())) fun ⟨_, f⟩ =>
some ((), decide (f ≥ (0 : Int)))
def e33 (fu : Nat) : Ent := ⟨33, (.cons (.hole (.sl (.int .i64))) (.cons (.hole (.int .i64)) .nil)), .nil, (.hole .bool), p33 fu⟩
def d33 (fu : Nat) : DC := (.seq (.region [opD 4 (.mov (.const vB))] [[]] false) (.seq (.region [mvD 5 0, mvD 6 1, oqD 7 (.call 50 [(tD 5), (tD 6)]) (.ent (e50 fu)), opD 8 (.bin .geq (tD 7) (cD 0)), mvD 4 8] [[], [], [0, 1], [2], [3, 2, 0, 1, 2, 3]] false) .ret))
set_option maxRecDepth 1000000 in
theorem v33 (fu : Nat) : evF fu (d33 fu) rs33 9 (e33 fu).ash (e33 fu).osh (e33 fu).vsh = p33 fu := by kernel_rfl
set_option maxRecDepth 1000000 in
theorem b33 (fu : Nat) : BodyD Try.prog 33 9 (d33 fu).erase rs33 := bodyD_mk Try.func33 (by kernel_rfl) (by kernel_rfl) (by kernel_rfl) (by kernel_rfl)
theorem g33 (fu : Nat) : (e33 fu).Good Try.prog := good_by orders (b33 fu) (l := [e50 fu]) (by kernel_rfl) ⟨g50 fu, trivial⟩ (by kernel_rfl) (v33 fu)
def rs14 : List RVx := [(.tmp 4)]
/-- gazette/raftconf.Votes -/
def p14 (fu : Nat) : ((List (Int)) × ((List (Int)) × (Unit))) × ((Int) × (Unit)) → Option ((Unit) × (Bool)) := fun ⟨⟨a, _, _⟩, c, _⟩ =>
Option.bind (p33 fu (a, c, ())) fun ⟨_, f⟩ =>
some ((), f)
def e14 (fu : Nat) : Ent := ⟨14, (.cons (.agg 2 (.cons (.hole (.sl (.int .i64))) (.cons (.hole (.sl (.int .i64))) .nil))) (.cons (.hole (.int .i64)) .nil)), .nil, (.hole .bool), p14 fu⟩
def d14 (fu : Nat) : DC := (.seq (.region [opD 2 (.box 24 2 (tD 0)), opD 4 (.mov (.const vB))] [[], []] false) (.seq (.region [opD 5 (.faddr 0 (tD 2)), opD 6 (.load false 1 (tD 5)), mvD 7 1, oqD 8 (.call 33 [(tD 6), (tD 7)]) (.ent (e33 fu)), mvD 4 8] [[], [0], [], [1, 2], [3, 3, 0, 1, 2, 3]] false) .ret))
set_option maxRecDepth 1000000 in
theorem v14 (fu : Nat) : evF fu (d14 fu) rs14 9 (e14 fu).ash (e14 fu).osh (e14 fu).vsh = p14 fu := by kernel_rfl
set_option maxRecDepth 1000000 in
theorem b14 (fu : Nat) : BodyD Try.prog 14 9 (d14 fu).erase rs14 := bodyD_mk Try.func14 (by kernel_rfl) (by kernel_rfl) (by kernel_rfl) (by kernel_rfl)
theorem g14 (fu : Nat) : (e14 fu).Good Try.prog := good_by orders (b14 fu) (l := [e33 fu]) (by kernel_rfl) ⟨g33 fu, trivial⟩ (by kernel_rfl) (v14 fu)
def rs10 : List RVx := [(.tmp 2)]
/-- gazette/raftconf.Check -/
def p10 (fu : Nat) : ((List (Int)) × ((List (Int)) × (Unit))) × (Unit) → Option ((Unit) × (Int)) := fun ⟨⟨a, c, _⟩, _⟩ =>
loopO (S := ((Int) × (Unit)) × (Unit)) fu (fun ⟨⟨f, _⟩, _⟩ =>
 bif decide (f < (2 : Int)) then
 bif decide ((0 : Int) ≤ f ∧ f < (2 : Int)) then
 bif decide (Int.toNat f < List.length ([a, c])) then
 loopO (S := ((Int) × (Unit)) × (Unit)) fu (fun ⟨⟨h, _⟩, _⟩ =>
 bif decide (h < (List.length (List.getD ([a, c]) (Int.toNat f) (dflt (.sl (.int .i64)))) : Int)) then
 bif decide ((0 : Int) ≤ h ∧ h < (List.length (List.getD ([a, c]) (Int.toNat f) (dflt (.sl (.int .i64)))) : Int)) then
 bif decide (Int.toNat h < List.length (List.getD ([a, c]) (Int.toNat f) (dflt (.sl (.int .i64))))) then
 Option.bind (p24 fu ((List.getD (List.getD ([a, c]) (Int.toNat f) (dflt (.sl (.int .i64)))) (Int.toNat h) (dflt (.int .i64))), ())) fun ⟨_, i⟩ =>
 bif !i then
 inrO (inrO (some ((), (81 : Int))))
 else
 some (.inl ((IntKind.wrap .i64 (h + (1 : Int)), ()), ()))
 else none
 else none
 else
 inrO (some (.inl ((IntKind.wrap .i64 (f + (1 : Int)), ()), ()))))
 (((0 : Int), ()), ())
 else none
 else none
 else
 inrO (Option.bind (p25 fu (a, ())) fun ⟨_, j⟩ =>
 bif !j then
 some ((), (1 : Int))
 else
 Option.bind (p25 fu (c, ())) fun ⟨_, k⟩ =>
 bif !k then
 some ((), (1 : Int))
 else
 loopO (S := ((Int) × (Unit)) × (Unit)) fu (fun ⟨⟨l, _⟩, _⟩ =>
 bif decide (l < (List.length c : Int)) then
 bif decide ((0 : Int) ≤ l ∧ l < (List.length c : Int)) then
 bif decide (Int.toNat l < List.length c) then
 Option.bind (p14 fu ((a, c, ()), (List.getD c (Int.toNat l) (dflt (.int .i64))), ())) fun ⟨_, m⟩ =>
 bif m then
 inrO (some ((), (82 : Int)))
 else
 some (.inl ((IntKind.wrap .i64 (l + (1 : Int)), ()), ()))
 else none
 else none
 else
 inrO (bif ((List.length a : Int) == (0 : Int)) then
 some ((), (84 : Int))
 else
 some ((), (0 : Int))))
 (((0 : Int), ()), ())))
 (((0 : Int), ()), ())
def e10 (fu : Nat) : Ent := ⟨10, (.cons (.agg 2 (.cons (.hole (.sl (.int .i64))) (.cons (.hole (.sl (.int .i64))) .nil))) .nil), .nil, (.hole (.int .i64)), p10 fu⟩
def d10 (fu : Nat) : DC := (.seq (.region [opD 1 (.box 24 2 (tD 0)), opD 2 (.mov (cD 0))] [[], []] false) (.seq (.seq (.region [opD 9 (.faddr 0 (tD 1)), opD 10 (.load false 1 (tD 9)), opD 11 (.faddr 1 (tD 1)), opD 12 (.load false 1 (tD 11)), oqD 13 (.bslice 22 1 2 [vS] [(0, (tD 10)), (1, (tD 12))]) (.ty (.sl (.int .i64))), opD 14 (.len false (tD 13)), opD 15 (.mov (cD 0))] [[], [0], [], [2], [1, 3], [4], []] false) (.block 0 (.loop ⟨[15], (.cons (.hole (.int .i64)) .nil), [], .nil, [1, 13, 14], [0, 96]⟩
 (.seq (.region [opD 16 (.bin .lss (tD 15) (tD 14))] [[]] false) (.seq (.cond (.tmp 16) .skip (.exit 0)) (.seq (.block 1 (.seq (.region [opD 17 (.iaddr 1 (tD 13) (tD 15)), opD 18 (.load false 1 (tD 17)), mvD 4 18] [[], [0], [1, 0, 1]] false) (.seq (.region [mvD 19 4, opD 20 (.len false (tD 19)), opD 21 (.mov (cD 0))] [[], [0], []] false) (.block 2 (.loop ⟨[21], (.cons (.hole (.int .i64)) .nil), [], .nil, [1, 13, 14, 15, 19, 20], [0, 96]⟩
 (.seq (.region [opD 22 (.bin .lss (tD 21) (tD 20))] [[]] false) (.seq (.cond (.tmp 22) .skip (.exit 2)) (.seq (.block 3 (.seq (.region [opD 23 (.iaddr 1 (tD 19) (tD 21)), opD 24 (.load false 1 (tD 23)), mvD 6 24] [[], [0], [1, 0, 1]] false) (.seq (.region [mvD 25 6, oqD 26 (.call 24 [(tD 25)]) (.ent (e24 fu)), opD 27 (.not (tD 26))] [[], [0], [1]] false) (.cond (.tmp 27) (.seq (.region [opD 2 (.mov (cD 81))] [[]] false) .ret) .skip)))) (.region [opD 28 (.bin .add (tD 21) (cD 1)), mvD 21 28] [[], [0]] false))))))))) (.region [opD 29 (.bin .add (tD 15) (cD 1)), mvD 15 29] [[], [0]] false))))))) (.seq (.seq (.region [opD 30 (.faddr 0 (tD 1)), opD 31 (.load false 1 (tD 30)), oqD 32 (.call 25 [(tD 31)]) (.ent (e25 fu)), opD 33 (.not (tD 32)), mvD 34 33, ogD 35 34 false (.faddr 1 (tD 1)), ogD 36 34 false (.load false 1 (tD 35)), (⟨(some 37), (some (34, false)), (.call 25 [(tD 36)])⟩, (.ent (e25 fu))), ogD 38 34 false (.not (tD 37)), opD 39 (.pick (tD 34) (.const (.bool true)) (tD 38))] [[], [0], [1], [2], [3, 2], [4], [5, 4], [6, 4, 4], [7, 4], [4, 8]] false) (.cond (.tmp 39) (.seq (.region [opD 2 (.mov (cD 1))] [[]] false) .ret) .skip)) (.seq (.seq (.region [opD 40 (.faddr 1 (tD 1)), opD 41 (.load false 1 (tD 40)), opD 42 (.len false (tD 41)), opD 43 (.mov (cD 0))] [[], [0], [1], []] false) (.block 4 (.loop ⟨[43], (.cons (.hole (.int .i64)) .nil), [], .nil, [1, 41, 42], [0]⟩
 (.seq (.region [opD 44 (.bin .lss (tD 43) (tD 42))] [[]] false) (.seq (.cond (.tmp 44) .skip (.exit 4)) (.seq (.block 5 (.seq (.region [opD 45 (.iaddr 1 (tD 41) (tD 43)), opD 46 (.load false 1 (tD 45)), mvD 8 46] [[], [0], [1, 0, 1]] false) (.seq (.region [opD 47 (.load true 2 (tD 1)), mvD 48 8, oqD 49 (.call 14 [(tD 47), (tD 48)]) (.ent (e14 fu))] [[], [], [0, 1]] false) (.cond (.tmp 49) (.seq (.region [opD 2 (.mov (cD 82))] [[]] false) .ret) .skip)))) (.region [opD 50 (.bin .add (tD 43) (cD 1)), mvD 43 50] [[], [0]] false))))))) (.seq (.seq (.region [opD 51 (.faddr 0 (tD 1)), opD 52 (.load false 1 (tD 51)), opD 53 (.len false (tD 52)), opD 54 (.bin .eql (tD 53) (cD 0))] [[], [0], [1], [2]] false) (.cond (.tmp 54) (.seq (.region [opD 2 (.mov (cD 84))] [[]] false) .ret) .skip)) (.seq (.region [opD 2 (.mov (cD 0))] [[]] false) .ret))))))
set_option maxRecDepth 1000000 in
theorem v10 (fu : Nat) : evF fu (d10 fu) rs10 55 (e10 fu).ash (e10 fu).osh (e10 fu).vsh = p10 fu := by kernel_rfl
set_option maxRecDepth 1000000 in
theorem b10 (fu : Nat) : BodyD Try.prog 10 55 (d10 fu).erase rs10 := bodyD_mk Try.func10 (by kernel_rfl) (by kernel_rfl) (by kernel_rfl) (by kernel_rfl)
theorem g10 (fu : Nat) : (e10 fu).Good Try.prog := good_by orders (b10 fu) (l := [e24 fu, e25 fu, e25 fu, e14 fu]) (by kernel_rfl) ⟨g24 fu, g25 fu, g25 fu, g14 fu, trivial⟩ (by kernel_rfl) (v10 fu)
def rs16 : List RVx := [(.tmp 4)]
/-- gazette/raftconf.Learns -/
def p16 (fu : Nat) : ((List (Int)) × ((List (Int)) × (Unit))) × ((Int) × (Unit)) → Option ((Unit) × (Bool)) := fun ⟨⟨_, a, _⟩, c, _⟩ =>
Option.bind (p33 fu (a, c, ())) fun ⟨_, f⟩ =>
some ((), f)
def e16 (fu : Nat) : Ent := ⟨16, (.cons (.agg 2 (.cons (.hole (.sl (.int .i64))) (.cons (.hole (.sl (.int .i64))) .nil))) (.cons (.hole (.int .i64)) .nil)), .nil, (.hole .bool), p16 fu⟩
def d16 (fu : Nat) : DC := (.seq (.region [opD 2 (.box 24 2 (tD 0)), opD 4 (.mov (.const vB))] [[], []] false) (.seq (.region [opD 5 (.faddr 1 (tD 2)), opD 6 (.load false 1 (tD 5)), mvD 7 1, oqD 8 (.call 33 [(tD 6), (tD 7)]) (.ent (e33 fu)), mvD 4 8] [[], [0], [], [1, 2], [3, 3, 0, 1, 2, 3]] false) .ret))
set_option maxRecDepth 1000000 in
theorem v16 (fu : Nat) : evF fu (d16 fu) rs16 9 (e16 fu).ash (e16 fu).osh (e16 fu).vsh = p16 fu := by kernel_rfl
set_option maxRecDepth 1000000 in
theorem b16 (fu : Nat) : BodyD Try.prog 16 9 (d16 fu).erase rs16 := bodyD_mk Try.func16 (by kernel_rfl) (by kernel_rfl) (by kernel_rfl) (by kernel_rfl)
theorem g16 (fu : Nat) : (e16 fu).Good Try.prog := good_by orders (b16 fu) (l := [e33 fu]) (by kernel_rfl) ⟨g33 fu, trivial⟩ (by kernel_rfl) (v16 fu)
def rs43 : List RVx := [(.tmp 4)]
/-- gazette/raftconf.stands -/
def p43 (fu : Nat) : ((List (Int)) × ((List (Int)) × (Unit))) × ((Int) × (Unit)) → Option ((Unit) × (Bool)) := fun ⟨⟨a, c, _⟩, f, _⟩ =>
Option.bind (p14 fu ((a, c, ()), f, ())) fun ⟨_, h⟩ =>
bif h then
 some ((), true)
else
 Option.bind (p16 fu ((a, c, ()), f, ())) fun ⟨_, i⟩ =>
 some ((), i)
def e43 (fu : Nat) : Ent := ⟨43, (.cons (.agg 2 (.cons (.hole (.sl (.int .i64))) (.cons (.hole (.sl (.int .i64))) .nil))) (.cons (.hole (.int .i64)) .nil)), .nil, (.hole .bool), p43 fu⟩
def d43 (fu : Nat) : DC := (.seq (.region [opD 2 (.box 24 2 (tD 0)), opD 4 (.mov (.const vB))] [[], []] false) (.seq (.region [opD 5 (.load true 2 (tD 2)), mvD 6 1, oqD 7 (.call 14 [(tD 5), (tD 6)]) (.ent (e14 fu)), mvD 8 7, ogD 9 8 false (.load true 2 (tD 2)), ogD 10 8 false (.mov (tD 1)), (⟨(some 11), (some (8, false)), (.call 16 [(tD 9), (tD 10)])⟩, (.ent (e16 fu))), opD 12 (.pick (tD 8) (.const (.bool true)) (tD 11)), mvD 4 12] [[], [], [0, 1], [2, 2], [3], [3], [4, 5, 3, 3], [3, 6], [7, 6, 0, 1, 2, 3, 4, 5, 6, 7]] false) .ret))
set_option maxRecDepth 1000000 in
theorem v43 (fu : Nat) : evF fu (d43 fu) rs43 13 (e43 fu).ash (e43 fu).osh (e43 fu).vsh = p43 fu := by kernel_rfl
set_option maxRecDepth 1000000 in
theorem b43 (fu : Nat) : BodyD Try.prog 43 13 (d43 fu).erase rs43 := bodyD_mk Try.func43 (by kernel_rfl) (by kernel_rfl) (by kernel_rfl) (by kernel_rfl)
theorem g43 (fu : Nat) : (e43 fu).Good Try.prog := good_by orders (b43 fu) (l := [e14 fu, e16 fu]) (by kernel_rfl) ⟨g14 fu, g16 fu, trivial⟩ (by kernel_rfl) (v43 fu)
def rs35 : List RVx := [(.tmp 4)]
/-- gazette/raftconf.refuses -/
def p35 (fu : Nat) : ((List (Int)) × ((List (Int)) × (Unit))) × (((Int) × ((Int) × (Unit))) × (Unit)) → Option ((Unit) × (Int)) := fun ⟨⟨a, c, _⟩, ⟨f, h, _⟩, _⟩ =>
bif decide ((0 : Int) ≤ 0 ∧ 0 < (List.length a : Int)) then
 bif decide (0 < List.length a) then
 orK (E := ((Bool) × (Unit)) × (Unit))
 (bif (f == (1 : Int)) then
 Option.bind (p43 fu ((a, c, ()), h, ())) fun ⟨_, i⟩ =>
 some (.inl ((i, ()), ()))
 else
 some (.inl ((false, ()), ())))
 fun ⟨⟨j, _⟩, _⟩ =>
 bif j then
 some ((), (82 : Int))
 else
 orK (E := ((Bool) × (Unit)) × (Unit))
 (orK (E := ((Bool) × (Unit)) × (Unit))
 (bif (f == (2 : Int)) then
 Option.bind (p16 fu ((a, c, ()), h, ())) fun ⟨_, k⟩ =>
 some (.inl ((!k, ()), ()))
 else
 some (.inl ((false, ()), ())))
 fun ⟨⟨l, _⟩, _⟩ =>
 bif l then
 some (.inl ((true, ()), ()))
 else
 bif (f == (3 : Int)) then
 Option.bind (p43 fu ((a, c, ()), h, ())) fun ⟨_, m⟩ =>
 some (.inl ((!m, ()), ()))
 else
 some (.inl ((false, ()), ())))
 fun ⟨⟨l, _⟩, _⟩ =>
 bif l then
 some ((), (83 : Int))
 else
 bif ((List.length a : Int) == (1 : Int)) then
 bif (f == (3 : Int) && (h == (List.getD a 0 (dflt (.int .i64))) && true)) then
 some ((), (84 : Int))
 else
 some ((), (0 : Int))
 else
 some ((), (0 : Int))
 else none
else none
def e35 (fu : Nat) : Ent := ⟨35, (.cons (.agg 2 (.cons (.hole (.sl (.int .i64))) (.cons (.hole (.sl (.int .i64))) .nil))) (.cons (.agg 2 (.cons (.hole (.int .i64)) (.cons (.hole (.int .i64)) .nil))) .nil)), .nil, (.hole (.int .i64)), p35 fu⟩
def d35 (fu : Nat) : DC := (.seq (.region [opD 2 (.box 24 2 (tD 0)), opD 3 (.box 39 2 (tD 1)), opD 4 (.mov (cD 0))] [[], [], []] false) (.seq (.region [opD 6 (.faddr 0 (tD 2)), opD 7 (.load false 1 (tD 6)), opD 8 (.iaddr 1 (tD 7) (cD 0)), opD 9 (.load false 1 (tD 8)), opD 10 (.build 2 [vI, vI] [(0, (1, (cD 3))), (1, (1, (tD 9)))]), opD 5 (.alloc 39 2 [vI, vI]), onD (.store 2 (tD 5) (tD 10))] [[], [0], [1], [2], [3], [], [5, 4, 0, 1, 2, 3, 4, 5]] false) (.seq (.block 0 (.join ⟨[11], (.cons (.hole .bool) .nil), [], .nil, [2, 3, 5], [0, 16, 128]⟩
 (.region [opD 12 (.faddr 0 (tD 3)), opD 13 (.load false 1 (tD 12)), opD 14 (.bin .eql (tD 13) (cD 1)), mvD 15 14, ogD 16 15 true (.load true 2 (tD 2)), ogD 17 15 true (.faddr 1 (tD 3)), ogD 18 15 true (.load false 1 (tD 17)), (⟨(some 19), (some (15, true)), (.call 43 [(tD 16), (tD 18)])⟩, (.ent (e43 fu))), opD 20 (.pick (tD 15) (tD 19) (.const vB)), mvD 11 20] [[], [0], [1], [2], [3], [3], [5, 3], [4, 6, 3, 3], [3, 7], [8, 7]] false)
 (.cond (.tmp 11) (.seq (.region [opD 4 (.mov (cD 82))] [[]] false) .ret) (.join ⟨[21], (.cons (.hole .bool) .nil), [], .nil, [2, 3, 5], [0, 16, 128]⟩
 (.join ⟨[21], (.cons (.hole .bool) .nil), [], .nil, [2, 3, 5], [0, 16, 128]⟩
 (.region [opD 22 (.faddr 0 (tD 3)), opD 23 (.load false 1 (tD 22)), opD 24 (.bin .eql (tD 23) (cD 2)), mvD 25 24, ogD 26 25 true (.load true 2 (tD 2)), ogD 27 25 true (.faddr 1 (tD 3)), ogD 28 25 true (.load false 1 (tD 27)), (⟨(some 29), (some (25, true)), (.call 16 [(tD 26), (tD 28)])⟩, (.ent (e16 fu))), ogD 30 25 true (.not (tD 29)), opD 31 (.pick (tD 25) (tD 30) (.const vB)), mvD 21 31] [[], [0], [1], [2], [3], [3], [5, 3], [4, 6, 3, 3], [7, 3], [3, 8], [9, 7]] false)
 (.cond (.tmp 21) .skip (.region [opD 32 (.faddr 0 (tD 3)), opD 33 (.load false 1 (tD 32)), opD 34 (.bin .eql (tD 33) (cD 3)), mvD 35 34, ogD 36 35 true (.load true 2 (tD 2)), ogD 37 35 true (.faddr 1 (tD 3)), ogD 38 35 true (.load false 1 (tD 37)), (⟨(some 39), (some (35, true)), (.call 43 [(tD 36), (tD 38)])⟩, (.ent (e43 fu))), ogD 40 35 true (.not (tD 39)), opD 41 (.pick (tD 35) (tD 40) (.const vB)), mvD 21 41] [[], [0], [1], [2], [3], [3], [5, 3], [4, 6, 3, 3], [7, 3], [3, 8], [9, 7]] false)))
 (.cond (.tmp 21) (.seq (.region [opD 4 (.mov (cD 83))] [[]] false) .ret) (.seq (.region [opD 43 (.faddr 0 (tD 2)), opD 44 (.load false 1 (tD 43)), opD 45 (.len false (tD 44)), opD 46 (.bin .eql (tD 45) (cD 1)), mvD 47 46, ogD 48 47 true (.load true 2 (tD 3)), ogD 49 47 true (.load true 2 (tD 5)), ogD 50 47 true (.seq false [.int, .int] (tD 48) (tD 49)), opD 51 (.pick (tD 47) (tD 50) (.const vB)), mvD 42 51] [[], [0], [1], [2], [3], [4], [4], [5, 6, 4], [4, 7], [8, 4]] false) (.cond (.tmp 42) (.seq (.region [opD 4 (.mov (cD 84))] [[]] false) .ret) .skip))))))) (.seq (.region [opD 4 (.mov (cD 0))] [[]] false) .ret))))
set_option maxRecDepth 1000000 in
theorem v35 (fu : Nat) : evF fu (d35 fu) rs35 52 (e35 fu).ash (e35 fu).osh (e35 fu).vsh = p35 fu := by kernel_rfl
set_option maxRecDepth 1000000 in
theorem b35 (fu : Nat) : BodyD Try.prog 35 52 (d35 fu).erase rs35 := bodyD_mk Try.func35 (by kernel_rfl) (by kernel_rfl) (by kernel_rfl) (by kernel_rfl)
theorem g35 (fu : Nat) : (e35 fu).Good Try.prog := good_by orders (b35 fu) (l := [e43 fu, e16 fu, e43 fu]) (by kernel_rfl) ⟨g43 fu, g16 fu, g43 fu, trivial⟩ (by kernel_rfl) (v35 fu)
def rs47 : List RVx := [(.tmp 2)]
/-- gazette/copies.List[int] -/
def p47 (_ : Nat) : (List (Int)) × (Unit) → Option ((Unit) × (List (Int))) := fun ⟨a, _⟩ =>
bif ((List.length a : Int) == (0 : Int)) then
 some ((), [])
else
 bif decide ((0 : Int) ≤ (List.length a : Int) ∧ ((List.length a : Int) : Int) ≤ (List.length a : Int) ∧ ((List.length a : Int) : Int) ≤ 9223372036854775807 ∧ (8 : Int) * (List.length a : Int) ≤ 140737488355328) then
 bif decide (Int.toNat (List.length a : Int) = List.length (List.replicate (Int.toNat (List.length a : Int)) (0 : Int) : List (Int))) then
 bif decide (Int.toNat (List.length a : Int) = List.length (copyL (List.replicate (Int.toNat (List.length a : Int)) (0 : Int) : List (Int)) 0 (Int.toNat (List.length a : Int)) a)) then
 some ((), (copyL (List.replicate (Int.toNat (List.length a : Int)) (0 : Int) : List (Int)) 0 (Int.toNat (List.length a : Int)) a))
 else none
 else none
 else none
def e47 (fu : Nat) : Ent := ⟨47, (.cons (.hole (.sl (.int .i64))) .nil), .nil, (.own .own 3 (.int .i64)), p47 fu⟩
def d47 (_ : Nat) : DC := (.seq (.region [opD 2 (.mov (.const vS))] [[]] false) (.seq (.seq (.region [mvD 4 0, opD 5 (.len false (tD 4)), opD 6 (.bin .eql (tD 5) (cD 0))] [[], [0], [1]] false) (.cond (.tmp 6) (.seq (.region [opD 2 (.mov (.const vS))] [[]] false) .ret) .skip)) (.seq (.region [mvD 7 0, opD 8 (.len false (tD 7)), oqD 9 (.make false 3 1 [vI] 8 (tD 8) (tD 8)) (.ty (.int .i64)), mvD 3 9] [[], [0], [1, 1], [2, 0, 1, 2]] false) (.seq (.region [mvD 10 3, mvD 11 0, opD 12 (.copy 1 (tD 10) (tD 11))] [[], [], [0, 1]] false) (.seq (.region [mvD 13 3, mvD 2 13] [[], [0, 0]] false) .ret)))))
set_option maxRecDepth 1000000 in
theorem v47 (fu : Nat) : evF fu (d47 fu) rs47 14 (e47 fu).ash (e47 fu).osh (e47 fu).vsh = p47 fu := by kernel_rfl
set_option maxRecDepth 1000000 in
theorem b47 (fu : Nat) : BodyD Try.prog 47 14 (d47 fu).erase rs47 := bodyD_mk Try.func47 (by kernel_rfl) (by kernel_rfl) (by kernel_rfl) (by kernel_rfl)
theorem g47 (fu : Nat) : (e47 fu).Good Try.prog := good_by orders (b47 fu) (l := []) (by kernel_rfl) trivial (by kernel_rfl) (v47 fu)
def rs51 : List RVx := [(.cell 2 true 2)]
/-- gazette/copies.Conf -/
def p51 (fu : Nat) : ((List (Int)) × ((List (Int)) × (Unit))) × (Unit) → Option ((Unit) × ((List (Int)) × ((List (Int)) × (Unit)))) := fun ⟨⟨a, c, _⟩, _⟩ =>
Option.bind (p47 fu (a, ())) fun ⟨_, f⟩ =>
Option.bind (p47 fu (c, ())) fun ⟨_, h⟩ =>
bif decide (List.length f = List.length f) then
 bif decide (List.length h = List.length h) then
 some ((), (f, h, ()))
 else none
else none
def e51 (fu : Nat) : Ent := ⟨51, (.cons (.agg 2 (.cons (.hole (.sl (.int .i64))) (.cons (.hole (.sl (.int .i64))) .nil))) .nil), .nil, (.agg 2 (.cons (.own .own 3 (.int .i64)) (.cons (.own .own 3 (.int .i64)) .nil))), p51 fu⟩
def d51 (fu : Nat) : DC := (.seq (.region [opD 1 (.box 24 2 (tD 0)), opD 2 (.alloc 24 2 [vS, vS])] [[], []] false) (.seq (.region [opD 3 (.faddr 0 (tD 1)), opD 4 (.load false 1 (tD 3)), oqD 5 (.call 47 [(tD 4)]) (.ent (e47 fu)), opD 6 (.faddr 1 (tD 1)), opD 7 (.load false 1 (tD 6)), oqD 8 (.call 47 [(tD 7)]) (.ent (e47 fu)), opD 9 (.build 2 [vS, vS] [(0, (1, (tD 5))), (1, (1, (tD 8)))]), onD (.store 2 (tD 2) (tD 9))] [[], [0], [1], [], [3], [4, 2], [2, 5], [6, 5, 0, 1, 2, 3, 4, 5, 6]] true) .ret))
set_option maxRecDepth 1000000 in
theorem v51 (fu : Nat) : evF fu (d51 fu) rs51 10 (e51 fu).ash (e51 fu).osh (e51 fu).vsh = p51 fu := by kernel_rfl
set_option maxRecDepth 1000000 in
theorem b51 (fu : Nat) : BodyD Try.prog 51 10 (d51 fu).erase rs51 := bodyD_mk Try.func51 (by kernel_rfl) (by kernel_rfl) (by kernel_rfl) (by kernel_rfl)
theorem g51 (fu : Nat) : (e51 fu).Good Try.prog := good_by orders (b51 fu) (l := [e47 fu, e47 fu]) (by kernel_rfl) ⟨g47 fu, g47 fu, trivial⟩ (by kernel_rfl) (v51 fu)
def rs49 : List RVx := [(.tmp 3)]
/-- gazette/raftconf.without$1 -/
def p49 (_ : Nat) : (Int) × (((Int) × (Unit)) × (Unit)) → Option ((Unit) × (Bool)) := fun ⟨a, ⟨c, _⟩, _⟩ =>
some ((), (a == c))
def e49 (fu : Nat) : Ent := ⟨49, (.cons (.hole (.int .i64)) (.cons (.look (.cons (.hole (.int .i64)) .nil)) .nil)), .nil, (.hole .bool), p49 fu⟩
def d49 (_ : Nat) : DC := (.seq (.region [opD 3 (.mov (.const vB))] [[]] false) (.seq (.region [mvD 4 0, opD 5 (.load false 1 (tD 1)), opD 6 (.bin .eql (tD 4) (tD 5)), mvD 3 6] [[], [], [0, 1], [2, 0, 1, 2]] false) .ret))
set_option maxRecDepth 1000000 in
theorem v49 (fu : Nat) : evF fu (d49 fu) rs49 7 (e49 fu).ash (e49 fu).osh (e49 fu).vsh = p49 fu := by kernel_rfl
set_option maxRecDepth 1000000 in
theorem b49 (fu : Nat) : BodyD Try.prog 49 7 (d49 fu).erase rs49 := bodyD_mk Try.func49 (by kernel_rfl) (by kernel_rfl) (by kernel_rfl) (by kernel_rfl)
theorem g49 (fu : Nat) : (e49 fu).Good Try.prog := good_by orders (b49 fu) (l := []) (by kernel_rfl) trivial (by kernel_rfl) (v49 fu)
def rs65 : List RVx := [(.tmp 4)]
/-- slices.IndexFunc[[]int,int] -/
def p65 (fu : Nat) : (List (Int)) × (((Unit) × (((Int) × (Unit)) × (Unit))) × (Unit)) → Option ((((Int) × (Unit)) × (Unit)) × (Int)) := fun ⟨a, ⟨_, ⟨⟨c, _⟩, _⟩⟩, _⟩ =>
loopO (S := ((Int) × (Unit)) × (Unit)) fu (fun ⟨⟨f, _⟩, _⟩ =>
 bif decide (f < (List.length a : Int)) then
 bif decide ((0 : Int) ≤ f ∧ f < (List.length a : Int)) then
 bif decide (Int.toNat f < List.length a) then
 Option.bind (p49 fu ((List.getD a (Int.toNat f) (dflt (.int .i64))), (c, ()), ())) fun ⟨_, h⟩ =>
 bif h then
 inrO (some (((c, ()), ()), f))
 else
 some (.inl ((IntKind.wrap .i64 (f + (1 : Int)), ()), ()))
 else none
 else none
 else
 inrO (some (((c, ()), ()), ((-1) : Int))))
 (((0 : Int), ()), ())
def e65 (fu : Nat) : Ent := ⟨65, (.cons (.hole (.sl (.int .i64))) (.cons (.clo 49 0 .nil 1 (.cons (.box 3 1 (.cons (.hole (.int .i64)) .nil)) .nil)) .nil)), (.cons (.agg 1 (.cons (.hole (.int .i64)) .nil)) .nil), (.hole (.int .i64)), p65 fu⟩
def d65 (fu : Nat) : DC := (.seq (.region [opD 4 (.mov (cD 0))] [[]] false) (.seq (.seq (.region [mvD 6 0, opD 7 (.len false (tD 6)), opD 8 (.mov (cD 0))] [[], [0], []] false) (.block 0 (.loop ⟨[8], (.cons (.hole (.int .i64)) .nil), [], .nil, [0, 1, 7], [0]⟩
 (.seq (.region [opD 9 (.bin .lss (tD 8) (tD 7))] [[]] false) (.seq (.cond (.tmp 9) .skip (.exit 0)) (.seq (.block 1 (.seq (.region [mvD 10 8, mvD 5 10] [[], [0, 0]] false) (.seq (.region [mvD 11 1, mvD 12 0, mvD 13 5, opD 14 (.iaddr 1 (tD 12) (tD 13)), opD 15 (.load false 1 (tD 14)), oqD 16 (.callv (tD 11) [(tD 15)]) (.ent (e49 fu))] [[], [], [], [1, 2], [3], [0, 4]] false) (.cond (.tmp 16) (.seq (.region [mvD 17 5, mvD 4 17] [[], [0, 0]] false) .ret) .skip)))) (.region [opD 18 (.bin .add (tD 8) (cD 1)), mvD 8 18] [[], [0]] false))))))) (.seq (.region [opD 4 (.mov (.const (.int .i64 (-1))))] [[]] false) .ret)))
set_option maxRecDepth 1000000 in
theorem v65 (fu : Nat) : evF fu (d65 fu) rs65 19 (e65 fu).ash (e65 fu).osh (e65 fu).vsh = p65 fu := by kernel_rfl
set_option maxRecDepth 1000000 in
theorem b65 (fu : Nat) : BodyD Try.prog 65 19 (d65 fu).erase rs65 := bodyD_mk Try.func65 (by kernel_rfl) (by kernel_rfl) (by kernel_rfl) (by kernel_rfl)
theorem g65 (fu : Nat) : (e65 fu).Good Try.prog := good_by orders (b65 fu) (l := [e49 fu]) (by kernel_rfl) ⟨g49 fu, trivial⟩ (by kernel_rfl) (v65 fu)
def rs48 : List RVx := [(.tmp 4)]
/-- slices.DeleteFunc[[]int,int] -/
def p48 (fu : Nat) : (List (Int)) × (((Unit) × (((Int) × (Unit)) × (Unit))) × (Unit)) → Option (((Unit) × (((Int) × (Unit)) × (Unit))) × (List (Int))) := fun ⟨a, ⟨_, ⟨⟨c, _⟩, _⟩⟩, _⟩ =>
bif decide (List.length a = List.length a) then
 Option.bind (p65 fu (a, ((), ((c, ()), ())), ())) fun ⟨⟨⟨f, _⟩, _⟩, h⟩ =>
 bif (h == ((-1) : Int)) then
 bif decide (List.length a = List.length a) then
 some (((), (f, ()), ()), a)
 else none
 else
 bif decide (List.length a = List.length a) then
 loopO (S := ((List (Int)) × ((Int) × ((Int) × (Unit)))) × (Unit)) fu (fun ⟨⟨i, j, k, _⟩, _⟩ =>
 bif decide (k < ((List.length i) : Int)) then
 bif decide ((0 : Int) ≤ k ∧ k < (List.length i : Int)) then
 bif decide (Int.toNat k < List.length i) then
 Option.bind (p49 fu ((List.getD i (Int.toNat k) (dflt (.int .i64))), (f, ()), ())) fun ⟨_, l⟩ =>
 bif !l then
 bif decide ((0 : Int) ≤ j ∧ j < (List.length i : Int)) then
 bif decide (Int.toNat j < List.length i) then
 bif decide (List.length i = List.length (List.set i (Int.toNat j) (List.getD i (Int.toNat k) (dflt (.int .i64))))) then
 some (.inl (((List.set i (Int.toNat j) (List.getD i (Int.toNat k) (dflt (.int .i64)))), IntKind.wrap .i64 (j + (1 : Int)), IntKind.wrap .i64 (k + (1 : Int)), ()), ()))
 else none
 else none
 else none
 else
 bif decide (List.length i = List.length i) then
 some (.inl ((i, j, IntKind.wrap .i64 (k + (1 : Int)), ()), ()))
 else none
 else none
 else none
 else
 inrO (bif decide ((0 : Int) ≤ j) then
 bif decide (Int.toNat j ≤ List.length i ∧ 0 + (List.length i) ≤ List.length i) then
 bif decide ((Int.toNat j) + ((List.length i) - (Int.toNat j)) ≤ List.length i) then
 bif decide ((0 : Int) ≤ j) then
 bif decide (0 ≤ Int.toNat j ∧ 0 + (Int.toNat j) ≤ List.length (copyL i (Int.toNat j) ((List.length i) - (Int.toNat j)) (List.replicate ((List.length i) - (Int.toNat j)) (0 : Int)))) then
 bif decide (Int.toNat j = List.length (List.take (Int.toNat j) (copyL i (Int.toNat j) ((List.length i) - (Int.toNat j)) (List.replicate ((List.length i) - (Int.toNat j)) (0 : Int))))) then
 some (((), (f, ()), ()), List.take (Int.toNat j) (copyL i (Int.toNat j) ((List.length i) - (Int.toNat j)) (List.replicate ((List.length i) - (Int.toNat j)) (0 : Int))))
 else none
 else none
 else none
 else none
 else none
 else none))
 ((a, h, IntKind.wrap .i64 (h + (1 : Int)), ()), ())
 else none
else none
def e48 (fu : Nat) : Ent := ⟨48, (.cons (.own .own 3 (.int .i64)) (.cons (.clo 49 0 .nil 1 (.cons (.box 3 1 (.cons (.hole (.int .i64)) .nil)) .nil)) .nil)), (.cons .dead (.cons (.agg 1 (.cons (.hole (.int .i64)) .nil)) .nil)), (.own .own 3 (.int .i64)), p48 fu⟩
def d48 (fu : Nat) : DC := (.seq (.region [opD 4 (.mov (.const vS))] [[]] false) (.seq (.region [mvD 8 0, mvD 9 1, oqD 10 (.call 65 [(tD 8), (tD 9)]) (.ent (e65 fu)), mvD 5 10] [[], [], [0, 1], [2, 2, 0, 1, 2]] false) (.seq (.seq (.region [mvD 11 5, opD 12 (.bin .eql (tD 11) (.const (.int .i64 (-1))))] [[], [0]] false) (.cond (.tmp 12) (.seq (.region [mvD 13 0, mvD 4 13] [[], [0, 0]] false) .ret) .skip)) (.seq (.seq (.region [mvD 14 5, opD 15 (.bin .add (tD 14) (cD 1)), mvD 6 15] [[], [0], [1, 0, 1]] false) (.block 0 (.loop ⟨[0, 5, 6], (.cons (.own .own 3 (.int .i64)) (.cons (.hole (.int .i64)) (.cons (.hole (.int .i64)) .nil))), [], .nil, [1], [0, 1]⟩
 (.seq (.seq (.region [mvD 16 6, mvD 17 0, opD 18 (.len false (tD 17)), opD 19 (.bin .lss (tD 16) (tD 18))] [[], [], [1], [0, 2]] false) (.cond (.tmp 19) .skip (.exit 0))) (.seq (.block 1 (.seq (.region [mvD 22 0, mvD 23 6, opD 24 (.iaddr 1 (tD 22) (tD 23)), opD 25 (.load false 1 (tD 24)), mvD 7 25] [[], [], [0, 1], [2], [3, 0, 1, 2, 3]] false) (.seq (.region [mvD 26 1, mvD 27 7, oqD 28 (.callv (tD 26) [(tD 27)]) (.ent (e49 fu)), opD 29 (.not (tD 28))] [[], [], [0, 1], [2]] false) (.cond (.tmp 29) (.seq (.region [mvD 30 0, mvD 31 5, mvD 32 7, opD 33 (.iaddr 1 (tD 30) (tD 31)), onD (.store 1 (tD 33) (tD 32))] [[], [], [], [0, 1, 0, 1, 2], [3, 2, 0, 1, 2]] false) (.region [mvD 34 5, opD 35 (.bin .add (tD 34) (cD 1)), mvD 5 35] [[], [0], [1, 0, 1]] false)) .skip)))) (.region [mvD 20 6, opD 21 (.bin .add (tD 20) (cD 1)), mvD 6 21] [[], [0], [1, 0, 1]] false)))))) (.seq (.region [mvD 36 0, mvD 37 5, opD 38 (.slc 1 (tD 36) (some (tD 37)) none), onD (.clr 1 [vI] (tD 38))] [[], [], [0, 1], [2]] false) (.seq (.region [mvD 39 0, mvD 40 5, opD 41 (.slc 1 (tD 39) none (some (tD 40))), mvD 4 41] [[], [], [0, 1], [2, 0, 1, 2]] false) .ret))))))
set_option maxRecDepth 1000000 in
theorem v48 (fu : Nat) : evF fu (d48 fu) rs48 42 (e48 fu).ash (e48 fu).osh (e48 fu).vsh = p48 fu := by kernel_rfl
set_option maxRecDepth 1000000 in
theorem b48 (fu : Nat) : BodyD Try.prog 48 42 (d48 fu).erase rs48 := bodyD_mk Try.func48 (by kernel_rfl) (by kernel_rfl) (by kernel_rfl) (by kernel_rfl)
theorem g48 (fu : Nat) : (e48 fu).Good Try.prog := good_by orders (b48 fu) (l := [e65 fu, e49 fu]) (by kernel_rfl) ⟨g65 fu, g49 fu, trivial⟩ (by kernel_rfl) (v48 fu)
def rs30 : List RVx := [(.tmp 4)]
/-- gazette/raftconf.without -/
def p30 (fu : Nat) : (List (Int)) × ((Int) × (Unit)) → Option (((Unit) × (Unit)) × (List (Int))) := fun ⟨a, c, _⟩ =>
bif decide (List.length a = List.length a) then
 Option.bind (p48 fu (a, ((), ((c, ()), ())), ())) fun ⟨⟨_, ⟨_, _⟩, _⟩, f⟩ =>
 bif decide (List.length f = List.length f) then
 Option.bind (p47 fu (f, ())) fun ⟨_, h⟩ =>
 bif decide (List.length h = List.length h) then
 some (((), ()), h)
 else none
 else none
else none
def e30 (fu : Nat) : Ent := ⟨30, (.cons (.own .own 3 (.int .i64)) (.cons (.hole (.int .i64)) .nil)), (.cons .dead .nil), (.own .own 3 (.int .i64)), p30 fu⟩
def d30 (fu : Nat) : DC := (.seq (.region [opD 3 (.box 3 1 (tD 1)), opD 4 (.mov (.const vS))] [[], []] false) (.seq (.region [mvD 5 0, opD 6 (.fn 49 [] [(tD 3)]), oqD 7 (.call 48 [(tD 5), (tD 6)]) (.ent (e48 fu)), oqD 8 (.call 47 [(tD 7)]) (.ent (e47 fu)), mvD 4 8] [[], [], [0, 1], [2, 2], [3, 3, 0, 1, 2, 3]] false) .ret))
set_option maxRecDepth 1000000 in
theorem v30 (fu : Nat) : evF fu (d30 fu) rs30 9 (e30 fu).ash (e30 fu).osh (e30 fu).vsh = p30 fu := by kernel_rfl
set_option maxRecDepth 1000000 in
theorem b30 (fu : Nat) : BodyD Try.prog 30 9 (d30 fu).erase rs30 := bodyD_mk Try.func30 (by kernel_rfl) (by kernel_rfl) (by kernel_rfl) (by kernel_rfl)
theorem g30 (fu : Nat) : (e30 fu).Good Try.prog := good_by orders (b30 fu) (l := [e48 fu, e47 fu]) (by kernel_rfl) ⟨g48 fu, g47 fu, trivial⟩ (by kernel_rfl) (v30 fu)
def rs73 : List RVx := [(.tmp 2)]
/-- cmp.isNaN[int] -/
def p73 (_ : Nat) : (Int) × (Unit) → Option ((Unit) × (Bool)) := fun ⟨a, _⟩ =>
some ((), (a != a))
def e73 (fu : Nat) : Ent := ⟨73, (.cons (.hole (.int .i64)) .nil), .nil, (.hole .bool), p73 fu⟩
def d73 (_ : Nat) : DC := (.seq (.region [opD 2 (.mov (.const vB))] [[]] false) (.seq (.region [mvD 3 0, mvD 4 0, opD 5 (.bin .neq (tD 3) (tD 4)), mvD 2 5] [[], [], [0, 1], [2, 0, 1, 2]] false) .ret))
set_option maxRecDepth 1000000 in
theorem v73 (fu : Nat) : evF fu (d73 fu) rs73 6 (e73 fu).ash (e73 fu).osh (e73 fu).vsh = p73 fu := by kernel_rfl
set_option maxRecDepth 1000000 in
theorem b73 (fu : Nat) : BodyD Try.prog 73 6 (d73 fu).erase rs73 := bodyD_mk Try.func73 (by kernel_rfl) (by kernel_rfl) (by kernel_rfl) (by kernel_rfl)
theorem g73 (fu : Nat) : (e73 fu).Good Try.prog := good_by orders (b73 fu) (l := []) (by kernel_rfl) trivial (by kernel_rfl) (v73 fu)
def rs60 : List RVx := [(.tmp 4)]
/-- cmp.Less[int] -/
def p60 (fu : Nat) : (Int) × ((Int) × (Unit)) → Option ((Unit) × (Bool)) := fun ⟨a, c, _⟩ =>
Option.bind (p73 fu (a, ())) fun ⟨_, f⟩ =>
bif f then
 Option.bind (p73 fu (c, ())) fun ⟨_, h⟩ =>
 bif !h then
 some ((), true)
 else
 some ((), decide (a < c))
else
 some ((), decide (a < c))
def e60 (fu : Nat) : Ent := ⟨60, (.cons (.hole (.int .i64)) (.cons (.hole (.int .i64)) .nil)), .nil, (.hole .bool), p60 fu⟩
def d60 (fu : Nat) : DC := (.seq (.region [opD 4 (.mov (.const vB))] [[]] false) (.seq (.region [mvD 5 0, oqD 6 (.call 73 [(tD 5)]) (.ent (e73 fu)), mvD 7 6, ogD 8 7 true (.mov (tD 1)), (⟨(some 9), (some (7, true)), (.call 73 [(tD 8)])⟩, (.ent (e73 fu))), ogD 10 7 true (.not (tD 9)), opD 11 (.pick (tD 7) (tD 10) (.const vB)), mvD 12 11, ogD 13 12 false (.mov (tD 0)), ogD 14 12 false (.mov (tD 1)), ogD 15 12 false (.bin .lss (tD 13) (tD 14)), opD 16 (.pick (tD 12) (.const (.bool true)) (tD 15)), mvD 4 16] [[], [0], [1, 1], [2], [3, 2, 2], [4, 2], [2, 5], [6, 4], [7], [7], [8, 9, 7], [7, 10], [11, 7, 0, 1, 2, 3, 4, 5, 6, 7, 8, 9, 10, 11]] false) .ret))
set_option maxRecDepth 1000000 in
theorem v60 (fu : Nat) : evF fu (d60 fu) rs60 17 (e60 fu).ash (e60 fu).osh (e60 fu).vsh = p60 fu := by kernel_rfl
set_option maxRecDepth 1000000 in
theorem b60 (fu : Nat) : BodyD Try.prog 60 17 (d60 fu).erase rs60 := bodyD_mk Try.func60 (by kernel_rfl) (by kernel_rfl) (by kernel_rfl) (by kernel_rfl)
theorem g60 (fu : Nat) : (e60 fu).Good Try.prog := good_by orders (b60 fu) (l := [e73 fu, e73 fu]) (by kernel_rfl) ⟨g73 fu, g73 fu, trivial⟩ (by kernel_rfl) (v60 fu)
def rs74 : List RVx := [(.tmp 2)]
/-- slices.isNaN[int] -/
def p74 (_ : Nat) : (Int) × (Unit) → Option ((Unit) × (Bool)) := fun ⟨a, _⟩ =>
some ((), (a != a))
def e74 (fu : Nat) : Ent := ⟨74, (.cons (.hole (.int .i64)) .nil), .nil, (.hole .bool), p74 fu⟩
def d74 (_ : Nat) : DC := (.seq (.region [opD 2 (.mov (.const vB))] [[]] false) (.seq (.region [mvD 3 0, mvD 4 0, opD 5 (.bin .neq (tD 3) (tD 4)), mvD 2 5] [[], [], [0, 1], [2, 0, 1, 2]] false) .ret))
set_option maxRecDepth 1000000 in
theorem v74 (fu : Nat) : evF fu (d74 fu) rs74 6 (e74 fu).ash (e74 fu).osh (e74 fu).vsh = p74 fu := by kernel_rfl
set_option maxRecDepth 1000000 in
theorem b74 (fu : Nat) : BodyD Try.prog 74 6 (d74 fu).erase rs74 := bodyD_mk Try.func74 (by kernel_rfl) (by kernel_rfl) (by kernel_rfl) (by kernel_rfl)
theorem g74 (fu : Nat) : (e74 fu).Good Try.prog := good_by orders (b74 fu) (l := []) (by kernel_rfl) trivial (by kernel_rfl) (v74 fu)
def rs66 : List RVx := [(.tmp 4), (.tmp 5)]
/-- slices.BinarySearch[[]int,int] -/
def p66 (fu : Nat) : (List (Int)) × ((Int) × (Unit)) → Option ((Unit) × ((Int) × ((Bool) × (Unit)))) := fun ⟨a, c, _⟩ =>
loopO (S := ((Int) × ((Int) × (Unit))) × (Unit)) fu (fun ⟨⟨f, h, _⟩, _⟩ =>
 bif decide (f < h) then
 bif decide ((0 : Int) ≤ IntKind.wrap .i64 (Int.fdiv (IntKind.wrap .u64 (IntKind.wrap .i64 (f + h))) (2 ^ (min (Int.toNat (1 : Int)) (IntKind.bits .u64)))) ∧ IntKind.wrap .i64 (Int.fdiv (IntKind.wrap .u64 (IntKind.wrap .i64 (f + h))) (2 ^ (min (Int.toNat (1 : Int)) (IntKind.bits .u64)))) < (List.length a : Int)) then
 bif decide (Int.toNat (IntKind.wrap .i64 (Int.fdiv (IntKind.wrap .u64 (IntKind.wrap .i64 (f + h))) (2 ^ (min (Int.toNat (1 : Int)) (IntKind.bits .u64))))) < List.length a) then
 Option.bind (p60 fu ((List.getD a (Int.toNat (IntKind.wrap .i64 (Int.fdiv (IntKind.wrap .u64 (IntKind.wrap .i64 (f + h))) (2 ^ (min (Int.toNat (1 : Int)) (IntKind.bits .u64)))))) (dflt (.int .i64))), c, ())) fun ⟨_, i⟩ =>
 bif i then
 some (.inl ((IntKind.wrap .i64 ((IntKind.wrap .i64 (Int.fdiv (IntKind.wrap .u64 (IntKind.wrap .i64 (f + h))) (2 ^ (min (Int.toNat (1 : Int)) (IntKind.bits .u64))))) + (1 : Int)), h, ()), ()))
 else
 some (.inl ((f, IntKind.wrap .i64 (Int.fdiv (IntKind.wrap .u64 (IntKind.wrap .i64 (f + h))) (2 ^ (min (Int.toNat (1 : Int)) (IntKind.bits .u64)))), ()), ()))
 else none
 else none
 else
 inrO (bif decide (f < (List.length a : Int)) then
 bif decide ((0 : Int) ≤ f ∧ f < (List.length a : Int)) then
 bif decide (Int.toNat f < List.length a) then
 bif ((List.getD a (Int.toNat f) (dflt (.int .i64))) == c) then
 some ((), (f, true, ()))
 else
 bif decide ((0 : Int) ≤ f ∧ f < (List.length a : Int)) then
 bif decide (Int.toNat f < List.length a) then
 Option.bind (p74 fu ((List.getD a (Int.toNat f) (dflt (.int .i64))), ())) fun ⟨_, j⟩ =>
 bif j then
 Option.bind (p74 fu (c, ())) fun ⟨_, k⟩ =>
 some ((), (f, k, ()))
 else
 some ((), (f, false, ()))
 else none
 else none
 else none
 else none
 else
 some ((), (f, false, ()))))
 (((0 : Int), (List.length a : Int), ()), ())
def e66 (fu : Nat) : Ent := ⟨66, (.cons (.hole (.sl (.int .i64))) (.cons (.hole (.int .i64)) .nil)), .nil, (.tup 2 (.cons (.hole (.int .i64)) (.cons (.hole .bool) .nil))), p66 fu⟩
def d66 (fu : Nat) : DC := (.seq (.region [opD 4 (.mov (cD 0)), opD 5 (.mov (.const vB))] [[], [0]] false) (.seq (.region [mvD 10 0, opD 11 (.len false (tD 10)), mvD 6 11] [[], [0], [1, 0, 1]] false) (.seq (.region [mvD 12 6, opD 7 (.mov (cD 0)), mvD 8 12] [[], [], [0, 1, 0, 1]] false) (.seq (.block 0 (.loop ⟨[7, 8], (.cons (.hole (.int .i64)) (.cons (.hole (.int .i64)) .nil)), [], .nil, [0, 1, 6], []⟩
 (.seq (.seq (.region [mvD 13 7, mvD 14 8, opD 15 (.bin .lss (tD 13) (tD 14))] [[], [], [0, 1]] false) (.cond (.tmp 15) .skip (.exit 0))) (.block 1 (.seq (.region [mvD 16 7, mvD 17 8, opD 18 (.bin .add (tD 16) (tD 17)), opD 19 (.conv .u64 (tD 18)), opD 20 (.bin .shr (tD 19) (.const (.int .u64 1))), opD 21 (.conv .i64 (tD 20)), mvD 9 21] [[], [], [0, 1], [2], [3], [4], [5, 0, 1, 2, 3, 4, 5]] false) (.seq (.region [mvD 22 0, mvD 23 9, opD 24 (.iaddr 1 (tD 22) (tD 23)), opD 25 (.load false 1 (tD 24)), mvD 26 1, oqD 27 (.call 60 [(tD 25), (tD 26)]) (.ent (e60 fu))] [[], [], [0, 1], [2], [], [3, 4]] false) (.cond (.tmp 27) (.region [mvD 28 9, opD 29 (.bin .add (tD 28) (cD 1)), mvD 7 29] [[], [0], [1, 0, 1]] false) (.region [mvD 30 9, mvD 8 30] [[], [0, 0]] false)))))))) (.seq (.region [mvD 31 7, mvD 32 7, mvD 33 6, opD 34 (.bin .lss (tD 32) (tD 33)), mvD 35 34, ogD 36 35 true (.mov (tD 0)), ogD 37 35 true (.mov (tD 7)), ogD 38 35 true (.iaddr 1 (tD 36) (tD 37)), ogD 39 35 true (.load false 1 (tD 38)), ogD 40 35 true (.mov (tD 1)), ogD 41 35 true (.bin .eql (tD 39) (tD 40)), ogD 42 35 true (.mov (tD 41)), ogD 43 42 false (.mov (tD 0)), ogD 44 42 false (.mov (tD 7)), ogD 45 42 false (.iaddr 1 (tD 43) (tD 44)), ogD 46 42 false (.load false 1 (tD 45)), (⟨(some 47), (some (42, false)), (.call 74 [(tD 46)])⟩, (.ent (e74 fu))), ogD 48 42 false (.mov (tD 47)), ogD 49 48 true (.mov (tD 1)), (⟨(some 50), (some (48, true)), (.call 74 [(tD 49)])⟩, (.ent (e74 fu))), ogD 51 42 false (.pick (tD 48) (tD 50) (.const vB)), ogD 52 35 true (.pick (tD 42) (.const (.bool true)) (tD 51)), opD 53 (.pick (tD 35) (tD 52) (.const vB)), mvD 4 31, mvD 5 53] [[], [], [], [1, 2], [3], [4], [4], [5, 6, 4], [7, 4], [4], [8, 9, 4], [10, 4, 4], [11], [11], [12, 13, 11], [14, 11], [15, 11, 11], [16, 16, 11], [17], [18, 17, 17], [17, 19, 11], [11, 20, 4], [4, 21], [0, 19, 0], [22, 23, 0, 1, 2, 3, 4, 5, 6, 7, 8, 9, 10, 11, 12, 13, 14, 15, 16, 17, 18, 19, 20, 21, 22, 23]] false) .ret)))))
set_option maxRecDepth 1000000 in
theorem v66 (fu : Nat) : evF fu (d66 fu) rs66 54 (e66 fu).ash (e66 fu).osh (e66 fu).vsh = p66 fu := by kernel_rfl
set_option maxRecDepth 1000000 in
theorem b66 (fu : Nat) : BodyD Try.prog 66 54 (d66 fu).erase rs66 := bodyD_mk Try.func66 (by kernel_rfl) (by kernel_rfl) (by kernel_rfl) (by kernel_rfl)
theorem g66 (fu : Nat) : (e66 fu).Good Try.prog := good_by orders (b66 fu) (l := [e60 fu, e74 fu, e74 fu]) (by kernel_rfl) ⟨g60 fu, g74 fu, g74 fu, trivial⟩ (by kernel_rfl) (v66 fu)
def rs52 : List RVx := [(.tmp 4)]
/-- gazette/raftconf.with -/
def p52 (fu : Nat) : (List (Int)) × ((Int) × (Unit)) → Option (((Unit) × (Unit)) × (List (Int))) := fun ⟨a, c, _⟩ =>
bif decide (List.length a = List.length a) then
 Option.bind (p66 fu (a, c, ())) fun ⟨_, ⟨f, _, _⟩⟩ =>
 bif decide (List.length a = List.length a) then
 Option.bind (pInsert fu (a, f, [c], ())) fun ⟨⟨_, _, _⟩, h⟩ =>
 bif decide (List.length h = List.length h) then
 some (((), ()), h)
 else none
 else none
else none
def e52 (fu : Nat) : Ent := ⟨52, (.cons (.own .own 3 (.int .i64)) (.cons (.hole (.int .i64)) .nil)), (.cons .dead .nil), (.own .own 3 (.int .i64)), p52 fu⟩
def d52 (fu : Nat) : DC := (.seq (.region [opD 4 (.mov (.const vS))] [[]] false) (.seq (.region [mvD 8 0, mvD 9 1, oqD 10 (.call 66 [(tD 8), (tD 9)]) (.ent (e66 fu)), mvD 7 10, opD 11 (.ext (tD 7) 0), opD 12 (.ext (tD 7) 1), mvD 5 11, mvD 6 12] [[], [], [0, 1], [2], [3], [3], [4, 2, 0, 1, 2, 3, 4], [5, 6, 0, 1, 2, 3, 4, 5, 6]] false) (.seq (.region [mvD 13 0, mvD 14 5, mvD 15 1, oqD 16 (.bslice 3 1 1 [vI] [(0, (tD 15))]) (.ty (.int .i64)), oqD 17 (.call 67 [(tD 13), (tD 14), (tD 16)]) (.ent (eInsert fu)), mvD 4 17] [[], [], [], [2], [0, 1, 3], [4, 4, 0, 1, 2, 3, 4]] false) .ret)))
set_option maxRecDepth 1000000 in
theorem v52 (fu : Nat) : evF fu (d52 fu) rs52 18 (e52 fu).ash (e52 fu).osh (e52 fu).vsh = p52 fu := by kernel_rfl
set_option maxRecDepth 1000000 in
theorem b52 (fu : Nat) : BodyD Try.prog 52 18 (d52 fu).erase rs52 := bodyD_mk Try.func52 (by kernel_rfl) (by kernel_rfl) (by kernel_rfl) (by kernel_rfl)
theorem g52 (fu : Nat) : (e52 fu).Good Try.prog := good_by orders (b52 fu) (l := [e66 fu, eInsert fu]) (by kernel_rfl) ⟨g66 fu, gInsert fu, trivial⟩ (by kernel_rfl) (v52 fu)
def rs36 : List RVx := [(.cell 4 true 2)]
/-- gazette/raftconf.changed -/
def p36 (fu : Nat) : ((List (Int)) × ((List (Int)) × (Unit))) × (((Int) × ((Int) × (Unit))) × (Unit)) → Option ((Unit) × ((List (Int)) × ((List (Int)) × (Unit)))) := fun ⟨⟨a, c, _⟩, ⟨f, h, _⟩, _⟩ =>
Option.bind (p51 fu ((a, c, ()), ())) fun ⟨_, ⟨i, j, _⟩⟩ =>
orK (E := (Unit) × (((List (Int)) × ((List (Int)) × (Unit))) × (Unit)))
 (orK (E := (Unit) × (((List (Int)) × ((List (Int)) × (Unit))) × (Unit)))
 (bif (f == (3 : Int)) then
 bif decide (List.length i = List.length i) then
 Option.bind (p30 fu (i, h, ())) fun ⟨⟨_, _⟩, k⟩ =>
 bif decide (List.length k = List.length k) then
 bif decide (List.length j = List.length j) then
 some (.inl ((), ((k, j, ()), ())))
 else none
 else none
 else none
 else
 bif (f == (2 : Int)) then
 bif decide (List.length i = List.length i) then
 bif decide (List.length j = List.length j) then
 some (.inl ((), ((i, j, ()), ())))
 else none
 else none
 else
 bif (f == (1 : Int)) then
 inrO (bif decide (List.length j = List.length j) then
 Option.bind (p52 fu (j, h, ())) fun ⟨⟨_, _⟩, l⟩ =>
 bif decide (List.length i = List.length i) then
 bif decide (List.length l = List.length l) then
 some (.inl ((), ((i, l, ()), ())))
 else none
 else none
 else none)
 else
 inrO (bif decide (List.length i = List.length i) then
 bif decide (List.length j = List.length j) then
 some (.inl ((), ((i, j, ()), ())))
 else none
 else none))
 fun ⟨_, ⟨⟨m, n, _⟩, _⟩⟩ =>
 bif decide (List.length n = List.length n) then
 Option.bind (p30 fu (n, h, ())) fun ⟨⟨_, _⟩, o⟩ =>
 bif decide (List.length m = List.length m) then
 bif decide (List.length o = List.length o) then
 some (.inl ((), ((m, o, ()), ())))
 else none
 else none
 else none)
 fun ⟨_, ⟨⟨m, n, _⟩, _⟩⟩ =>
bif (f == (2 : Int)) then
 bif decide (List.length m = List.length m) then
 Option.bind (p52 fu (m, h, ())) fun ⟨⟨_, _⟩, q⟩ =>
 bif decide (List.length q = List.length q) then
 bif decide (List.length n = List.length n) then
 some ((), (q, n, ()))
 else none
 else none
 else none
else
 bif decide (List.length m = List.length m) then
 bif decide (List.length n = List.length n) then
 some ((), (m, n, ()))
 else none
 else none
def e36 (fu : Nat) : Ent := ⟨36, (.cons (.agg 2 (.cons (.hole (.sl (.int .i64))) (.cons (.hole (.sl (.int .i64))) .nil))) (.cons (.agg 2 (.cons (.hole (.int .i64)) (.cons (.hole (.int .i64)) .nil))) .nil)), .nil, (.agg 2 (.cons (.own .own 3 (.int .i64)) (.cons (.own .own 3 (.int .i64)) .nil))), p36 fu⟩
def d36 (fu : Nat) : DC := (.seq (.region [opD 2 (.box 24 2 (tD 0)), opD 3 (.box 39 2 (tD 1)), opD 4 (.alloc 24 2 [vS, vS])] [[], [], []] false) (.seq (.region [opD 5 (.load true 2 (tD 2)), oqD 6 (.call 51 [(tD 5)]) (.ent (e51 fu)), onD (.store 2 (tD 2) (tD 6))] [[], [0], [1, 1, 0, 1]] false) (.join ⟨[], .nil, [(0, 24, 2)], (.cons (.agg 2 (.cons (.own .own 3 (.int .i64)) (.cons (.own .own 3 (.int .i64)) .nil))) .nil), [2, 3, 4], [16, 32]⟩
 (.seq (.region [opD 7 (.faddr 0 (tD 3)), opD 8 (.load false 1 (tD 7))] [[], [0]] false) (.block 0 (.seq (.block 3 (.join ⟨[], .nil, [(0, 24, 2)], (.cons (.agg 2 (.cons (.own .own 3 (.int .i64)) (.cons (.own .own 3 (.int .i64)) .nil))) .nil), [2, 3, 4], [16, 32]⟩
 (.block 2 (.seq (.block 1 (.seq (.seq (.seq (.region [opD 10 (.bin .eql (tD 8) (cD 3)), mvD 9 10] [[], [0]] false) (.cond (.tmp 9) (.exit 1) .skip)) (.seq (.seq (.region [opD 12 (.bin .eql (tD 8) (cD 2)), mvD 11 12] [[], [0]] false) (.cond (.tmp 11) (.exit 2) .skip)) (.seq (.region [opD 14 (.bin .eql (tD 8) (cD 1)), mvD 13 14] [[], [0]] false) (.cond (.tmp 13) (.exit 3) .skip)))) (.exit 0))) (.region [opD 15 (.faddr 0 (tD 2)), opD 16 (.load false 1 (tD 15)), opD 17 (.faddr 1 (tD 3)), opD 18 (.load false 1 (tD 17)), oqD 19 (.call 30 [(tD 16), (tD 18)]) (.ent (e30 fu)), opD 20 (.faddr 0 (tD 2)), onD (.store 1 (tD 20) (tD 19))] [[], [0], [], [2], [1, 3], [0, 1, 2, 3, 4], [5, 4, 4, 0, 1, 2, 3, 4]] false)))
 (.seq (.region [opD 21 (.faddr 1 (tD 2)), opD 22 (.load false 1 (tD 21)), opD 23 (.faddr 1 (tD 3)), opD 24 (.load false 1 (tD 23)), oqD 25 (.call 30 [(tD 22), (tD 24)]) (.ent (e30 fu)), opD 26 (.faddr 1 (tD 2)), onD (.store 1 (tD 26) (tD 25))] [[], [0], [], [2], [1, 3], [0, 1, 2, 3, 4], [5, 4, 4, 0, 1, 2, 3, 4]] false) (.exit 0)))) (.seq (.region [opD 27 (.faddr 1 (tD 2)), opD 28 (.load false 1 (tD 27)), opD 29 (.faddr 1 (tD 3)), opD 30 (.load false 1 (tD 29)), oqD 31 (.call 52 [(tD 28), (tD 30)]) (.ent (e52 fu)), opD 32 (.faddr 1 (tD 2)), onD (.store 1 (tD 32) (tD 31))] [[], [0], [], [2], [1, 3], [0, 1, 2, 3, 4], [5, 4, 4, 0, 1, 2, 3, 4]] false) (.exit 0)))))
 (.seq (.seq (.region [opD 33 (.faddr 0 (tD 3)), opD 34 (.load false 1 (tD 33)), opD 35 (.bin .eql (tD 34) (cD 2))] [[], [0], [1]] false) (.cond (.tmp 35) (.region [opD 36 (.faddr 0 (tD 2)), opD 37 (.load false 1 (tD 36)), opD 38 (.faddr 1 (tD 3)), opD 39 (.load false 1 (tD 38)), oqD 40 (.call 52 [(tD 37), (tD 39)]) (.ent (e52 fu)), opD 41 (.faddr 0 (tD 2)), onD (.store 1 (tD 41) (tD 40))] [[], [0], [], [2], [1, 3], [0, 1, 2, 3, 4], [5, 4, 4, 0, 1, 2, 3, 4]] false) .skip)) (.seq (.region [opD 42 (.load true 2 (tD 2)), onD (.store 2 (tD 4) (tD 42))] [[], [0, 0]] false) .ret)))))
set_option maxRecDepth 1000000 in
theorem v36 (fu : Nat) : evF fu (d36 fu) rs36 43 (e36 fu).ash (e36 fu).osh (e36 fu).vsh = p36 fu := by kernel_rfl
set_option maxRecDepth 1000000 in
theorem b36 (fu : Nat) : BodyD Try.prog 36 43 (d36 fu).erase rs36 := bodyD_mk Try.func36 (by kernel_rfl) (by kernel_rfl) (by kernel_rfl) (by kernel_rfl)
theorem g36 (fu : Nat) : (e36 fu).Good Try.prog := good_by orders (b36 fu) (l := [e51 fu, e30 fu, e30 fu, e52 fu, e52 fu]) (by kernel_rfl) ⟨g51 fu, g30 fu, g30 fu, g52 fu, g52 fu, trivial⟩ (by kernel_rfl) (v36 fu)
def rs18 : List RVx := [(.cell 4 true 2), (.tmp 5)]
/-- gazette/raftconf.Apply -/
def p18 (fu : Nat) : ((List (Int)) × ((List (Int)) × (Unit))) × (((Int) × ((Int) × (Unit))) × (Unit)) → Option ((Unit) × (((List (Int)) × ((List (Int)) × (Unit))) × ((Int) × (Unit)))) := fun ⟨⟨a, c, _⟩, ⟨f, h, _⟩, _⟩ =>
Option.bind (p10 fu ((a, c, ()), ())) fun ⟨_, i⟩ =>
orK (E := ((Int) × (Unit)) × (Unit))
 (bif (i != (0 : Int)) then
 some (.inl ((i, ()), ()))
 else
 Option.bind (p24 fu (h, ())) fun ⟨_, j⟩ =>
 bif !j then
 some (.inl (((81 : Int), ()), ()))
 else
 orK (E := ((Bool) × (Unit)) × (Unit))
 (bif decide (f < (1 : Int)) then
 some (.inl ((true, ()), ()))
 else
 some (.inl ((decide (f > (3 : Int)), ()), ())))
 fun ⟨⟨k, _⟩, _⟩ =>
 bif k then
 some (.inl (((1 : Int), ()), ()))
 else
 Option.bind (p35 fu ((a, c, ()), (f, h, ()), ())) fun ⟨_, l⟩ =>
 some (.inl ((l, ()), ())))
 fun ⟨⟨m, _⟩, _⟩ =>
bif (m != (0 : Int)) then
 some ((), (([], [], ()), m, ()))
else
 Option.bind (p36 fu ((a, c, ()), (f, h, ()), ())) fun ⟨_, ⟨n, o, _⟩⟩ =>
 bif decide (List.length n = List.length n) then
 bif decide (List.length o = List.length o) then
 some ((), ((n, o, ()), (0 : Int), ()))
 else none
 else none
def e18 (fu : Nat) : Ent := ⟨18, (.cons (.agg 2 (.cons (.hole (.sl (.int .i64))) (.cons (.hole (.sl (.int .i64))) .nil))) (.cons (.agg 2 (.cons (.hole (.int .i64)) (.cons (.hole (.int .i64)) .nil))) .nil)), .nil, Y0, p18 fu⟩
def d18 (fu : Nat) : DC := (.seq (.region [opD 2 (.box 24 2 (tD 0)), opD 3 (.box 39 2 (tD 1)), opD 4 (.alloc 24 2 [vS, vS]), opD 5 (.mov (cD 0))] [[], [], [], []] false) (.seq (.region [opD 7 (.load true 2 (tD 2)), oqD 8 (.call 10 [(tD 7)]) (.ent (e10 fu)), mvD 6 8] [[], [0], [1, 1, 0, 1]] false) (.join ⟨[6], (.cons (.hole (.int .i64)) .nil), [], .nil, [2, 3, 4], [0, 16, 32]⟩
 (.block 0 (.seq (.region [mvD 13 6, opD 14 (.bin .neq (tD 13) (cD 0)), mvD 12 14] [[], [0], [1]] false) (.cond (.tmp 12) .skip (.seq (.region [opD 16 (.faddr 1 (tD 3)), opD 17 (.load false 1 (tD 16)), oqD 18 (.call 24 [(tD 17)]) (.ent (e24 fu)), opD 19 (.not (tD 18)), mvD 15 19] [[], [0], [1], [2], [3, 2]] false) (.cond (.tmp 15) (.region [opD 6 (.mov (cD 81))] [[]] false) (.join ⟨[20], (.cons (.hole .bool) .nil), [], .nil, [2, 3, 4], [0, 16, 32]⟩
 (.region [opD 21 (.faddr 0 (tD 3)), opD 22 (.load false 1 (tD 21)), opD 23 (.bin .lss (tD 22) (cD 1)), mvD 24 23, ogD 25 24 false (.faddr 0 (tD 3)), ogD 26 24 false (.load false 1 (tD 25)), ogD 27 24 false (.bin .gtr (tD 26) (cD 3)), opD 28 (.pick (tD 24) (.const (.bool true)) (tD 27)), mvD 20 28] [[], [0], [1], [2], [3], [4, 3], [5, 3], [3, 6], [7, 3]] false)
 (.cond (.tmp 20) (.region [opD 6 (.mov (cD 1))] [[]] false) (.region [opD 9 (.load true 2 (tD 2)), opD 10 (.load true 2 (tD 3)), oqD 11 (.call 35 [(tD 9), (tD 10)]) (.ent (e35 fu)), mvD 6 11] [[], [], [0, 1], [2, 2, 0, 1, 2]] false))))))))
 (.seq (.seq (.region [mvD 29 6, opD 30 (.bin .neq (tD 29) (cD 0))] [[], [0]] false) (.cond (.tmp 30) (.seq (.region [opD 31 (.build 2 [vS, vS] []), mvD 32 6, onD (.store 2 (tD 4) (tD 31)), mvD 5 32] [[], [], [0, 0], [1, 2, 0, 1, 2]] false) .ret) .skip)) (.seq (.region [opD 33 (.load true 2 (tD 2)), opD 34 (.load true 2 (tD 3)), oqD 35 (.call 36 [(tD 33), (tD 34)]) (.ent (e36 fu)), onD (.store 2 (tD 4) (tD 35)), opD 5 (.mov (cD 0))] [[], [], [0, 1], [2, 2, 0, 1, 2], [3, 0, 1, 2, 3]] false) .ret)))))
set_option maxRecDepth 1000000 in
theorem v18 (fu : Nat) : evF fu (d18 fu) rs18 36 (e18 fu).ash (e18 fu).osh (e18 fu).vsh = p18 fu := by kernel_rfl
set_option maxRecDepth 1000000 in
theorem b18 (fu : Nat) : BodyD Try.prog 18 36 (d18 fu).erase rs18 := bodyD_mk Try.func18 (by kernel_rfl) (by kernel_rfl) (by kernel_rfl) (by kernel_rfl)
theorem g18 (fu : Nat) : (e18 fu).Good Try.prog := good_by orders (b18 fu) (l := [e10 fu, e24 fu, e35 fu, e36 fu]) (by kernel_rfl) ⟨g10 fu, g24 fu, g35 fu, g36 fu, trivial⟩ (by kernel_rfl) (v18 fu)
def rs8 : List RVx := [(.tmp 0)]
/-- gazette/gazettelaw08.head -/
def p8 (fu : Nat) : Unit → Option ((Unit) × (Bool)) := fun _ =>
Option.bind (p18 fu (([(1 : Int), (2 : Int)], [(3 : Int)], ()), ((2 : Int), (3 : Int), ()), ())) fun ⟨_, ⟨⟨a, c, _⟩, f, _⟩⟩ =>
bif (f == (0 : Int)) then
 bif (((List.length a) : Int) == (3 : Int)) then
 bif decide ((0 : Int) ≤ 2 ∧ 2 < (List.length a : Int)) then
 bif decide (2 < List.length a) then
 bif ((List.getD a 2 (dflt (.int .i64))) == (3 : Int)) then
 some ((), (((List.length c) : Int) == (0 : Int)))
 else
 some ((), false)
 else none
 else none
 else
 some ((), false)
else
 some ((), false)
def e8 (fu : Nat) : Ent := ⟨8, .nil, .nil, (.hole .bool), p8 fu⟩
def d8 (fu : Nat) : DC := (.seq (.region [opD 0 (.mov (.const vB))] [[]] false) (.seq (.region [oqD 4 (.bslice 3 1 2 [vI] [(0, (cD 1)), (1, (cD 2))]) (.ty (.int .i64)), oqD 5 (.bslice 3 1 1 [vI] [(0, (cD 3))]) (.ty (.int .i64)), opD 6 (.build 2 [vS, vS] [(0, (1, (tD 4))), (1, (1, (tD 5)))]), opD 7 (.build 2 [vI, vI] [(0, (1, (cD 2))), (1, (1, (cD 3)))]), oqD 8 (.call 18 [(tD 6), (tD 7)]) (.ent (e18 fu)), mvD 3 8, opD 9 (.ext (tD 3) 0), opD 10 (.ext (tD 3) 1), opD 1 (.alloc 24 2 [vS, vS]), onD (.store 2 (tD 1) (tD 9)), mvD 2 10] [[], [], [0, 1], [], [2, 3], [4], [5], [5], [], [8, 6, 4, 0, 1, 2, 3, 4, 5, 6, 8], [7, 9, 0, 1, 2, 3, 4, 5, 6, 7, 8, 9]] false) (.seq (.region [mvD 11 2, opD 12 (.bin .eql (tD 11) (cD 0)), mvD 13 12, ogD 14 13 true (.faddr 0 (tD 1)), ogD 15 13 true (.load false 1 (tD 14)), ogD 16 13 true (.len false (tD 15)), ogD 17 13 true (.bin .eql (tD 16) (cD 3)), opD 18 (.pick (tD 13) (tD 17) (.const vB)), mvD 19 18, ogD 20 19 true (.faddr 0 (tD 1)), ogD 21 19 true (.load false 1 (tD 20)), ogD 22 19 true (.iaddr 1 (tD 21) (cD 2)), ogD 23 19 true (.load false 1 (tD 22)), ogD 24 19 true (.bin .eql (tD 23) (cD 3)), opD 25 (.pick (tD 19) (tD 24) (.const vB)), mvD 26 25, ogD 27 26 true (.faddr 1 (tD 1)), ogD 28 26 true (.load false 1 (tD 27)), ogD 29 26 true (.len false (tD 28)), ogD 30 26 true (.bin .eql (tD 29) (cD 0)), opD 31 (.pick (tD 26) (tD 30) (.const vB)), mvD 0 31] [[], [0], [1], [2], [3, 2], [4, 2], [5, 2], [2, 6], [7, 2], [8], [9, 8], [10, 8], [11, 8], [12, 8], [8, 13], [14, 8], [15], [16, 15], [17, 15], [18, 15], [15, 19], [20, 15, 0, 1, 2, 3, 4, 5, 6, 7, 8, 9, 10, 11, 12, 13, 14, 15, 16, 17, 18, 19, 20]] false) .ret)))
set_option maxRecDepth 1000000 in
theorem v8 (fu : Nat) : evF fu (d8 fu) rs8 32 (e8 fu).ash (e8 fu).osh (e8 fu).vsh = p8 fu := by kernel_rfl
set_option maxRecDepth 1000000 in
theorem b8 (fu : Nat) : BodyD Try.prog 8 32 (d8 fu).erase rs8 := bodyD_mk Try.func8 (by kernel_rfl) (by kernel_rfl) (by kernel_rfl) (by kernel_rfl)
theorem g8 (fu : Nat) : (e8 fu).Good Try.prog := good_by orders (b8 fu) (l := [e18 fu]) (by kernel_rfl) ⟨g18 fu, trivial⟩ (by kernel_rfl) (v8 fu)
def rs9 : List RVx := [(.cell 2 true 2)]
/-- gazette/gazetteref06.CloneConf -/
def p9 (_ : Nat) : ((List (Int)) × ((List (Int)) × (Unit))) × (Unit) → Option ((Unit) × ((List (Int)) × ((List (Int)) × (Unit)))) := fun ⟨⟨a, c, _⟩, _⟩ =>
bif decide (0 = List.length ([] : List (Int))) then
 bif decide (List.length ([] : List (Int)) + List.length a ≤ maxLen ∧ (List.length ([] : List (Int)) + List.length a) * 8 ≤ 140737488355328) then
 bif decide (0 = List.length ([] : List (Int))) then
 bif decide (List.length ([] : List (Int)) + List.length c ≤ maxLen ∧ (List.length ([] : List (Int)) + List.length c) * 8 ≤ 140737488355328) then
 bif decide (List.length (([] : List (Int)) ++ a) = List.length (([] : List (Int)) ++ a)) then
 bif decide (List.length (([] : List (Int)) ++ c) = List.length (([] : List (Int)) ++ c)) then
 some ((), ((([] : List (Int)) ++ a), (([] : List (Int)) ++ c), ()))
 else none
 else none
 else none
 else none
 else none
else none
def e9 (fu : Nat) : Ent := ⟨9, (.cons (.agg 2 (.cons (.hole (.sl (.int .i64))) (.cons (.hole (.sl (.int .i64))) .nil))) .nil), .nil, (.agg 2 (.cons (.own .own 3 (.int .i64)) (.cons (.own .own 3 (.int .i64)) .nil))), p9 fu⟩
def d9 (_ : Nat) : DC := (.seq (.region [opD 1 (.box 24 2 (tD 0)), opD 2 (.alloc 24 2 [vS, vS])] [[], []] false) (.seq (.region [oqD 3 (.bslice 3 1 0 [vI] []) (.ty (.int .i64)), opD 4 (.faddr 0 (tD 1)), opD 5 (.load false 1 (tD 4)), oqD 6 (.app 3 1 [vI] 8 (tD 3) (tD 5)) (.ty (.int .i64)), oqD 7 (.bslice 3 1 0 [vI] []) (.ty (.int .i64)), opD 8 (.faddr 1 (tD 1)), opD 9 (.load false 1 (tD 8)), oqD 10 (.app 3 1 [vI] 8 (tD 7) (tD 9)) (.ty (.int .i64)), opD 11 (.build 2 [vS, vS] [(0, (1, (tD 6))), (1, (1, (tD 10)))]), onD (.store 2 (tD 2) (tD 11))] [[], [], [1], [0, 2], [], [], [5], [4, 6, 3], [3, 7], [8, 7, 0, 1, 2, 3, 4, 5, 6, 7, 8]] true) .ret))
set_option maxRecDepth 1000000 in
theorem v9 (fu : Nat) : evF fu (d9 fu) rs9 12 (e9 fu).ash (e9 fu).osh (e9 fu).vsh = p9 fu := by kernel_rfl
set_option maxRecDepth 1000000 in
theorem b9 (fu : Nat) : BodyD Try.prog 9 12 (d9 fu).erase rs9 := bodyD_mk Try.func9 (by kernel_rfl) (by kernel_rfl) (by kernel_rfl) (by kernel_rfl)
theorem g9 (fu : Nat) : (e9 fu).Good Try.prog := good_by orders (b9 fu) (l := []) (by kernel_rfl) trivial (by kernel_rfl) (v9 fu)
def rs26 : List RVx := [(.tmp 2)]
/-- gazette/gazetteref08.node -/
def p26 (_ : Nat) : (Int) × (Unit) → Option ((Unit) × (Bool)) := fun ⟨a, _⟩ =>
bif decide (a ≥ (1 : Int)) then
 some ((), decide (a ≤ (7 : Int)))
else
 some ((), false)
def e26 (fu : Nat) : Ent := ⟨26, (.cons (.hole (.int .i64)) .nil), .nil, (.hole .bool), p26 fu⟩
def d26 (_ : Nat) : DC := (.seq (.region [opD 2 (.mov (.const vB))] [[]] false) (.seq (.region [mvD 3 0, opD 4 (.bin .geq (tD 3) (cD 1)), mvD 5 4, ogD 6 5 true (.mov (tD 0)), ogD 7 5 true (.bin .leq (tD 6) (cD 7)), opD 8 (.pick (tD 5) (tD 7) (.const vB)), mvD 2 8] [[], [0], [1], [2], [3, 2], [2, 4], [5, 2, 0, 1, 2, 3, 4, 5]] false) .ret))
set_option maxRecDepth 1000000 in
theorem v26 (fu : Nat) : evF fu (d26 fu) rs26 9 (e26 fu).ash (e26 fu).osh (e26 fu).vsh = p26 fu := by kernel_rfl
set_option maxRecDepth 1000000 in
theorem b26 (fu : Nat) : BodyD Try.prog 26 9 (d26 fu).erase rs26 := bodyD_mk Try.func26 (by kernel_rfl) (by kernel_rfl) (by kernel_rfl) (by kernel_rfl)
theorem g26 (fu : Nat) : (e26 fu).Good Try.prog := good_by orders (b26 fu) (l := []) (by kernel_rfl) trivial (by kernel_rfl) (v26 fu)
def rs27 : List RVx := [(.tmp 2)]
/-- gazette/gazetteref08.rises -/
def p27 (fu : Nat) : (List (Int)) × (Unit) → Option ((Unit) × (Bool)) := fun ⟨a, _⟩ =>
loopO (S := ((Int) × (Unit)) × (Unit)) fu (fun ⟨⟨c, _⟩, _⟩ =>
 bif decide (c < (List.length a : Int)) then
 bif decide ((0 : Int) ≤ IntKind.wrap .i64 (c - (1 : Int)) ∧ IntKind.wrap .i64 (c - (1 : Int)) < (List.length a : Int)) then
 bif decide (Int.toNat (IntKind.wrap .i64 (c - (1 : Int))) < List.length a) then
 bif decide ((0 : Int) ≤ c ∧ c < (List.length a : Int)) then
 bif decide (Int.toNat c < List.length a) then
 bif decide ((List.getD a (Int.toNat (IntKind.wrap .i64 (c - (1 : Int)))) (dflt (.int .i64))) ≥ (List.getD a (Int.toNat c) (dflt (.int .i64)))) then
 inrO (some ((), false))
 else
 some (.inl ((IntKind.wrap .i64 (c + (1 : Int)), ()), ()))
 else none
 else none
 else none
 else none
 else
 inrO (some ((), true)))
 (((1 : Int), ()), ())
def e27 (fu : Nat) : Ent := ⟨27, (.cons (.hole (.sl (.int .i64))) .nil), .nil, (.hole .bool), p27 fu⟩
def d27 (_ : Nat) : DC := (.seq (.region [opD 2 (.mov (.const vB))] [[]] false) (.seq (.seq (.region [opD 3 (.mov (cD 1))] [[]] false) (.block 0 (.loop ⟨[3], (.cons (.hole (.int .i64)) .nil), [], .nil, [0], []⟩
 (.seq (.seq (.region [mvD 4 3, mvD 5 0, opD 6 (.len false (tD 5)), opD 7 (.bin .lss (tD 4) (tD 6))] [[], [], [1], [0, 2]] false) (.cond (.tmp 7) .skip (.exit 0))) (.seq (.block 1 (.seq (.region [mvD 10 0, mvD 11 3, opD 12 (.bin .sub (tD 11) (cD 1)), opD 13 (.iaddr 1 (tD 10) (tD 12)), opD 14 (.load false 1 (tD 13)), mvD 15 0, mvD 16 3, opD 17 (.iaddr 1 (tD 15) (tD 16)), opD 18 (.load false 1 (tD 17)), opD 19 (.bin .geq (tD 14) (tD 18))] [[], [], [1], [0, 2], [3], [], [], [5, 6], [7], [4, 8]] true) (.cond (.tmp 19) (.seq (.region [opD 2 (.mov (.const vB))] [[]] false) .ret) .skip))) (.region [mvD 8 3, opD 9 (.bin .add (tD 8) (cD 1)), mvD 3 9] [[], [0], [1, 0, 1]] false)))))) (.seq (.region [opD 2 (.mov (.const (.bool true)))] [[]] false) .ret)))
set_option maxRecDepth 1000000 in
theorem v27 (fu : Nat) : evF fu (d27 fu) rs27 20 (e27 fu).ash (e27 fu).osh (e27 fu).vsh = p27 fu := by kernel_rfl
set_option maxRecDepth 1000000 in
theorem b27 (fu : Nat) : BodyD Try.prog 27 20 (d27 fu).erase rs27 := bodyD_mk Try.func27 (by kernel_rfl) (by kernel_rfl) (by kernel_rfl) (by kernel_rfl)
theorem g27 (fu : Nat) : (e27 fu).Good Try.prog := good_by orders (b27 fu) (l := []) (by kernel_rfl) trivial (by kernel_rfl) (v27 fu)
def rs15 : List RVx := [(.tmp 4)]
/-- gazette/gazetteref08.In -/
def p15 (fu : Nat) : (List (Int)) × ((Int) × (Unit)) → Option ((Unit) × (Bool)) := fun ⟨a, c, _⟩ =>
loopO (S := ((Int) × (Unit)) × (Unit)) fu (fun ⟨⟨f, _⟩, _⟩ =>
 bif decide (f < (List.length a : Int)) then
 bif decide ((0 : Int) ≤ f ∧ f < (List.length a : Int)) then
 bif decide (Int.toNat f < List.length a) then
 bif ((List.getD a (Int.toNat f) (dflt (.int .i64))) == c) then
 inrO (some ((), true))
 else
 some (.inl ((IntKind.wrap .i64 (f + (1 : Int)), ()), ()))
 else none
 else none
 else
 inrO (some ((), false)))
 (((0 : Int), ()), ())
def e15 (fu : Nat) : Ent := ⟨15, (.cons (.hole (.sl (.int .i64))) (.cons (.hole (.int .i64)) .nil)), .nil, (.hole .bool), p15 fu⟩
def d15 (_ : Nat) : DC := (.seq (.region [opD 4 (.mov (.const vB))] [[]] false) (.seq (.seq (.region [opD 5 (.mov (cD 0))] [[]] false) (.block 0 (.loop ⟨[5], (.cons (.hole (.int .i64)) .nil), [], .nil, [0, 1], []⟩
 (.seq (.seq (.region [mvD 6 5, mvD 7 0, opD 8 (.len false (tD 7)), opD 9 (.bin .lss (tD 6) (tD 8))] [[], [], [1], [0, 2]] false) (.cond (.tmp 9) .skip (.exit 0))) (.seq (.block 1 (.seq (.region [mvD 12 0, mvD 13 5, opD 14 (.iaddr 1 (tD 12) (tD 13)), opD 15 (.load false 1 (tD 14)), mvD 16 1, opD 17 (.bin .eql (tD 15) (tD 16))] [[], [], [0, 1], [2], [], [3, 4]] false) (.cond (.tmp 17) (.seq (.region [opD 4 (.mov (.const (.bool true)))] [[]] false) .ret) .skip))) (.region [mvD 10 5, opD 11 (.bin .add (tD 10) (cD 1)), mvD 5 11] [[], [0], [1, 0, 1]] false)))))) (.seq (.region [opD 4 (.mov (.const vB))] [[]] false) .ret)))
set_option maxRecDepth 1000000 in
theorem v15 (fu : Nat) : evF fu (d15 fu) rs15 18 (e15 fu).ash (e15 fu).osh (e15 fu).vsh = p15 fu := by kernel_rfl
set_option maxRecDepth 1000000 in
theorem b15 (fu : Nat) : BodyD Try.prog 15 18 (d15 fu).erase rs15 := bodyD_mk Try.func15 (by kernel_rfl) (by kernel_rfl) (by kernel_rfl) (by kernel_rfl)
theorem g15 (fu : Nat) : (e15 fu).Good Try.prog := good_by orders (b15 fu) (l := []) (by kernel_rfl) trivial (by kernel_rfl) (v15 fu)
def rs11 : List RVx := [(.tmp 2)]
/-- gazette/gazetteref08.Check -/
def p11 (fu : Nat) : ((List (Int)) × ((List (Int)) × (Unit))) × (Unit) → Option ((Unit) × (Int)) := fun ⟨⟨a, c, _⟩, _⟩ =>
bif decide (0 = List.length ([] : List (Int))) then
 bif decide (List.length ([] : List (Int)) + List.length a ≤ maxLen ∧ (List.length ([] : List (Int)) + List.length a) * 8 ≤ 140737488355328) then
 bif decide (List.length (([] : List (Int)) ++ a) = List.length (([] : List (Int)) ++ a)) then
 bif decide (List.length (([] : List (Int)) ++ a) + List.length c ≤ maxLen ∧ (List.length (([] : List (Int)) ++ a) + List.length c) * 8 ≤ 140737488355328) then
 loopO (S := ((Int) × (Unit)) × (Unit)) fu (fun ⟨⟨f, _⟩, _⟩ =>
 bif decide (f < ((List.length ((([] : List (Int)) ++ a) ++ c)) : Int)) then
 bif decide ((0 : Int) ≤ f ∧ f < (List.length ((([] : List (Int)) ++ a) ++ c) : Int)) then
 bif decide (Int.toNat f < List.length ((([] : List (Int)) ++ a) ++ c)) then
 Option.bind (p26 fu ((List.getD ((([] : List (Int)) ++ a) ++ c) (Int.toNat f) (dflt (.int .i64))), ())) fun ⟨_, h⟩ =>
 bif !h then
 inrO (some ((), (81 : Int)))
 else
 some (.inl ((IntKind.wrap .i64 (f + (1 : Int)), ()), ()))
 else none
 else none
 else
 inrO (Option.bind (p27 fu (a, ())) fun ⟨_, i⟩ =>
 Option.bind (p27 fu (c, ())) fun ⟨_, j⟩ =>
 bif !i then
 some ((), (1 : Int))
 else
 bif !j then
 some ((), (1 : Int))
 else
 loopO (S := ((Int) × (Unit)) × (Unit)) fu (fun ⟨⟨k, _⟩, _⟩ =>
 bif decide (k < (List.length a : Int)) then
 bif decide ((0 : Int) ≤ k ∧ k < (List.length a : Int)) then
 bif decide (Int.toNat k < List.length a) then
 Option.bind (p15 fu (c, (List.getD a (Int.toNat k) (dflt (.int .i64))), ())) fun ⟨_, l⟩ =>
 bif l then
 inrO (some ((), (82 : Int)))
 else
 some (.inl ((IntKind.wrap .i64 (k + (1 : Int)), ()), ()))
 else none
 else none
 else
 inrO (bif ((List.length a : Int) == (0 : Int)) then
 some ((), (84 : Int))
 else
 some ((), (0 : Int))))
 (((0 : Int), ()), ())))
 (((0 : Int), ()), ())
 else none
 else none
 else none
else none
def e11 (fu : Nat) : Ent := ⟨11, (.cons (.agg 2 (.cons (.hole (.sl (.int .i64))) (.cons (.hole (.sl (.int .i64))) .nil))) .nil), .nil, (.hole (.int .i64)), p11 fu⟩
def d11 (fu : Nat) : DC := (.seq (.region [opD 1 (.box 24 2 (tD 0)), opD 2 (.mov (cD 0))] [[], []] false) (.seq (.region [oqD 10 (.bslice 3 1 0 [vI] []) (.ty (.int .i64)), opD 11 (.faddr 0 (tD 1)), opD 12 (.load false 1 (tD 11)), oqD 13 (.app 3 1 [vI] 8 (tD 10) (tD 12)) (.ty (.int .i64)), opD 14 (.faddr 1 (tD 1)), opD 15 (.load false 1 (tD 14)), oqD 16 (.app 3 1 [vI] 8 (tD 13) (tD 15)) (.ty (.int .i64)), mvD 3 16] [[], [], [1], [0, 2], [], [4], [3, 5, 3], [6, 6, 0, 1, 2, 3, 4, 5, 6]] true) (.seq (.seq (.region [opD 4 (.mov (cD 0))] [[]] false) (.block 0 (.loop ⟨[4], (.cons (.hole (.int .i64)) .nil), [], .nil, [1, 3], [0, 32]⟩
 (.seq (.seq (.region [mvD 17 4, mvD 18 3, opD 19 (.len false (tD 18)), opD 20 (.bin .lss (tD 17) (tD 19))] [[], [], [1], [0, 2]] false) (.cond (.tmp 20) .skip (.exit 0))) (.seq (.block 1 (.seq (.region [mvD 23 3, mvD 24 4, opD 25 (.iaddr 1 (tD 23) (tD 24)), opD 26 (.load false 1 (tD 25)), oqD 27 (.call 26 [(tD 26)]) (.ent (e26 fu)), mvD 5 27] [[], [], [0, 1], [2], [3], [4, 4, 0, 1, 2, 3, 4]] false) (.seq (.region [mvD 28 5, opD 29 (.not (tD 28))] [[], [0]] false) (.cond (.tmp 29) (.seq (.region [opD 2 (.mov (cD 81))] [[]] false) .ret) .skip)))) (.region [mvD 21 4, opD 22 (.bin .add (tD 21) (cD 1)), mvD 4 22] [[], [0], [1, 0, 1]] false)))))) (.seq (.region [opD 30 (.faddr 0 (tD 1)), opD 31 (.load false 1 (tD 30)), oqD 32 (.call 27 [(tD 31)]) (.ent (e27 fu)), mvD 6 32] [[], [0], [1], [2, 2, 0, 1, 2]] false) (.seq (.region [opD 33 (.faddr 1 (tD 1)), opD 34 (.load false 1 (tD 33)), oqD 35 (.call 27 [(tD 34)]) (.ent (e27 fu)), mvD 7 35] [[], [0], [1], [2, 2, 0, 1, 2]] false) (.seq (.seq (.region [mvD 36 6, opD 37 (.not (tD 36)), mvD 38 37, ogD 39 38 false (.mov (tD 7)), ogD 40 38 false (.not (tD 39)), opD 41 (.pick (tD 38) (.const (.bool true)) (tD 40))] [[], [0], [1], [2], [3, 2], [2, 4]] false) (.cond (.tmp 41) (.seq (.region [opD 2 (.mov (cD 1))] [[]] false) .ret) .skip)) (.seq (.seq (.region [opD 8 (.mov (cD 0))] [[]] false) (.block 2 (.loop ⟨[8], (.cons (.hole (.int .i64)) .nil), [], .nil, [1], [0]⟩
 (.seq (.seq (.region [mvD 42 8, opD 43 (.faddr 0 (tD 1)), opD 44 (.load false 1 (tD 43)), opD 45 (.len false (tD 44)), opD 46 (.bin .lss (tD 42) (tD 45))] [[], [], [1], [2], [0, 3]] false) (.cond (.tmp 46) .skip (.exit 2))) (.seq (.block 3 (.seq (.region [opD 49 (.faddr 1 (tD 1)), opD 50 (.load false 1 (tD 49)), opD 51 (.faddr 0 (tD 1)), opD 52 (.load false 1 (tD 51)), mvD 53 8, opD 54 (.iaddr 1 (tD 52) (tD 53)), opD 55 (.load false 1 (tD 54)), oqD 56 (.call 15 [(tD 50), (tD 55)]) (.ent (e15 fu)), mvD 9 56] [[], [0], [], [2], [], [3, 4], [5], [1, 6], [7, 7, 0, 1, 2, 3, 4, 5, 6, 7]] true) (.seq (.region [mvD 57 9] [[]] false) (.cond (.tmp 57) (.seq (.region [opD 2 (.mov (cD 82))] [[]] false) .ret) .skip)))) (.region [mvD 47 8, opD 48 (.bin .add (tD 47) (cD 1)), mvD 8 48] [[], [0], [1, 0, 1]] false)))))) (.seq (.seq (.region [opD 58 (.faddr 0 (tD 1)), opD 59 (.load false 1 (tD 58)), opD 60 (.len false (tD 59)), opD 61 (.bin .eql (tD 60) (cD 0))] [[], [0], [1], [2]] false) (.cond (.tmp 61) (.seq (.region [opD 2 (.mov (cD 84))] [[]] false) .ret) .skip)) (.seq (.region [opD 2 (.mov (cD 0))] [[]] false) .ret)))))))))
set_option maxRecDepth 1000000 in
theorem v11 (fu : Nat) : evF fu (d11 fu) rs11 62 (e11 fu).ash (e11 fu).osh (e11 fu).vsh = p11 fu := by kernel_rfl
set_option maxRecDepth 1000000 in
theorem b11 (fu : Nat) : BodyD Try.prog 11 62 (d11 fu).erase rs11 := bodyD_mk Try.func11 (by kernel_rfl) (by kernel_rfl) (by kernel_rfl) (by kernel_rfl)
theorem g11 (fu : Nat) : (e11 fu).Good Try.prog := good_by orders (b11 fu) (l := [e26 fu, e27 fu, e27 fu, e15 fu]) (by kernel_rfl) ⟨g26 fu, g27 fu, g27 fu, g15 fu, trivial⟩ (by kernel_rfl) (v11 fu)
def rs44 : List RVx := [(.tmp 4)]
/-- slices.Grow[[]int,int] -/
def p44 (_ : Nat) : (Unit) × ((Int) × (Unit)) → Option ((Unit) × (List (Int))) := fun ⟨_, a, _⟩ =>
bif decide (a < (0 : Int)) then
 none
else
 bif decide ((IntKind.wrap .i64 (a - (0 : Int))) > (0 : Int)) then
 bif decide ((0 : Int) < IntKind.wrap .i64 (a - (0 : Int)) ∧ (IntKind.wrap .i64 (a - (0 : Int)) : Int) * 8 ≤ 140737488355328 ∧ (IntKind.wrap .i64 (a - (0 : Int)) : Int) ≤ 9223372036854775807) then
 bif decide (0 ≤ 0 ∧ 0 ≤ List.length (List.replicate (Int.toNat (IntKind.wrap .i64 (a - (0 : Int)))) (0 : Int) : List (Int))) then
 bif decide (0 = List.length (List.take 0 (List.replicate (Int.toNat (IntKind.wrap .i64 (a - (0 : Int)))) (0 : Int) : List (Int)))) then
 some ((), List.take 0 (List.replicate (Int.toNat (IntKind.wrap .i64 (a - (0 : Int)))) (0 : Int) : List (Int)))
 else none
 else none
 else none
 else
 some ((), [])
def e44 (fu : Nat) : Ent := ⟨44, (.cons .nils (.cons (.hole (.int .i64)) .nil)), .nil, (.own .own 3 (.int .i64)), p44 fu⟩
def d44 (_ : Nat) : DC := (.seq (.region [opD 4 (.mov (.const vS))] [[]] false) (.seq (.seq (.region [mvD 5 1, opD 6 (.bin .lss (tD 5) (cD 0))] [[], [0]] false) (.cond (.tmp 6) (.region [opD 7 (.ifc 9 (.const (.string ⟨#[99, 97, 110, 110, 111, 116, 32, 98, 101, 32, 110, 101, 103, 97, 116, 105, 118, 101]⟩))), onD .bad] [[], [0]] false) .skip)) (.seq (.seq (.region [mvD 8 1, mvD 9 0, opD 10 (.pure .capn [(tD 9)]), mvD 11 0, opD 12 (.len false (tD 11)), opD 13 (.bin .sub (tD 10) (tD 12)), opD 14 (.bin .sub (tD 8) (tD 13)), mvD 1 14] [[], [], [1], [], [3], [2, 4], [0, 5], [6, 0, 1, 2, 3, 4, 5, 6]] false) (.seq (.region [mvD 15 1, opD 16 (.bin .gtr (tD 15) (cD 0))] [[], [0]] false) (.cond (.tmp 16) (.region [mvD 17 0, mvD 18 0, opD 19 (.pure .capn [(tD 18)]), opD 20 (.slc 1 (tD 17) none (some (tD 19))), mvD 21 1, oqD 22 (.appz 3 1 [vI] 8 (tD 20) (tD 21)) (.ty (.int .i64)), mvD 23 0, opD 24 (.len false (tD 23)), opD 25 (.slc 1 (tD 22) none (some (tD 24))), mvD 0 25] [[], [], [1], [0, 2], [], [3, 4], [], [6], [5, 7], [8, 5, 0, 1, 2, 3, 4, 5, 6, 7, 8]] false) .skip))) (.seq (.region [mvD 26 0, mvD 4 26] [[], [0, 0]] false) .ret))))
set_option maxRecDepth 1000000 in
theorem v44 (fu : Nat) : evF fu (d44 fu) rs44 27 (e44 fu).ash (e44 fu).osh (e44 fu).vsh = p44 fu := by kernel_rfl
set_option maxRecDepth 1000000 in
theorem b44 (fu : Nat) : BodyD Try.prog 44 27 (d44 fu).erase rs44 := bodyD_mk Try.func44 (by kernel_rfl) (by kernel_rfl) (by kernel_rfl) (by kernel_rfl)
theorem g44 (fu : Nat) : (e44 fu).Good Try.prog := good_by orders (b44 fu) (l := []) (by kernel_rfl) trivial (by kernel_rfl) (v44 fu)
def rs28 : List RVx := [(.tmp 2)]
/-- slices.Concat[[]int,int] -/
def p28 (fu : Nat) : (List (List (Int))) × (Unit) → Option ((Unit) × (List (Int))) := fun ⟨a, _⟩ =>
loopO (S := ((Int) × ((Int) × (Unit))) × (Unit)) fu (fun ⟨⟨c, f, _⟩, _⟩ =>
 bif decide (f < (List.length a : Int)) then
 bif decide ((0 : Int) ≤ f ∧ f < (List.length a : Int)) then
 bif decide (Int.toNat f < List.length a) then
 bif decide ((IntKind.wrap .i64 (c + (List.length (List.getD a (Int.toNat f) (dflt (.sl (.int .i64)))) : Int))) < (0 : Int)) then
 none
 else
 some (.inl ((IntKind.wrap .i64 (c + (List.length (List.getD a (Int.toNat f) (dflt (.sl (.int .i64)))) : Int)), IntKind.wrap .i64 (f + (1 : Int)), ()), ()))
 else none
 else none
 else
 inrO (Option.bind (p44 fu ((), c, ())) fun ⟨_, h⟩ =>
 bif decide (List.length h = List.length h) then
 loopO (S := ((List (Int)) × ((Int) × (Unit))) × (Unit)) fu (fun ⟨⟨i, j, _⟩, _⟩ =>
 bif decide (j < (List.length a : Int)) then
 bif decide ((0 : Int) ≤ j ∧ j < (List.length a : Int)) then
 bif decide (Int.toNat j < List.length a) then
 bif decide (List.length i = List.length i) then
 bif decide (List.length i + List.length (List.getD a (Int.toNat j) (dflt (.sl (.int .i64)))) ≤ maxLen ∧ (List.length i + List.length (List.getD a (Int.toNat j) (dflt (.sl (.int .i64))))) * 8 ≤ 140737488355328) then
 bif decide (List.length (i ++ (List.getD a (Int.toNat j) (dflt (.sl (.int .i64))))) = List.length (i ++ (List.getD a (Int.toNat j) (dflt (.sl (.int .i64)))))) then
 some (.inl (((i ++ (List.getD a (Int.toNat j) (dflt (.sl (.int .i64))))), IntKind.wrap .i64 (j + (1 : Int)), ()), ()))
 else none
 else none
 else none
 else none
 else none
 else
 inrO (bif decide (List.length i = List.length i) then
 some ((), i)
 else none))
 ((h, (0 : Int), ()), ())
 else none))
 (((0 : Int), (0 : Int), ()), ())
def e28 (fu : Nat) : Ent := ⟨28, (.cons (.hole (.sl (.sl (.int .i64)))) .nil), .nil, (.own .own 3 (.int .i64)), p28 fu⟩
def d28 (fu : Nat) : DC := (.seq (.region [opD 2 (.mov (.const vS))] [[]] false) (.seq (.region [opD 3 (.mov (cD 0))] [[]] false) (.seq (.seq (.region [mvD 9 0, opD 10 (.len false (tD 9)), opD 11 (.mov (cD 0))] [[], [0], []] false) (.block 0 (.loop ⟨[3, 11], (.cons (.hole (.int .i64)) (.cons (.hole (.int .i64)) .nil)), [], .nil, [0, 9, 10], []⟩
 (.seq (.region [opD 12 (.bin .lss (tD 11) (tD 10))] [[]] false) (.seq (.cond (.tmp 12) .skip (.exit 0)) (.seq (.block 1 (.seq (.region [opD 13 (.iaddr 1 (tD 9) (tD 11)), opD 14 (.load false 1 (tD 13)), mvD 5 14] [[], [0], [1, 0, 1]] false) (.seq (.region [mvD 15 3, mvD 16 5, opD 17 (.len false (tD 16)), opD 18 (.bin .add (tD 15) (tD 17)), mvD 3 18] [[], [], [1], [0, 2], [3, 0, 1, 2, 3]] false) (.seq (.region [mvD 19 3, opD 20 (.bin .lss (tD 19) (cD 0))] [[], [0]] false) (.cond (.tmp 20) (.region [opD 21 (.ifc 9 (.const (.string ⟨#[108, 101, 110, 32, 111, 117, 116, 32, 111, 102, 32, 114, 97, 110, 103, 101]⟩))), onD .bad] [[], [0]] false) .skip))))) (.region [opD 22 (.bin .add (tD 11) (cD 1)), mvD 11 22] [[], [0]] false))))))) (.seq (.region [mvD 23 3, oqD 24 (.call 44 [(.const vS), (tD 23)]) (.ent (e44 fu)), mvD 6 24] [[], [0], [1, 1, 0, 1]] false) (.seq (.seq (.region [mvD 25 0, opD 26 (.len false (tD 25)), opD 27 (.mov (cD 0))] [[], [0], []] false) (.block 2 (.loop ⟨[6, 27], (.cons (.own .own 3 (.int .i64)) (.cons (.hole (.int .i64)) .nil)), [], .nil, [25, 26], []⟩
 (.seq (.region [opD 28 (.bin .lss (tD 27) (tD 26))] [[]] false) (.seq (.cond (.tmp 28) .skip (.exit 2)) (.seq (.block 3 (.seq (.region [opD 29 (.iaddr 1 (tD 25) (tD 27)), opD 30 (.load false 1 (tD 29)), mvD 8 30] [[], [0], [1, 0, 1]] false) (.region [mvD 31 6, mvD 32 8, oqD 33 (.app 3 1 [vI] 8 (tD 31) (tD 32)) (.ty (.int .i64)), mvD 6 33] [[], [], [0, 1], [2, 2, 0, 1, 2]] false))) (.region [opD 34 (.bin .add (tD 27) (cD 1)), mvD 27 34] [[], [0]] false))))))) (.seq (.region [mvD 35 6, mvD 2 35] [[], [0, 0]] false) .ret))))))
set_option maxRecDepth 1000000 in
theorem v28 (fu : Nat) : evF fu (d28 fu) rs28 36 (e28 fu).ash (e28 fu).osh (e28 fu).vsh = p28 fu := by kernel_rfl
set_option maxRecDepth 1000000 in
theorem b28 (fu : Nat) : BodyD Try.prog 28 36 (d28 fu).erase rs28 := bodyD_mk Try.func28 (by kernel_rfl) (by kernel_rfl) (by kernel_rfl) (by kernel_rfl)
theorem g28 (fu : Nat) : (e28 fu).Good Try.prog := good_by orders (b28 fu) (l := [e44 fu]) (by kernel_rfl) ⟨g44 fu, trivial⟩ (by kernel_rfl) (v28 fu)
def rs12 : List RVx := [(.tmp 4)]
/-- gazette/raftconf.Others -/
def p12 (fu : Nat) : ((List (Int)) × ((List (Int)) × (Unit))) × ((Int) × (Unit)) → Option ((Unit) × (List (Int))) := fun ⟨⟨a, c, _⟩, f, _⟩ =>
Option.bind (p28 fu ([a, c], ())) fun ⟨_, h⟩ =>
bif decide (List.length h = List.length h) then
 Option.bind (pSort fu (h, ())) fun ⟨⟨i, _⟩, _⟩ =>
 bif decide (List.length h = List.length i) then
 Option.bind (pCompact fu (i, ())) fun ⟨⟨_, _⟩, j⟩ =>
 bif decide (List.length j = List.length j) then
 Option.bind (p30 fu (j, f, ())) fun ⟨⟨_, _⟩, k⟩ =>
 bif decide (List.length k = List.length k) then
 some ((), k)
 else none
 else none
 else none
else none
def e12 (fu : Nat) : Ent := ⟨12, (.cons (.agg 2 (.cons (.hole (.sl (.int .i64))) (.cons (.hole (.sl (.int .i64))) .nil))) (.cons (.hole (.int .i64)) .nil)), .nil, (.own .own 3 (.int .i64)), p12 fu⟩
def d12 (fu : Nat) : DC := (.seq (.region [opD 2 (.box 24 2 (tD 0)), opD 4 (.mov (.const vS))] [[], []] false) (.seq (.region [opD 6 (.faddr 0 (tD 2)), opD 7 (.load false 1 (tD 6)), opD 8 (.faddr 1 (tD 2)), opD 9 (.load false 1 (tD 8)), oqD 10 (.bslice 22 1 2 [vS] [(0, (tD 7)), (1, (tD 9))]) (.ty (.sl (.int .i64))), oqD 11 (.call 28 [(tD 10)]) (.ent (e28 fu)), mvD 5 11] [[], [0], [], [2], [1, 3], [4], [5, 5, 0, 1, 2, 3, 4, 5]] false) (.seq (.region [mvD 12 5, oqD 13 (.call 29 [(tD 12)]) (.ent (eSort fu))] [[], [0]] false) (.seq (.region [mvD 14 5, oqD 15 (.call 31 [(tD 14)]) (.ent (eCompact fu)), mvD 16 1, oqD 17 (.call 30 [(tD 15), (tD 16)]) (.ent (e30 fu)), mvD 4 17] [[], [0], [], [1, 2, 1], [3, 3, 0, 1, 2, 3]] false) .ret))))
set_option maxRecDepth 1000000 in
theorem v12 (fu : Nat) : evF fu (d12 fu) rs12 18 (e12 fu).ash (e12 fu).osh (e12 fu).vsh = p12 fu := by kernel_rfl
set_option maxRecDepth 1000000 in
theorem b12 (fu : Nat) : BodyD Try.prog 12 18 (d12 fu).erase rs12 := bodyD_mk Try.func12 (by kernel_rfl) (by kernel_rfl) (by kernel_rfl) (by kernel_rfl)
theorem g12 (fu : Nat) : (e12 fu).Good Try.prog := good_by orders (b12 fu) (l := [e28 fu, eSort fu, eCompact fu, e30 fu]) (by kernel_rfl) ⟨g28 fu, gSort fu, gCompact fu, g30 fu, trivial⟩ (by kernel_rfl) (v12 fu)
def rs32 : List RVx := [(.tmp 4)]
/-- gazette/gazetteref08.With -/
def p32 (fu : Nat) : (List (Int)) × ((Int) × (Unit)) → Option ((Unit) × (List (Int))) := fun ⟨a, c, _⟩ =>
loopO (S := ((List (Int)) × ((Bool) × ((Int) × (Unit)))) × (Unit)) fu (fun ⟨⟨f, h, i, _⟩, _⟩ =>
 bif decide (i < (List.length a : Int)) then
 orK (E := ((List (Int)) × ((Bool) × (Unit))) × (Unit))
 (orK (E := ((Bool) × (Unit)) × (Unit))
 (bif !h then
 bif decide ((0 : Int) ≤ i ∧ i < (List.length a : Int)) then
 bif decide (Int.toNat i < List.length a) then
 some (.inl ((decide ((List.getD a (Int.toNat i) (dflt (.int .i64))) > c), ()), ()))
 else none
 else none
 else
 some (.inl ((false, ()), ())))
 fun ⟨⟨j, _⟩, _⟩ =>
 bif j then
 bif decide (List.length f = List.length f) then
 bif decide (List.length f + List.length ([c]) ≤ maxLen ∧ (List.length f + List.length ([c])) * 8 ≤ 140737488355328) then
 bif decide (List.length (f ++ [c]) = List.length (f ++ [c])) then
 some (.inl (((f ++ [c]), true, ()), ()))
 else none
 else none
 else none
 else
 bif decide (List.length f = List.length f) then
 some (.inl ((f, h, ()), ()))
 else none)
 fun ⟨⟨f, h, _⟩, _⟩ =>
 bif decide ((0 : Int) ≤ i ∧ i < (List.length a : Int)) then
 bif decide (Int.toNat i < List.length a) then
 bif decide (List.length f = List.length f) then
 bif decide (List.length f + List.length ([(List.getD a (Int.toNat i) (dflt (.int .i64)))]) ≤ maxLen ∧ (List.length f + List.length ([(List.getD a (Int.toNat i) (dflt (.int .i64)))])) * 8 ≤ 140737488355328) then
 bif decide (List.length (f ++ [(List.getD a (Int.toNat i) (dflt (.int .i64)))]) = List.length (f ++ [(List.getD a (Int.toNat i) (dflt (.int .i64)))])) then
 some (.inl (((f ++ [(List.getD a (Int.toNat i) (dflt (.int .i64)))]), h, IntKind.wrap .i64 (i + (1 : Int)), ()), ()))
 else none
 else none
 else none
 else none
 else none
 else
 inrO (bif !h then
 bif decide (List.length f = List.length f) then
 bif decide (List.length f + List.length ([c]) ≤ maxLen ∧ (List.length f + List.length ([c])) * 8 ≤ 140737488355328) then
 bif decide (List.length (f ++ [c]) = List.length (f ++ [c])) then
 some ((), (f ++ [c]))
 else none
 else none
 else none
 else
 bif decide (List.length f = List.length f) then
 some ((), f)
 else none))
 (([], false, (0 : Int), ()), ())
def e32 (fu : Nat) : Ent := ⟨32, (.cons (.hole (.sl (.int .i64))) (.cons (.hole (.int .i64)) .nil)), .nil, (.own .own 3 (.int .i64)), p32 fu⟩
def d32 (_ : Nat) : DC := (.seq (.region [opD 4 (.mov (.const vS))] [[]] false) (.seq (.region [opD 5 (.mov (.const vS))] [[]] false) (.seq (.region [opD 6 (.mov (.const vB))] [[]] false) (.seq (.seq (.region [opD 7 (.mov (cD 0))] [[]] false) (.block 0 (.loop ⟨[5, 6, 7], (.cons (.own .own 3 (.int .i64)) (.cons (.hole .bool) (.cons (.hole (.int .i64)) .nil))), [], .nil, [0, 1], []⟩
 (.seq (.seq (.region [mvD 8 7, mvD 9 0, opD 10 (.len false (tD 9)), opD 11 (.bin .lss (tD 8) (tD 10))] [[], [], [1], [0, 2]] false) (.cond (.tmp 11) .skip (.exit 0))) (.seq (.block 1 (.join ⟨[5, 6], (.cons (.own .own 3 (.int .i64)) (.cons (.hole .bool) .nil)), [], .nil, [0, 1, 7], []⟩
 (.join ⟨[23], (.cons (.hole .bool) .nil), [], .nil, [0, 1, 5, 6, 7], [64]⟩
 (.region [mvD 14 6, opD 15 (.not (tD 14)), mvD 16 15, ogD 17 16 true (.mov (tD 0)), ogD 18 16 true (.mov (tD 7)), ogD 19 16 true (.iaddr 1 (tD 17) (tD 18)), ogD 20 16 true (.load false 1 (tD 19)), ogD 21 16 true (.mov (tD 1)), ogD 22 16 true (.bin .gtr (tD 20) (tD 21)), opD 23 (.pick (tD 16) (tD 22) (.const vB))] [[], [0], [1], [2], [2], [3, 4, 2], [5, 2], [2], [6, 7, 2], [2, 8]] false)
 (.cond (.tmp 23) (.seq (.region [mvD 24 5, mvD 25 1, oqD 26 (.bslice 3 1 1 [vI] [(0, (tD 25))]) (.ty (.int .i64)), oqD 27 (.app 3 1 [vI] 8 (tD 24) (tD 26)) (.ty (.int .i64)), mvD 5 27] [[], [], [1], [0, 2], [3, 3, 0, 1, 2, 3]] false) (.region [opD 6 (.mov (.const (.bool true)))] [[]] false)) .skip))
 (.region [mvD 28 5, mvD 29 0, mvD 30 7, opD 31 (.iaddr 1 (tD 29) (tD 30)), opD 32 (.load false 1 (tD 31)), oqD 33 (.bslice 3 1 1 [vI] [(0, (tD 32))]) (.ty (.int .i64)), oqD 34 (.app 3 1 [vI] 8 (tD 28) (tD 33)) (.ty (.int .i64)), mvD 5 34] [[], [], [], [1, 2], [3], [4], [0, 5], [6, 6, 0, 1, 2, 3, 4, 5, 6]] false))) (.region [mvD 12 7, opD 13 (.bin .add (tD 12) (cD 1)), mvD 7 13] [[], [0], [1, 0, 1]] false)))))) (.seq (.seq (.region [mvD 35 6, opD 36 (.not (tD 35))] [[], [0]] false) (.cond (.tmp 36) (.region [mvD 37 5, mvD 38 1, oqD 39 (.bslice 3 1 1 [vI] [(0, (tD 38))]) (.ty (.int .i64)), oqD 40 (.app 3 1 [vI] 8 (tD 37) (tD 39)) (.ty (.int .i64)), mvD 5 40] [[], [], [1], [0, 2], [3, 3, 0, 1, 2, 3]] false) .skip)) (.seq (.region [mvD 41 5, mvD 4 41] [[], [0, 0]] false) .ret))))))
set_option maxRecDepth 1000000 in
theorem v32 (fu : Nat) : evF fu (d32 fu) rs32 42 (e32 fu).ash (e32 fu).osh (e32 fu).vsh = p32 fu := by kernel_rfl
set_option maxRecDepth 1000000 in
theorem b32 (fu : Nat) : BodyD Try.prog 32 42 (d32 fu).erase rs32 := bodyD_mk Try.func32 (by kernel_rfl) (by kernel_rfl) (by kernel_rfl) (by kernel_rfl)
theorem g32 (fu : Nat) : (e32 fu).Good Try.prog := good_by orders (b32 fu) (l := []) (by kernel_rfl) trivial (by kernel_rfl) (v32 fu)
def rs13 : List RVx := [(.tmp 4)]
/-- gazette/gazetteref08.Others -/
def p13 (fu : Nat) : ((List (Int)) × ((List (Int)) × (Unit))) × ((Int) × (Unit)) → Option ((Unit) × (List (Int))) := fun ⟨⟨a, c, _⟩, f, _⟩ =>
bif decide (0 = List.length ([] : List (Int))) then
 bif decide (List.length ([] : List (Int)) + List.length a ≤ maxLen ∧ (List.length ([] : List (Int)) + List.length a) * 8 ≤ 140737488355328) then
 bif decide (List.length (([] : List (Int)) ++ a) = List.length (([] : List (Int)) ++ a)) then
 bif decide (List.length (([] : List (Int)) ++ a) + List.length c ≤ maxLen ∧ (List.length (([] : List (Int)) ++ a) + List.length c) * 8 ≤ 140737488355328) then
 loopO (S := ((List (Int)) × ((Int) × (Unit))) × (Unit)) fu (fun ⟨⟨h, i, _⟩, _⟩ =>
 bif decide (i < ((List.length ((([] : List (Int)) ++ a) ++ c)) : Int)) then
 bif decide ((0 : Int) ≤ i ∧ i < (List.length ((([] : List (Int)) ++ a) ++ c) : Int)) then
 bif decide (Int.toNat i < List.length ((([] : List (Int)) ++ a) ++ c)) then
 bif decide (List.length h = List.length h) then
 Option.bind (p15 fu (h, (List.getD ((([] : List (Int)) ++ a) ++ c) (Int.toNat i) (dflt (.int .i64))), ())) fun ⟨_, j⟩ =>
 orK (E := ((Bool) × (Unit)) × (Unit))
 (bif decide ((0 : Int) ≤ i ∧ i < (List.length ((([] : List (Int)) ++ a) ++ c) : Int)) then
 bif decide (Int.toNat i < List.length ((([] : List (Int)) ++ a) ++ c)) then
 bif ((List.getD ((([] : List (Int)) ++ a) ++ c) (Int.toNat i) (dflt (.int .i64))) != f) then
 some (.inl ((!j, ()), ()))
 else
 some (.inl ((false, ()), ()))
 else none
 else none)
 fun ⟨⟨k, _⟩, _⟩ =>
 bif k then
 bif decide ((0 : Int) ≤ i ∧ i < (List.length ((([] : List (Int)) ++ a) ++ c) : Int)) then
 bif decide (Int.toNat i < List.length ((([] : List (Int)) ++ a) ++ c)) then
 bif decide (List.length h = List.length h) then
 Option.bind (p32 fu (h, (List.getD ((([] : List (Int)) ++ a) ++ c) (Int.toNat i) (dflt (.int .i64))), ())) fun ⟨_, l⟩ =>
 bif decide (List.length l = List.length l) then
 some (.inl ((l, IntKind.wrap .i64 (i + (1 : Int)), ()), ()))
 else none
 else none
 else none
 else none
 else
 bif decide (List.length h = List.length h) then
 some (.inl ((h, IntKind.wrap .i64 (i + (1 : Int)), ()), ()))
 else none
 else none
 else none
 else none
 else
 inrO (bif decide (List.length h = List.length h) then
 some ((), h)
 else none))
 (([], (0 : Int), ()), ())
 else none
 else none
 else none
else none
def e13 (fu : Nat) : Ent := ⟨13, (.cons (.agg 2 (.cons (.hole (.sl (.int .i64))) (.cons (.hole (.sl (.int .i64))) .nil))) (.cons (.hole (.int .i64)) .nil)), .nil, (.own .own 3 (.int .i64)), p13 fu⟩
def d13 (fu : Nat) : DC := (.seq (.region [opD 2 (.box 24 2 (tD 0)), opD 4 (.mov (.const vS))] [[], []] false) (.seq (.region [oqD 9 (.bslice 3 1 0 [vI] []) (.ty (.int .i64)), opD 10 (.faddr 0 (tD 2)), opD 11 (.load false 1 (tD 10)), oqD 12 (.app 3 1 [vI] 8 (tD 9) (tD 11)) (.ty (.int .i64)), opD 13 (.faddr 1 (tD 2)), opD 14 (.load false 1 (tD 13)), oqD 15 (.app 3 1 [vI] 8 (tD 12) (tD 14)) (.ty (.int .i64)), mvD 5 15] [[], [], [1], [0, 2], [], [4], [3, 5, 3], [6, 6, 0, 1, 2, 3, 4, 5, 6]] true) (.seq (.region [opD 6 (.mov (.const vS))] [[]] false) (.seq (.seq (.region [opD 7 (.mov (cD 0))] [[]] false) (.block 0 (.loop ⟨[6, 7], (.cons (.own .own 3 (.int .i64)) (.cons (.hole (.int .i64)) .nil)), [], .nil, [1, 5], [32]⟩
 (.seq (.seq (.region [mvD 16 7, mvD 17 5, opD 18 (.len false (tD 17)), opD 19 (.bin .lss (tD 16) (tD 18))] [[], [], [1], [0, 2]] false) (.cond (.tmp 19) .skip (.exit 0))) (.seq (.block 1 (.seq (.region [mvD 22 6, mvD 23 5, mvD 24 7, opD 25 (.iaddr 1 (tD 23) (tD 24)), opD 26 (.load false 1 (tD 25)), oqD 27 (.call 15 [(tD 22), (tD 26)]) (.ent (e15 fu)), mvD 8 27] [[], [], [], [1, 2], [3], [0, 4], [5, 5, 0, 1, 2, 3, 4, 5]] false) (.join ⟨[37], (.cons (.hole .bool) .nil), [], .nil, [1, 5, 6, 7], [32, 192]⟩
 (.region [mvD 28 5, mvD 29 7, opD 30 (.iaddr 1 (tD 28) (tD 29)), opD 31 (.load false 1 (tD 30)), mvD 32 1, opD 33 (.bin .neq (tD 31) (tD 32)), mvD 34 33, ogD 35 34 true (.mov (tD 8)), ogD 36 34 true (.not (tD 35)), opD 37 (.pick (tD 34) (tD 36) (.const vB))] [[], [], [0, 1], [2], [], [3, 4], [5], [6], [7, 6], [6, 8]] false)
 (.cond (.tmp 37) (.region [mvD 38 6, mvD 39 5, mvD 40 7, opD 41 (.iaddr 1 (tD 39) (tD 40)), opD 42 (.load false 1 (tD 41)), oqD 43 (.call 32 [(tD 38), (tD 42)]) (.ent (e32 fu)), mvD 6 43] [[], [], [], [1, 2], [3], [0, 4], [5, 5, 0, 1, 2, 3, 4, 5]] false) .skip)))) (.region [mvD 20 7, opD 21 (.bin .add (tD 20) (cD 1)), mvD 7 21] [[], [0], [1, 0, 1]] false)))))) (.seq (.region [mvD 44 6, mvD 4 44] [[], [0, 0]] false) .ret)))))
set_option maxRecDepth 1000000 in
theorem v13 (fu : Nat) : evF fu (d13 fu) rs13 45 (e13 fu).ash (e13 fu).osh (e13 fu).vsh = p13 fu := by kernel_rfl
set_option maxRecDepth 1000000 in
theorem b13 (fu : Nat) : BodyD Try.prog 13 45 (d13 fu).erase rs13 := bodyD_mk Try.func13 (by kernel_rfl) (by kernel_rfl) (by kernel_rfl) (by kernel_rfl)
theorem g13 (fu : Nat) : (e13 fu).Good Try.prog := good_by orders (b13 fu) (l := [e15 fu, e32 fu]) (by kernel_rfl) ⟨g15 fu, g32 fu, trivial⟩ (by kernel_rfl) (v13 fu)
def rs34 : List RVx := [(.tmp 4)]
/-- gazette/gazetteref06.sameInts -/
def p34 (fu : Nat) : (List (Int)) × ((List (Int)) × (Unit)) → Option ((Unit) × (Bool)) := fun ⟨a, c, _⟩ =>
bif ((List.length a : Int) != (List.length c : Int)) then
 some ((), false)
else
 loopO (S := ((Int) × (Unit)) × (Unit)) fu (fun ⟨⟨f, _⟩, _⟩ =>
 bif decide (f < (List.length a : Int)) then
 bif decide ((0 : Int) ≤ f ∧ f < (List.length a : Int)) then
 bif decide (Int.toNat f < List.length a) then
 bif decide ((0 : Int) ≤ f ∧ f < (List.length c : Int)) then
 bif decide (Int.toNat f < List.length c) then
 bif ((List.getD a (Int.toNat f) (dflt (.int .i64))) != (List.getD c (Int.toNat f) (dflt (.int .i64)))) then
 inrO (some ((), false))
 else
 some (.inl ((IntKind.wrap .i64 (f + (1 : Int)), ()), ()))
 else none
 else none
 else none
 else none
 else
 inrO (some ((), true)))
 (((0 : Int), ()), ())
def e34 (fu : Nat) : Ent := ⟨34, (.cons (.hole (.sl (.int .i64))) (.cons (.hole (.sl (.int .i64))) .nil)), .nil, (.hole .bool), p34 fu⟩
def d34 (_ : Nat) : DC := (.seq (.region [opD 4 (.mov (.const vB))] [[]] false) (.seq (.seq (.region [mvD 6 0, opD 7 (.len false (tD 6)), mvD 8 1, opD 9 (.len false (tD 8)), opD 10 (.bin .neq (tD 7) (tD 9))] [[], [0], [], [2], [1, 3]] false) (.cond (.tmp 10) (.seq (.region [opD 4 (.mov (.const vB))] [[]] false) .ret) .skip)) (.seq (.seq (.region [opD 5 (.mov (cD 0))] [[]] false) (.block 0 (.loop ⟨[5], (.cons (.hole (.int .i64)) .nil), [], .nil, [0, 1], []⟩
 (.seq (.seq (.region [mvD 11 5, mvD 12 0, opD 13 (.len false (tD 12)), opD 14 (.bin .lss (tD 11) (tD 13))] [[], [], [1], [0, 2]] false) (.cond (.tmp 14) .skip (.exit 0))) (.seq (.block 1 (.seq (.region [mvD 17 0, mvD 18 5, opD 19 (.iaddr 1 (tD 17) (tD 18)), opD 20 (.load false 1 (tD 19)), mvD 21 1, mvD 22 5, opD 23 (.iaddr 1 (tD 21) (tD 22)), opD 24 (.load false 1 (tD 23)), opD 25 (.bin .neq (tD 20) (tD 24))] [[], [], [0, 1], [2], [], [], [4, 5], [6], [3, 7]] true) (.cond (.tmp 25) (.seq (.region [opD 4 (.mov (.const vB))] [[]] false) .ret) .skip))) (.region [mvD 15 5, opD 16 (.bin .add (tD 15) (cD 1)), mvD 5 16] [[], [0], [1, 0, 1]] false)))))) (.seq (.region [opD 4 (.mov (.const (.bool true)))] [[]] false) .ret))))
set_option maxRecDepth 1000000 in
theorem v34 (fu : Nat) : evF fu (d34 fu) rs34 26 (e34 fu).ash (e34 fu).osh (e34 fu).vsh = p34 fu := by kernel_rfl
set_option maxRecDepth 1000000 in
theorem b34 (fu : Nat) : BodyD Try.prog 34 26 (d34 fu).erase rs34 := bodyD_mk Try.func34 (by kernel_rfl) (by kernel_rfl) (by kernel_rfl) (by kernel_rfl)
theorem g34 (fu : Nat) : (e34 fu).Good Try.prog := good_by orders (b34 fu) (l := []) (by kernel_rfl) trivial (by kernel_rfl) (v34 fu)
def rs17 : List RVx := [(.tmp 4)]
/-- gazette/gazetteref06.SameConf -/
def p17 (fu : Nat) : ((List (Int)) × ((List (Int)) × (Unit))) × (((List (Int)) × ((List (Int)) × (Unit))) × (Unit)) → Option ((Unit) × (Bool)) := fun ⟨⟨a, c, _⟩, ⟨f, h, _⟩, _⟩ =>
Option.bind (p34 fu (a, f, ())) fun ⟨_, i⟩ =>
Option.bind (p34 fu (c, h, ())) fun ⟨_, j⟩ =>
bif i then
 some ((), j)
else
 some ((), false)
def e17 (fu : Nat) : Ent := ⟨17, (.cons (.agg 2 (.cons (.hole (.sl (.int .i64))) (.cons (.hole (.sl (.int .i64))) .nil))) (.cons (.agg 2 (.cons (.hole (.sl (.int .i64))) (.cons (.hole (.sl (.int .i64))) .nil))) .nil)), .nil, (.hole .bool), p17 fu⟩
def d17 (fu : Nat) : DC := (.seq (.region [opD 2 (.box 24 2 (tD 0)), opD 3 (.box 24 2 (tD 1)), opD 4 (.mov (.const vB))] [[], [], []] false) (.seq (.region [opD 7 (.faddr 0 (tD 2)), opD 8 (.load false 1 (tD 7)), opD 9 (.faddr 0 (tD 3)), opD 10 (.load false 1 (tD 9)), oqD 11 (.call 34 [(tD 8), (tD 10)]) (.ent (e34 fu)), mvD 5 11] [[], [0], [], [2], [1, 3], [4, 4, 0, 1, 2, 3, 4]] false) (.seq (.region [opD 12 (.faddr 1 (tD 2)), opD 13 (.load false 1 (tD 12)), opD 14 (.faddr 1 (tD 3)), opD 15 (.load false 1 (tD 14)), oqD 16 (.call 34 [(tD 13), (tD 15)]) (.ent (e34 fu)), mvD 6 16] [[], [0], [], [2], [1, 3], [4, 4, 0, 1, 2, 3, 4]] false) (.seq (.region [mvD 17 5, mvD 18 17, ogD 19 18 true (.mov (tD 6)), opD 20 (.pick (tD 18) (tD 19) (.const vB)), mvD 4 20] [[], [0], [1], [1, 2], [3, 1, 0, 1, 2, 3]] false) .ret))))
set_option maxRecDepth 1000000 in
theorem v17 (fu : Nat) : evF fu (d17 fu) rs17 21 (e17 fu).ash (e17 fu).osh (e17 fu).vsh = p17 fu := by kernel_rfl
set_option maxRecDepth 1000000 in
theorem b17 (fu : Nat) : BodyD Try.prog 17 21 (d17 fu).erase rs17 := bodyD_mk Try.func17 (by kernel_rfl) (by kernel_rfl) (by kernel_rfl) (by kernel_rfl)
theorem g17 (fu : Nat) : (e17 fu).Good Try.prog := good_by orders (b17 fu) (l := [e34 fu, e34 fu]) (by kernel_rfl) ⟨g34 fu, g34 fu, trivial⟩ (by kernel_rfl) (v17 fu)
def rs3 : List RVx := [(.tmp 4)]
/-- gazette/gazettelaw08.RaftconfTells -/
def p3 (fu : Nat) : ((List (Int)) × ((List (Int)) × (Unit))) × ((List (Int)) × (Unit)) → Option ((Unit) × (Bool)) := fun ⟨⟨a, c, _⟩, f, _⟩ =>
Option.bind (p8 fu ()) fun ⟨_, h⟩ =>
Option.bind (p9 fu ((a, c, ()), ())) fun ⟨_, ⟨i, j, _⟩⟩ =>
bif decide (List.length i = List.length i) then
 bif decide (List.length j = List.length j) then
 Option.bind (p10 fu ((i, j, ()), ())) fun ⟨_, k⟩ =>
 Option.bind (p11 fu ((a, c, ()), ())) fun ⟨_, l⟩ =>
 bif (k != l) then
 some ((), false)
 else
 loopO (S := ((Int) × (Unit)) × (Unit)) fu (fun ⟨⟨m, _⟩, _⟩ =>
 bif decide (m < (List.length f : Int)) then
 bif decide ((0 : Int) ≤ m ∧ m < (List.length f : Int)) then
 bif decide (Int.toNat m < List.length f) then
 bif decide (List.length i = List.length i) then
 bif decide (List.length j = List.length j) then
 Option.bind (p12 fu ((i, j, ()), (List.getD f (Int.toNat m) (dflt (.int .i64))), ())) fun ⟨_, n⟩ =>
 bif decide ((0 : Int) ≤ m ∧ m < (List.length f : Int)) then
 bif decide (Int.toNat m < List.length f) then
 Option.bind (p13 fu ((a, c, ()), (List.getD f (Int.toNat m) (dflt (.int .i64))), ())) fun ⟨_, o⟩ =>
 bif decide ((0 : Int) ≤ m ∧ m < (List.length f : Int)) then
 bif decide (Int.toNat m < List.length f) then
 bif decide (List.length i = List.length i) then
 bif decide (List.length j = List.length j) then
 Option.bind (p14 fu ((i, j, ()), (List.getD f (Int.toNat m) (dflt (.int .i64))), ())) fun ⟨_, q⟩ =>
 bif decide ((0 : Int) ≤ m ∧ m < (List.length f : Int)) then
 bif decide (Int.toNat m < List.length f) then
 Option.bind (p15 fu (a, (List.getD f (Int.toNat m) (dflt (.int .i64))), ())) fun ⟨_, s⟩ =>
 bif !(q == s) then
 inrO (some ((), false))
 else
 bif decide ((0 : Int) ≤ m ∧ m < (List.length f : Int)) then
 bif decide (Int.toNat m < List.length f) then
 bif decide (List.length i = List.length i) then
 bif decide (List.length j = List.length j) then
 Option.bind (p16 fu ((i, j, ()), (List.getD f (Int.toNat m) (dflt (.int .i64))), ())) fun ⟨_, t⟩ =>
 bif decide ((0 : Int) ≤ m ∧ m < (List.length f : Int)) then
 bif decide (Int.toNat m < List.length f) then
 Option.bind (p15 fu (c, (List.getD f (Int.toNat m) (dflt (.int .i64))), ())) fun ⟨_, u⟩ =>
 bif !(t == u) then
 inrO (some ((), false))
 else
 bif (((List.length n) : Int) != ((List.length o) : Int)) then
 inrO (some ((), false))
 else
 bif decide (List.length n = List.length n) then
 loopO (S := ((List (Int)) × ((Int) × (Unit))) × (Unit)) fu (fun ⟨⟨w, x, _⟩, _⟩ =>
 bif decide (x < ((List.length w) : Int)) then
 bif decide ((0 : Int) ≤ x ∧ x < (List.length w : Int)) then
 bif decide (Int.toNat x < List.length w) then
 bif decide ((0 : Int) ≤ x ∧ x < (List.length o : Int)) then
 bif decide (Int.toNat x < List.length o) then
 bif ((List.getD w (Int.toNat x) (dflt (.int .i64))) != (List.getD o (Int.toNat x) (dflt (.int .i64)))) then
 inrO (inrO (some ((), false)))
 else
 bif decide ((0 : Int) ≤ x ∧ x < (List.length w : Int)) then
 bif decide (Int.toNat x < List.length w) then
 bif decide (List.length w = List.length (List.set w (Int.toNat x) (99 : Int))) then
 some (.inl (((List.set w (Int.toNat x) (99 : Int)), IntKind.wrap .i64 (x + (1 : Int)), ()), ()))
 else none
 else none
 else none
 else none
 else none
 else none
 else none
 else
 inrO (some (.inl ((IntKind.wrap .i64 (m + (1 : Int)), ()), ()))))
 ((n, (0 : Int), ()), ())
 else none
 else none
 else none
 else none
 else none
 else none
 else none
 else none
 else none
 else none
 else none
 else none
 else none
 else none
 else none
 else none
 else none
 else none
 else none
 else
 inrO (bif h then
 bif decide (List.length i = List.length i) then
 bif decide (List.length j = List.length j) then
 Option.bind (p17 fu ((i, j, ()), (a, c, ()), ())) fun ⟨_, y⟩ =>
 some ((), y)
 else none
 else none
 else
 some ((), false)))
 (((0 : Int), ()), ())
 else none
else none
def e3 (fu : Nat) : Ent := ⟨3, (.cons (.agg 2 (.cons (.hole (.sl (.int .i64))) (.cons (.hole (.sl (.int .i64))) .nil))) (.cons (.hole (.sl (.int .i64))) .nil)), .nil, (.hole .bool), p3 fu⟩
def d3 (fu : Nat) : DC := (.seq (.region [opD 2 (.box 24 2 (tD 0)), opD 4 (.mov (.const vB))] [[], []] false) (.seq (.region [oqD 11 (.call 8 []) (.ent (e8 fu)), mvD 5 11] [[], [0, 0, 0]] false) (.seq (.region [opD 12 (.load true 2 (tD 2)), oqD 13 (.call 9 [(tD 12)]) (.ent (e9 fu)), opD 6 (.alloc 24 2 [vS, vS]), onD (.store 2 (tD 6) (tD 13))] [[], [0], [], [2, 1, 1, 0, 1, 2]] false) (.seq (.seq (.region [opD 14 (.load true 2 (tD 6)), oqD 15 (.call 10 [(tD 14)]) (.ent (e10 fu)), opD 16 (.load true 2 (tD 2)), oqD 17 (.call 11 [(tD 16)]) (.ent (e11 fu)), opD 18 (.bin .neq (tD 15) (tD 17))] [[], [0], [], [2, 1], [1, 3]] true) (.cond (.tmp 18) (.seq (.region [opD 4 (.mov (.const vB))] [[]] false) .ret) .skip)) (.seq (.seq (.region [opD 7 (.mov (cD 0))] [[]] false) (.block 0 (.loop ⟨[7], (.cons (.hole (.int .i64)) .nil), [], .nil, [1, 2, 5, 6], [0, 80, 81, 96]⟩
 (.seq (.seq (.region [mvD 19 7, mvD 20 1, opD 21 (.len false (tD 20)), opD 22 (.bin .lss (tD 19) (tD 21))] [[], [], [1], [0, 2]] false) (.cond (.tmp 22) .skip (.exit 0))) (.seq (.block 1 (.seq (.region [opD 25 (.load true 2 (tD 6)), mvD 26 1, mvD 27 7, opD 28 (.iaddr 1 (tD 26) (tD 27)), opD 29 (.load false 1 (tD 28)), oqD 30 (.call 12 [(tD 25), (tD 29)]) (.ent (e12 fu)), mvD 8 30] [[], [], [], [1, 2], [3], [0, 4], [5, 5, 0, 1, 2, 3, 4, 5]] true) (.seq (.region [opD 31 (.load true 2 (tD 2)), mvD 32 1, mvD 33 7, opD 34 (.iaddr 1 (tD 32) (tD 33)), opD 35 (.load false 1 (tD 34)), oqD 36 (.call 13 [(tD 31), (tD 35)]) (.ent (e13 fu)), mvD 9 36] [[], [], [], [1, 2], [3], [0, 4], [5, 5, 0, 1, 2, 3, 4, 5]] true) (.seq (.seq (.region [opD 37 (.load true 2 (tD 6)), mvD 38 1, mvD 39 7, opD 40 (.iaddr 1 (tD 38) (tD 39)), opD 41 (.load false 1 (tD 40)), oqD 42 (.call 14 [(tD 37), (tD 41)]) (.ent (e14 fu)), opD 43 (.faddr 0 (tD 2)), opD 44 (.load false 1 (tD 43)), mvD 45 1, mvD 46 7, opD 47 (.iaddr 1 (tD 45) (tD 46)), opD 48 (.load false 1 (tD 47)), oqD 49 (.call 15 [(tD 44), (tD 48)]) (.ent (e15 fu)), opD 50 (.beq true (tD 42) (tD 49)), mvD 51 50, ogD 52 51 false (.load true 2 (tD 6)), ogD 53 51 false (.mov (tD 1)), ogD 54 51 false (.mov (tD 7)), ogD 55 51 false (.iaddr 1 (tD 53) (tD 54)), ogD 56 51 false (.load false 1 (tD 55)), (⟨(some 57), (some (51, false)), (.call 16 [(tD 52), (tD 56)])⟩, (.ent (e16 fu))), ogD 58 51 false (.faddr 1 (tD 2)), ogD 59 51 false (.load false 1 (tD 58)), ogD 60 51 false (.mov (tD 1)), ogD 61 51 false (.mov (tD 7)), ogD 62 51 false (.iaddr 1 (tD 60) (tD 61)), ogD 63 51 false (.load false 1 (tD 62)), (⟨(some 64), (some (51, false)), (.call 15 [(tD 59), (tD 63)])⟩, (.ent (e15 fu))), ogD 65 51 false (.beq true (tD 57) (tD 64)), opD 66 (.pick (tD 51) (.const (.bool true)) (tD 65)), mvD 67 66, ogD 68 67 false (.mov (tD 8)), ogD 69 67 false (.len false (tD 68)), ogD 70 67 false (.mov (tD 9)), ogD 71 67 false (.len false (tD 70)), ogD 72 67 false (.bin .neq (tD 69) (tD 71)), opD 73 (.pick (tD 67) (.const (.bool true)) (tD 72))] [[], [], [], [1, 2], [3], [0, 4], [], [6], [], [], [8, 9], [10], [7, 11, 5], [5, 12], [13, 12], [14], [14], [14], [16, 17, 14], [18, 14], [15, 19, 14, 14], [14], [21, 14], [14], [14], [23, 24, 14], [25, 14], [22, 26, 20, 14], [20, 27, 14], [14, 28], [29, 27], [30], [31, 30], [30], [33, 30], [32, 34, 30], [30, 35]] true) (.cond (.tmp 73) (.seq (.region [opD 4 (.mov (.const vB))] [[]] false) .ret) .skip)) (.seq (.region [opD 10 (.mov (cD 0))] [[]] false) (.block 2 (.loop ⟨[8, 10], (.cons (.own .own 3 (.int .i64)) (.cons (.hole (.int .i64)) .nil)), [], .nil, [1, 2, 5, 6, 7, 9, 65, 72], [0, 80, 81, 96, 480]⟩
 (.seq (.seq (.region [mvD 74 10, mvD 75 8, opD 76 (.len false (tD 75)), opD 77 (.bin .lss (tD 74) (tD 76))] [[], [], [1], [0, 2]] false) (.cond (.tmp 77) .skip (.exit 2))) (.seq (.block 3 (.seq (.seq (.region [mvD 80 8, mvD 81 10, opD 82 (.iaddr 1 (tD 80) (tD 81)), opD 83 (.load false 1 (tD 82)), mvD 84 9, mvD 85 10, opD 86 (.iaddr 1 (tD 84) (tD 85)), opD 87 (.load false 1 (tD 86)), opD 88 (.bin .neq (tD 83) (tD 87))] [[], [], [0, 1], [2], [], [], [4, 5], [6], [3, 7]] true) (.cond (.tmp 88) (.seq (.region [opD 4 (.mov (.const vB))] [[]] false) .ret) .skip)) (.region [mvD 89 8, mvD 90 10, opD 91 (.iaddr 1 (tD 89) (tD 90)), onD (.store 1 (tD 91) (cD 99))] [[], [], [0, 1, 0, 1], [2, 0, 1]] false))) (.region [mvD 78 10, opD 79 (.bin .add (tD 78) (cD 1)), mvD 10 79] [[], [0], [1, 0, 1]] false)))))))))) (.region [mvD 23 7, opD 24 (.bin .add (tD 23) (cD 1)), mvD 7 24] [[], [0], [1, 0, 1]] false)))))) (.seq (.region [mvD 92 5, mvD 93 92, ogD 94 93 true (.load true 2 (tD 6)), ogD 95 93 true (.load true 2 (tD 2)), (⟨(some 96), (some (93, true)), (.call 17 [(tD 94), (tD 95)])⟩, (.ent (e17 fu))), opD 97 (.pick (tD 93) (tD 96) (.const vB)), mvD 4 97] [[], [0], [1], [1], [2, 3, 1, 1], [1, 4], [5, 4, 0, 1, 2, 3, 4, 5]] false) .ret))))))
set_option maxRecDepth 1000000 in
theorem v3 (fu : Nat) : evF fu (d3 fu) rs3 98 (e3 fu).ash (e3 fu).osh (e3 fu).vsh = p3 fu := by kernel_rfl
set_option maxRecDepth 1000000 in
theorem b3 (fu : Nat) : BodyD Try.prog 3 98 (d3 fu).erase rs3 := bodyD_mk Try.func3 (by kernel_rfl) (by kernel_rfl) (by kernel_rfl) (by kernel_rfl)
theorem g3 (fu : Nat) : (e3 fu).Good Try.prog := good_by orders (b3 fu) (l := [e8 fu, e9 fu, e10 fu, e11 fu, e12 fu, e13 fu, e14 fu, e15 fu, e16 fu, e15 fu, e17 fu]) (by kernel_rfl) ⟨g8 fu, g9 fu, g10 fu, g11 fu, g12 fu, g13 fu, g14 fu, g15 fu, g16 fu, g15 fu, g17 fu, trivial⟩ (by kernel_rfl) (v3 fu)
def rs37 : List RVx := [(.tmp 4)]
/-- gazette/gazetteref08.Without -/
def p37 (fu : Nat) : (List (Int)) × ((Int) × (Unit)) → Option ((Unit) × (List (Int))) := fun ⟨a, c, _⟩ =>
loopO (S := ((List (Int)) × ((Int) × (Unit))) × (Unit)) fu (fun ⟨⟨f, h, _⟩, _⟩ =>
 bif decide (h < (List.length a : Int)) then
 bif decide ((0 : Int) ≤ h ∧ h < (List.length a : Int)) then
 bif decide (Int.toNat h < List.length a) then
 bif ((List.getD a (Int.toNat h) (dflt (.int .i64))) != c) then
 bif decide ((0 : Int) ≤ h ∧ h < (List.length a : Int)) then
 bif decide (Int.toNat h < List.length a) then
 bif decide (List.length f = List.length f) then
 bif decide (List.length f + List.length ([(List.getD a (Int.toNat h) (dflt (.int .i64)))]) ≤ maxLen ∧ (List.length f + List.length ([(List.getD a (Int.toNat h) (dflt (.int .i64)))])) * 8 ≤ 140737488355328) then
 bif decide (List.length (f ++ [(List.getD a (Int.toNat h) (dflt (.int .i64)))]) = List.length (f ++ [(List.getD a (Int.toNat h) (dflt (.int .i64)))])) then
 some (.inl (((f ++ [(List.getD a (Int.toNat h) (dflt (.int .i64)))]), IntKind.wrap .i64 (h + (1 : Int)), ()), ()))
 else none
 else none
 else none
 else none
 else none
 else
 bif decide (List.length f = List.length f) then
 some (.inl ((f, IntKind.wrap .i64 (h + (1 : Int)), ()), ()))
 else none
 else none
 else none
 else
 inrO (bif decide (List.length f = List.length f) then
 some ((), f)
 else none))
 (([], (0 : Int), ()), ())
def e37 (fu : Nat) : Ent := ⟨37, (.cons (.hole (.sl (.int .i64))) (.cons (.hole (.int .i64)) .nil)), .nil, (.own .own 3 (.int .i64)), p37 fu⟩
def d37 (_ : Nat) : DC := (.seq (.region [opD 4 (.mov (.const vS))] [[]] false) (.seq (.region [opD 5 (.mov (.const vS))] [[]] false) (.seq (.seq (.region [opD 6 (.mov (cD 0))] [[]] false) (.block 0 (.loop ⟨[5, 6], (.cons (.own .own 3 (.int .i64)) (.cons (.hole (.int .i64)) .nil)), [], .nil, [0, 1], []⟩
 (.seq (.seq (.region [mvD 7 6, mvD 8 0, opD 9 (.len false (tD 8)), opD 10 (.bin .lss (tD 7) (tD 9))] [[], [], [1], [0, 2]] false) (.cond (.tmp 10) .skip (.exit 0))) (.seq (.block 1 (.seq (.region [mvD 13 0, mvD 14 6, opD 15 (.iaddr 1 (tD 13) (tD 14)), opD 16 (.load false 1 (tD 15)), mvD 17 1, opD 18 (.bin .neq (tD 16) (tD 17))] [[], [], [0, 1], [2], [], [3, 4]] false) (.cond (.tmp 18) (.region [mvD 19 5, mvD 20 0, mvD 21 6, opD 22 (.iaddr 1 (tD 20) (tD 21)), opD 23 (.load false 1 (tD 22)), oqD 24 (.bslice 3 1 1 [vI] [(0, (tD 23))]) (.ty (.int .i64)), oqD 25 (.app 3 1 [vI] 8 (tD 19) (tD 24)) (.ty (.int .i64)), mvD 5 25] [[], [], [], [1, 2], [3], [4], [0, 5], [6, 6, 0, 1, 2, 3, 4, 5, 6]] false) .skip))) (.region [mvD 11 6, opD 12 (.bin .add (tD 11) (cD 1)), mvD 6 12] [[], [0], [1, 0, 1]] false)))))) (.seq (.region [mvD 26 5, mvD 4 26] [[], [0, 0]] false) .ret))))
set_option maxRecDepth 1000000 in
theorem v37 (fu : Nat) : evF fu (d37 fu) rs37 27 (e37 fu).ash (e37 fu).osh (e37 fu).vsh = p37 fu := by kernel_rfl
set_option maxRecDepth 1000000 in
theorem b37 (fu : Nat) : BodyD Try.prog 37 27 (d37 fu).erase rs37 := bodyD_mk Try.func37 (by kernel_rfl) (by kernel_rfl) (by kernel_rfl) (by kernel_rfl)
theorem g37 (fu : Nat) : (e37 fu).Good Try.prog := good_by orders (b37 fu) (l := []) (by kernel_rfl) trivial (by kernel_rfl) (v37 fu)
def rs19 : List RVx := [(.cell 4 true 2), (.tmp 5)]
/-- gazette/gazetteref08.Apply -/
def p19 (fu : Nat) : ((List (Int)) × ((List (Int)) × (Unit))) × (((Int) × ((Int) × (Unit))) × (Unit)) → Option ((Unit) × (((List (Int)) × ((List (Int)) × (Unit))) × ((Int) × (Unit)))) := fun ⟨⟨a, c, _⟩, ⟨f, h, _⟩, _⟩ =>
Option.bind (p11 fu ((a, c, ()), ())) fun ⟨_, i⟩ =>
bif (i != (0 : Int)) then
 some ((), (([], [], ()), i, ()))
else
 Option.bind (p26 fu (h, ())) fun ⟨_, j⟩ =>
 bif !j then
 some ((), (([], [], ()), (81 : Int), ()))
 else
 Option.bind (p15 fu (a, h, ())) fun ⟨_, k⟩ =>
 Option.bind (p15 fu (c, h, ())) fun ⟨_, l⟩ =>
 bif decide (0 = List.length ([] : List (Int))) then
 bif decide (List.length ([] : List (Int)) + List.length a ≤ maxLen ∧ (List.length ([] : List (Int)) + List.length a) * 8 ≤ 140737488355328) then
 bif decide (0 = List.length ([] : List (Int))) then
 bif decide (List.length ([] : List (Int)) + List.length c ≤ maxLen ∧ (List.length ([] : List (Int)) + List.length c) * 8 ≤ 140737488355328) then
 bif (f == (1 : Int)) then
 orK (E := ((Bool) × (Unit)) × (Unit))
 (bif k then
 some (.inl ((true, ()), ()))
 else
 some (.inl ((l, ()), ())))
 fun ⟨⟨m, _⟩, _⟩ =>
 bif m then
 some ((), (([], [], ()), (82 : Int), ()))
 else
 Option.bind (p32 fu (c, h, ())) fun ⟨_, n⟩ =>
 bif decide (List.length (([] : List (Int)) ++ a) = List.length (([] : List (Int)) ++ a)) then
 bif decide (List.length n = List.length n) then
 some ((), (((([] : List (Int)) ++ a), n, ()), (0 : Int), ()))
 else none
 else none
 else
 bif (f == (2 : Int)) then
 bif !l then
 some ((), (([], [], ()), (83 : Int), ()))
 else
 Option.bind (p37 fu (c, h, ())) fun ⟨_, o⟩ =>
 Option.bind (p32 fu (a, h, ())) fun ⟨_, q⟩ =>
 bif decide (List.length q = List.length q) then
 bif decide (List.length o = List.length o) then
 some ((), ((q, o, ()), (0 : Int), ()))
 else none
 else none
 else
 bif (f == (3 : Int)) then
 orK (E := ((Bool) × (Unit)) × (Unit))
 (bif !k then
 some (.inl ((!l, ()), ()))
 else
 some (.inl ((false, ()), ())))
 fun ⟨⟨s, _⟩, _⟩ =>
 bif s then
 some ((), (([], [], ()), (83 : Int), ()))
 else
 orK (E := ((Bool) × (Unit)) × (Unit))
 (bif k then
 some (.inl ((((List.length a : Int) == (1 : Int)), ()), ()))
 else
 some (.inl ((false, ()), ())))
 fun ⟨⟨t, _⟩, _⟩ =>
 bif t then
 some ((), (([], [], ()), (84 : Int), ()))
 else
 Option.bind (p37 fu (a, h, ())) fun ⟨_, u⟩ =>
 Option.bind (p37 fu (c, h, ())) fun ⟨_, w⟩ =>
 bif decide (List.length u = List.length u) then
 bif decide (List.length w = List.length w) then
 some ((), ((u, w, ()), (0 : Int), ()))
 else none
 else none
 else
 some ((), (([], [], ()), (1 : Int), ()))
 else none
 else none
 else none
 else none
def e19 (fu : Nat) : Ent := ⟨19, (.cons (.agg 2 (.cons (.hole (.sl (.int .i64))) (.cons (.hole (.sl (.int .i64))) .nil))) (.cons (.agg 2 (.cons (.hole (.int .i64)) (.cons (.hole (.int .i64)) .nil))) .nil)), .nil, Y0, p19 fu⟩
def d19 (fu : Nat) : DC := (.seq (.region [opD 2 (.box 24 2 (tD 0)), opD 3 (.box 39 2 (tD 1)), opD 4 (.alloc 24 2 [vS, vS]), opD 5 (.mov (cD 0))] [[], [], [], []] false) (.seq (.region [opD 11 (.load true 2 (tD 2)), oqD 12 (.call 11 [(tD 11)]) (.ent (e11 fu)), mvD 6 12] [[], [0], [1, 1, 0, 1]] false) (.seq (.seq (.region [mvD 13 6, opD 14 (.bin .neq (tD 13) (cD 0))] [[], [0]] false) (.cond (.tmp 14) (.seq (.region [opD 15 (.build 2 [vS, vS] []), mvD 16 6, onD (.store 2 (tD 4) (tD 15)), mvD 5 16] [[], [], [0, 0], [1, 2, 0, 1, 2]] false) .ret) .skip)) (.seq (.region [opD 17 (.faddr 1 (tD 3)), opD 18 (.load false 1 (tD 17)), oqD 19 (.call 26 [(tD 18)]) (.ent (e26 fu)), mvD 7 19] [[], [0], [1], [2, 2, 0, 1, 2]] false) (.seq (.seq (.region [mvD 20 7, opD 21 (.not (tD 20))] [[], [0]] false) (.cond (.tmp 21) (.seq (.region [opD 22 (.build 2 [vS, vS] []), onD (.store 2 (tD 4) (tD 22)), opD 5 (.mov (cD 81))] [[], [0, 0], [1, 0, 1]] false) .ret) .skip)) (.seq (.region [opD 23 (.faddr 0 (tD 2)), opD 24 (.load false 1 (tD 23)), opD 25 (.faddr 1 (tD 3)), opD 26 (.load false 1 (tD 25)), oqD 27 (.call 15 [(tD 24), (tD 26)]) (.ent (e15 fu)), mvD 8 27] [[], [0], [], [2], [1, 3], [4, 4, 0, 1, 2, 3, 4]] false) (.seq (.region [opD 28 (.faddr 1 (tD 2)), opD 29 (.load false 1 (tD 28)), opD 30 (.faddr 1 (tD 3)), opD 31 (.load false 1 (tD 30)), oqD 32 (.call 15 [(tD 29), (tD 31)]) (.ent (e15 fu)), mvD 9 32] [[], [0], [], [2], [1, 3], [4, 4, 0, 1, 2, 3, 4]] false) (.seq (.region [oqD 33 (.bslice 3 1 0 [vI] []) (.ty (.int .i64)), opD 34 (.faddr 0 (tD 2)), opD 35 (.load false 1 (tD 34)), oqD 36 (.app 3 1 [vI] 8 (tD 33) (tD 35)) (.ty (.int .i64)), oqD 37 (.bslice 3 1 0 [vI] []) (.ty (.int .i64)), opD 38 (.faddr 1 (tD 2)), opD 39 (.load false 1 (tD 38)), oqD 40 (.app 3 1 [vI] 8 (tD 37) (tD 39)) (.ty (.int .i64)), opD 41 (.build 2 [vS, vS] [(0, (1, (tD 36))), (1, (1, (tD 40)))]), opD 10 (.alloc 24 2 [vS, vS]), onD (.store 2 (tD 10) (tD 41))] [[], [], [1], [0, 2], [], [], [5], [4, 6, 3], [3, 7], [], [9, 8, 7, 0, 1, 2, 3, 4, 5, 6, 7, 8, 9]] true) (.seq (.seq (.region [opD 42 (.faddr 0 (tD 3)), opD 43 (.load false 1 (tD 42))] [[], [0]] false) (.block 0 (.seq (.region [opD 46 (.bin .eql (tD 43) (cD 1)), mvD 45 46] [[], [0]] false) (.cond (.tmp 45) (.seq (.join ⟨[50], (.cons (.hole .bool) .nil), [], .nil, [2, 3, 4, 10], [0, 16, 32, 432, 496, 576]⟩
 (.region [mvD 47 8, mvD 48 47, ogD 49 48 false (.mov (tD 9)), opD 50 (.pick (tD 48) (.const (.bool true)) (tD 49))] [[], [0], [1], [1, 2]] false)
 (.cond (.tmp 50) (.seq (.region [opD 51 (.build 2 [vS, vS] []), onD (.store 2 (tD 4) (tD 51)), opD 5 (.mov (cD 82))] [[], [0, 0], [1, 0, 1]] false) .ret) .skip)) (.region [opD 52 (.faddr 1 (tD 2)), opD 53 (.load false 1 (tD 52)), opD 54 (.faddr 1 (tD 3)), opD 55 (.load false 1 (tD 54)), oqD 56 (.call 32 [(tD 53), (tD 55)]) (.ent (e32 fu)), opD 57 (.faddr 1 (tD 10)), onD (.store 1 (tD 57) (tD 56))] [[], [0], [], [2], [1, 3], [0, 1, 2, 3, 4], [5, 4, 4, 0, 1, 2, 3, 4]] false)) (.seq (.region [opD 59 (.bin .eql (tD 43) (cD 2)), mvD 58 59] [[], [0]] false) (.cond (.tmp 58) (.seq (.seq (.region [mvD 60 9, opD 61 (.not (tD 60))] [[], [0]] false) (.cond (.tmp 61) (.seq (.region [opD 62 (.build 2 [vS, vS] []), onD (.store 2 (tD 4) (tD 62)), opD 5 (.mov (cD 83))] [[], [0, 0], [1, 0, 1]] false) .ret) .skip)) (.seq (.region [opD 63 (.faddr 1 (tD 2)), opD 64 (.load false 1 (tD 63)), opD 65 (.faddr 1 (tD 3)), opD 66 (.load false 1 (tD 65)), oqD 67 (.call 37 [(tD 64), (tD 66)]) (.ent (e37 fu)), opD 68 (.faddr 1 (tD 10)), onD (.store 1 (tD 68) (tD 67))] [[], [0], [], [2], [1, 3], [0, 1, 2, 3, 4], [5, 4, 4, 0, 1, 2, 3, 4]] false) (.region [opD 69 (.faddr 0 (tD 2)), opD 70 (.load false 1 (tD 69)), opD 71 (.faddr 1 (tD 3)), opD 72 (.load false 1 (tD 71)), oqD 73 (.call 32 [(tD 70), (tD 72)]) (.ent (e32 fu)), opD 74 (.faddr 0 (tD 10)), onD (.store 1 (tD 74) (tD 73))] [[], [0], [], [2], [1, 3], [0, 1, 2, 3, 4], [5, 4, 4, 0, 1, 2, 3, 4]] false))) (.seq (.region [opD 76 (.bin .eql (tD 43) (cD 3)), mvD 75 76] [[], [0]] false) (.cond (.tmp 75) (.seq (.join ⟨[82], (.cons (.hole .bool) .nil), [], .nil, [2, 3, 4, 8, 10], [0, 16, 32, 432, 496, 576]⟩
 (.region [mvD 77 8, opD 78 (.not (tD 77)), mvD 79 78, ogD 80 79 true (.mov (tD 9)), ogD 81 79 true (.not (tD 80)), opD 82 (.pick (tD 79) (tD 81) (.const vB))] [[], [0], [1], [2], [3, 2], [2, 4]] false)
 (.cond (.tmp 82) (.seq (.region [opD 83 (.build 2 [vS, vS] []), onD (.store 2 (tD 4) (tD 83)), opD 5 (.mov (cD 83))] [[], [0, 0], [1, 0, 1]] false) .ret) .skip)) (.seq (.join ⟨[90], (.cons (.hole .bool) .nil), [], .nil, [2, 3, 4, 10], [0, 16, 32, 432, 496, 576]⟩
 (.region [mvD 84 8, mvD 85 84, ogD 86 85 true (.faddr 0 (tD 2)), ogD 87 85 true (.load false 1 (tD 86)), ogD 88 85 true (.len false (tD 87)), ogD 89 85 true (.bin .eql (tD 88) (cD 1)), opD 90 (.pick (tD 85) (tD 89) (.const vB))] [[], [0], [1], [2, 1], [3, 1], [4, 1], [1, 5]] false)
 (.cond (.tmp 90) (.seq (.region [opD 91 (.build 2 [vS, vS] []), onD (.store 2 (tD 4) (tD 91)), opD 5 (.mov (cD 84))] [[], [0, 0], [1, 0, 1]] false) .ret) .skip)) (.seq (.region [opD 92 (.faddr 0 (tD 2)), opD 93 (.load false 1 (tD 92)), opD 94 (.faddr 1 (tD 3)), opD 95 (.load false 1 (tD 94)), oqD 96 (.call 37 [(tD 93), (tD 95)]) (.ent (e37 fu)), opD 97 (.faddr 0 (tD 10)), onD (.store 1 (tD 97) (tD 96))] [[], [0], [], [2], [1, 3], [0, 1, 2, 3, 4], [5, 4, 4, 0, 1, 2, 3, 4]] false) (.region [opD 98 (.faddr 1 (tD 2)), opD 99 (.load false 1 (tD 98)), opD 100 (.faddr 1 (tD 3)), opD 101 (.load false 1 (tD 100)), oqD 102 (.call 37 [(tD 99), (tD 101)]) (.ent (e37 fu)), opD 103 (.faddr 1 (tD 10)), onD (.store 1 (tD 103) (tD 102))] [[], [0], [], [2], [1, 3], [0, 1, 2, 3, 4], [5, 4, 4, 0, 1, 2, 3, 4]] false)))) (.seq (.region [opD 44 (.build 2 [vS, vS] []), onD (.store 2 (tD 4) (tD 44)), opD 5 (.mov (cD 1))] [[], [0, 0], [1, 0, 1]] false) .ret))))))))) (.seq (.region [opD 104 (.load true 2 (tD 10)), onD (.store 2 (tD 4) (tD 104)), opD 5 (.mov (cD 0))] [[], [0, 0], [1, 0, 1]] false) .ret))))))))))
set_option maxRecDepth 1000000 in
theorem v19 (fu : Nat) : evF fu (d19 fu) rs19 105 (e19 fu).ash (e19 fu).osh (e19 fu).vsh = p19 fu := by kernel_rfl
set_option maxRecDepth 1000000 in
theorem b19 (fu : Nat) : BodyD Try.prog 19 105 (d19 fu).erase rs19 := bodyD_mk Try.func19 (by kernel_rfl) (by kernel_rfl) (by kernel_rfl) (by kernel_rfl)
theorem g19 (fu : Nat) : (e19 fu).Good Try.prog := good_by orders (b19 fu) (l := [e11 fu, e26 fu, e15 fu, e15 fu, e32 fu, e37 fu, e32 fu, e37 fu, e37 fu]) (by kernel_rfl) ⟨g11 fu, g26 fu, g15 fu, g15 fu, g32 fu, g37 fu, g32 fu, g37 fu, g37 fu, trivial⟩ (by kernel_rfl) (v19 fu)
def rs20 : List RVx := []
/-- gazette/gazettelaw08.spoil -/
def p20 (fu : Nat) : ((List (Int)) × ((List (Int)) × (Unit))) × (Unit) → Option (((Unit) × ((Unit) × (Unit))) × (Unit)) := fun ⟨⟨a, c, _⟩, _⟩ =>
bif decide (List.length a = List.length a) then
 bif decide (List.length c = List.length c) then
 loopO (S := ((Int) × (Unit)) × (((List (Int)) × ((List (Int)) × (Unit))) × (Unit))) fu (fun ⟨⟨f, _⟩, ⟨⟨h, i, _⟩, _⟩⟩ =>
 bif decide (f < ((List.length h) : Int)) then
 bif decide ((0 : Int) ≤ f ∧ f < (List.length h : Int)) then
 bif decide (Int.toNat f < List.length h) then
 bif decide (List.length h = List.length (List.set h (Int.toNat f) (99 : Int))) then
 bif decide (List.length i = List.length i) then
 some (.inl ((IntKind.wrap .i64 (f + (1 : Int)), ()), (((List.set h (Int.toNat f) (99 : Int)), i, ()), ())))
 else none
 else none
 else none
 else none
 else
 inrO (bif decide (List.length h = List.length h) then
 bif decide (List.length i = List.length i) then
 loopO (S := ((Int) × (Unit)) × (((List (Int)) × ((List (Int)) × (Unit))) × (Unit))) fu (fun ⟨⟨j, _⟩, ⟨⟨h, i, _⟩, _⟩⟩ =>
 bif decide (j < ((List.length i) : Int)) then
 bif decide ((0 : Int) ≤ j ∧ j < (List.length i : Int)) then
 bif decide (Int.toNat j < List.length i) then
 bif decide (List.length h = List.length h) then
 bif decide (List.length i = List.length (List.set i (Int.toNat j) (99 : Int))) then
 some (.inl ((IntKind.wrap .i64 (j + (1 : Int)), ()), ((h, (List.set i (Int.toNat j) (99 : Int)), ()), ())))
 else none
 else none
 else none
 else none
 else
 inrO (some (((), (), ()), ())))
 (((0 : Int), ()), ((h, i, ()), ()))
 else none
 else none))
 (((0 : Int), ()), ((a, c, ()), ()))
 else none
else none
def e20 (fu : Nat) : Ent := ⟨20, (.cons (.agg 2 (.cons (.own .own 3 (.int .i64)) (.cons (.own .own 3 (.int .i64)) .nil))) .nil), (.cons .dead (.cons .dead .nil)), (.tup 0 .nil), p20 fu⟩
def d20 (_ : Nat) : DC := (.seq (.region [opD 1 (.box 24 2 (tD 0))] [[]] false) (.seq (.seq (.region [opD 2 (.mov (cD 0))] [[]] false) (.block 0 (.loop ⟨[2], (.cons (.hole (.int .i64)) .nil), [(4, 24, 2)], (.cons (.agg 2 (.cons (.own .own 3 (.int .i64)) (.cons (.own .own 3 (.int .i64)) .nil))) .nil), [1], [0, 1]⟩
 (.seq (.seq (.region [mvD 4 2, opD 5 (.faddr 0 (tD 1)), opD 6 (.load false 1 (tD 5)), opD 7 (.len false (tD 6)), opD 8 (.bin .lss (tD 4) (tD 7))] [[], [], [1], [2], [0, 3]] false) (.cond (.tmp 8) .skip (.exit 0))) (.seq (.block 1 (.region [opD 11 (.faddr 0 (tD 1)), opD 12 (.load false 1 (tD 11)), mvD 13 2, opD 14 (.iaddr 1 (tD 12) (tD 13)), onD (.store 1 (tD 14) (cD 99))] [[], [0], [], [1, 2, 0, 1, 2], [3, 0, 1, 2]] false)) (.region [mvD 9 2, opD 10 (.bin .add (tD 9) (cD 1)), mvD 2 10] [[], [0], [1, 0, 1]] false)))))) (.seq (.region [opD 3 (.mov (cD 0))] [[]] false) (.block 2 (.loop ⟨[3], (.cons (.hole (.int .i64)) .nil), [(4, 24, 2)], (.cons (.agg 2 (.cons (.own .own 3 (.int .i64)) (.cons (.own .own 3 (.int .i64)) .nil))) .nil), [1], [0, 1]⟩
 (.seq (.seq (.region [mvD 15 3, opD 16 (.faddr 1 (tD 1)), opD 17 (.load false 1 (tD 16)), opD 18 (.len false (tD 17)), opD 19 (.bin .lss (tD 15) (tD 18))] [[], [], [1], [2], [0, 3]] false) (.cond (.tmp 19) .skip (.exit 2))) (.seq (.block 3 (.region [opD 22 (.faddr 1 (tD 1)), opD 23 (.load false 1 (tD 22)), mvD 24 3, opD 25 (.iaddr 1 (tD 23) (tD 24)), onD (.store 1 (tD 25) (cD 99))] [[], [0], [], [1, 2, 0, 1, 2], [3, 0, 1, 2]] false)) (.region [mvD 20 3, opD 21 (.bin .add (tD 20) (cD 1)), mvD 3 21] [[], [0], [1, 0, 1]] false))))))))
set_option maxRecDepth 1000000 in
theorem v20 (fu : Nat) : evF fu (d20 fu) rs20 26 (e20 fu).ash (e20 fu).osh (e20 fu).vsh = p20 fu := by kernel_rfl
set_option maxRecDepth 1000000 in
theorem b20 (fu : Nat) : BodyD Try.prog 20 26 (d20 fu).erase rs20 := bodyD_mk Try.func20 (by kernel_rfl) (by kernel_rfl) (by kernel_rfl) (by kernel_rfl)
theorem g20 (fu : Nat) : (e20 fu).Good Try.prog := good_by orders (b20 fu) (l := []) (by kernel_rfl) trivial (by kernel_rfl) (v20 fu)
def rs4 : List RVx := [(.tmp 4)]
/-- gazette/gazettelaw08.RaftconfApplies -/
def p4 (fu : Nat) : ((List (Int)) × ((List (Int)) × (Unit))) × ((List (D_api_Change)) × (Unit)) → Option ((Unit) × (Bool)) := fun ⟨⟨a, c, _⟩, f, _⟩ =>
Option.bind (p8 fu ()) fun ⟨_, h⟩ =>
Option.bind (p9 fu ((a, c, ()), ())) fun ⟨_, ⟨i, j, _⟩⟩ =>
loopO (S := ((Int) × (Unit)) × (Unit)) fu (fun ⟨⟨k, _⟩, _⟩ =>
 bif decide (k < (List.length f : Int)) then
 bif decide ((0 : Int) ≤ k ∧ k < (List.length f : Int)) then
 bif decide (Int.toNat k < List.length f) then
 bif decide (List.length i = List.length i) then
 bif decide (List.length j = List.length j) then
 Option.bind (p18 fu ((i, j, ()), ((List.getD f (Int.toNat k) (dflt T_api_Change)).1, (List.getD f (Int.toNat k) (dflt T_api_Change)).2, ()), ())) fun ⟨_, ⟨⟨l, m, _⟩, n, _⟩⟩ =>
 bif decide ((0 : Int) ≤ k ∧ k < (List.length f : Int)) then
 bif decide (Int.toNat k < List.length f) then
 Option.bind (p19 fu ((a, c, ()), ((List.getD f (Int.toNat k) (dflt T_api_Change)).1, (List.getD f (Int.toNat k) (dflt T_api_Change)).2, ()), ())) fun ⟨_, ⟨⟨o, q, _⟩, s, _⟩⟩ =>
 bif decide (List.length l = List.length l) then
 bif decide (List.length m = List.length m) then
 bif decide (List.length o = List.length o) then
 bif decide (List.length q = List.length q) then
 Option.bind (p17 fu ((l, m, ()), (o, q, ()), ())) fun ⟨_, t⟩ =>
 bif decide (List.length l = List.length l) then
 bif decide (List.length m = List.length m) then
 Option.bind (p20 fu ((l, m, ()), ())) fun ⟨⟨_, _, _⟩, _⟩ =>
 bif !t then
 inrO (some ((), false))
 else
 bif (n != s) then
 inrO (some ((), false))
 else
 bif decide (List.length i = List.length i) then
 bif decide (List.length j = List.length j) then
 Option.bind (p17 fu ((i, j, ()), (a, c, ()), ())) fun ⟨_, u⟩ =>
 bif !u then
 inrO (some ((), false))
 else
 some (.inl ((IntKind.wrap .i64 (k + (1 : Int)), ()), ()))
 else none
 else none
 else none
 else none
 else none
 else none
 else none
 else none
 else none
 else none
 else none
 else none
 else none
 else none
 else
 inrO (some ((), h)))
 (((0 : Int), ()), ())
def e4 (fu : Nat) : Ent := ⟨4, (.cons (.agg 2 (.cons (.hole (.sl (.int .i64))) (.cons (.hole (.sl (.int .i64))) .nil))) (.cons (.hole (.sl T_api_Change)) .nil)), .nil, (.hole .bool), p4 fu⟩
def d4 (fu : Nat) : DC := (.seq (.region [opD 2 (.box 24 2 (tD 0)), opD 4 (.mov (.const vB))] [[], []] false) (.seq (.region [oqD 13 (.call 8 []) (.ent (e8 fu)), mvD 5 13] [[], [0, 0, 0]] false) (.seq (.region [opD 14 (.load true 2 (tD 2)), oqD 15 (.call 9 [(tD 14)]) (.ent (e9 fu)), opD 6 (.alloc 24 2 [vS, vS]), onD (.store 2 (tD 6) (tD 15))] [[], [0], [], [2, 1, 1, 0, 1, 2]] false) (.seq (.seq (.region [opD 7 (.mov (cD 0))] [[]] false) (.block 0 (.loop ⟨[7], (.cons (.hole (.int .i64)) .nil), [], .nil, [1, 2, 5, 6], [0, 80, 81, 96]⟩
 (.seq (.seq (.region [mvD 16 7, mvD 17 1, opD 18 (.len false (tD 17)), opD 19 (.bin .lss (tD 16) (tD 18))] [[], [], [1], [0, 2]] false) (.cond (.tmp 19) .skip (.exit 0))) (.seq (.block 1 (.seq (.region [opD 23 (.load true 2 (tD 6)), mvD 24 1, mvD 25 7, opD 26 (.iaddr 2 (tD 24) (tD 25)), opD 27 (.load true 2 (tD 26)), oqD 28 (.call 18 [(tD 23), (tD 27)]) (.ent (e18 fu)), mvD 22 28, opD 29 (.ext (tD 22) 0), opD 30 (.ext (tD 22) 1), opD 8 (.alloc 24 2 [vS, vS]), onD (.store 2 (tD 8) (tD 29)), mvD 9 30] [[], [], [], [1, 2], [3], [0, 4], [5], [6], [6], [], [9, 7, 5, 0, 1, 2, 3, 4, 5, 6, 7, 9], [8, 10, 0, 1, 2, 3, 4, 5, 6, 7, 8, 9, 10]] true) (.seq (.region [opD 32 (.load true 2 (tD 2)), mvD 33 1, mvD 34 7, opD 35 (.iaddr 2 (tD 33) (tD 34)), opD 36 (.load true 2 (tD 35)), oqD 37 (.call 19 [(tD 32), (tD 36)]) (.ent (e19 fu)), mvD 31 37, opD 38 (.ext (tD 31) 0), opD 39 (.ext (tD 31) 1), opD 10 (.alloc 24 2 [vS, vS]), onD (.store 2 (tD 10) (tD 38)), mvD 11 39] [[], [], [], [1, 2], [3], [0, 4], [5], [6], [6], [], [9, 7, 5, 0, 1, 2, 3, 4, 5, 6, 7, 9], [8, 10, 0, 1, 2, 3, 4, 5, 6, 7, 8, 9, 10]] true) (.seq (.region [opD 40 (.load true 2 (tD 8)), opD 41 (.load true 2 (tD 10)), oqD 42 (.call 17 [(tD 40), (tD 41)]) (.ent (e17 fu)), mvD 12 42] [[], [], [0, 1], [2, 2, 0, 1, 2]] false) (.seq (.region [opD 43 (.load true 2 (tD 8)), oqD 44 (.call 20 [(tD 43)]) (.ent (e20 fu))] [[], [0]] false) (.seq (.region [mvD 45 12, opD 46 (.not (tD 45)), mvD 47 46, ogD 48 47 false (.mov (tD 9)), ogD 49 47 false (.mov (tD 11)), ogD 50 47 false (.bin .neq (tD 48) (tD 49)), opD 51 (.pick (tD 47) (.const (.bool true)) (tD 50)), mvD 52 51, ogD 53 52 false (.load true 2 (tD 6)), ogD 54 52 false (.load true 2 (tD 2)), (⟨(some 55), (some (52, false)), (.call 17 [(tD 53), (tD 54)])⟩, (.ent (e17 fu))), ogD 56 52 false (.not (tD 55)), opD 57 (.pick (tD 52) (.const (.bool true)) (tD 56))] [[], [0], [1], [2], [2], [3, 4, 2], [2, 5], [6, 2], [7], [7], [8, 9, 7, 7], [10, 7], [7, 11]] false) (.cond (.tmp 57) (.seq (.region [opD 4 (.mov (.const vB))] [[]] false) .ret) .skip))))))) (.region [mvD 20 7, opD 21 (.bin .add (tD 20) (cD 1)), mvD 7 21] [[], [0], [1, 0, 1]] false)))))) (.seq (.region [mvD 58 5, mvD 4 58] [[], [0, 0]] false) .ret)))))
set_option maxRecDepth 1000000 in
theorem v4 (fu : Nat) : evF fu (d4 fu) rs4 59 (e4 fu).ash (e4 fu).osh (e4 fu).vsh = p4 fu := by kernel_rfl
set_option maxRecDepth 1000000 in
theorem b4 (fu : Nat) : BodyD Try.prog 4 59 (d4 fu).erase rs4 := bodyD_mk Try.func4 (by kernel_rfl) (by kernel_rfl) (by kernel_rfl) (by kernel_rfl)
theorem g4 (fu : Nat) : (e4 fu).Good Try.prog := good_by orders (b4 fu) (l := [e8 fu, e9 fu, e18 fu, e19 fu, e17 fu, e20 fu, e17 fu]) (by kernel_rfl) ⟨g8 fu, g9 fu, g18 fu, g19 fu, g17 fu, g20 fu, g17 fu, trivial⟩ (by kernel_rfl) (v4 fu)
def rs53 : List RVx := [(.tmp 2)]
/-- slices.Clone[[]int,int] -/
def p53 (_ : Nat) : (List (Int)) × (Unit) → Option ((Unit) × (List (Int))) := fun ⟨a, _⟩ =>
bif decide (0 < List.length a) then
 bif decide (0 = List.length ([] : List (Int))) then
 bif decide (List.length ([] : List (Int)) + List.length a ≤ maxLen ∧ (List.length ([] : List (Int)) + List.length a) * 8 ≤ 140737488355328) then
 bif decide (List.length (([] : List (Int)) ++ a) = List.length (([] : List (Int)) ++ a)) then
 some ((), (([] : List (Int)) ++ a))
 else none
 else none
 else none
else
 both (prodQ (denQ .unit) (denQ (.sl (.int .i64))))
 (some ((), []))
 (bif decide (0 = List.length ([] : List (Int))) then
 bif decide (List.length ([] : List (Int)) + List.length a ≤ maxLen ∧ (List.length ([] : List (Int)) + List.length a) * 8 ≤ 140737488355328) then
 bif decide (List.length (([] : List (Int)) ++ a) = List.length (([] : List (Int)) ++ a)) then
 some ((), (([] : List (Int)) ++ a))
 else none
 else none
 else none)
def e53 (fu : Nat) : Ent := ⟨53, (.cons (.hole (.sl (.int .i64))) .nil), .nil, (.own .own 3 (.int .i64)), p53 fu⟩
def d53 (_ : Nat) : DC := (.seq (.region [opD 2 (.mov (.const vS))] [[]] false) (.seq (.seq (.region [mvD 3 0, opD 4 (.pure (.nilq 3 false) [(tD 3)])] [[], [0]] false) (.cond (.tmp 4) (.seq (.region [opD 2 (.mov (.const vS))] [[]] false) .ret) .skip)) (.seq (.region [oqD 5 (.bslice 3 1 0 [vI] []) (.ty (.int .i64)), mvD 6 0, oqD 7 (.app 3 1 [vI] 8 (tD 5) (tD 6)) (.ty (.int .i64)), mvD 2 7] [[], [], [0, 1], [2, 2, 0, 1, 2]] false) .ret)))
set_option maxRecDepth 1000000 in
theorem v53 (fu : Nat) : evF fu (d53 fu) rs53 8 (e53 fu).ash (e53 fu).osh (e53 fu).vsh = p53 fu := by kernel_rfl
set_option maxRecDepth 1000000 in
theorem b53 (fu : Nat) : BodyD Try.prog 53 8 (d53 fu).erase rs53 := bodyD_mk Try.func53 (by kernel_rfl) (by kernel_rfl) (by kernel_rfl) (by kernel_rfl)
theorem g53 (fu : Nat) : (e53 fu).Good Try.prog := good_by orders (b53 fu) (l := []) (by kernel_rfl) trivial (by kernel_rfl) (v53 fu)
def rs38 : List RVx := [(.tmp 2)]
/-- gazette/quorum.distinct -/
def p38 (fu : Nat) : (List (Int)) × (Unit) → Option ((Unit) × (List (Int))) := fun ⟨a, _⟩ =>
Option.bind (p53 fu (a, ())) fun ⟨_, c⟩ =>
bif decide (List.length c = List.length c) then
 Option.bind (pSort fu (c, ())) fun ⟨⟨f, _⟩, _⟩ =>
 bif decide (List.length c = List.length f) then
 Option.bind (pCompact fu (f, ())) fun ⟨⟨_, _⟩, h⟩ =>
 bif decide (List.length h = List.length h) then
 some ((), h)
 else none
 else none
else none
def e38 (fu : Nat) : Ent := ⟨38, (.cons (.hole (.sl (.int .i64))) .nil), .nil, (.own .own 3 (.int .i64)), p38 fu⟩
def d38 (fu : Nat) : DC := (.seq (.region [opD 2 (.mov (.const vS))] [[]] false) (.seq (.region [mvD 4 0, oqD 5 (.call 53 [(tD 4)]) (.ent (e53 fu)), mvD 3 5] [[], [0], [1, 1, 0, 1]] false) (.seq (.region [mvD 6 3, oqD 7 (.call 29 [(tD 6)]) (.ent (eSort fu))] [[], [0]] false) (.seq (.region [mvD 8 3, oqD 9 (.call 31 [(tD 8)]) (.ent (eCompact fu)), mvD 2 9] [[], [0], [1, 1, 0, 1]] false) .ret))))
set_option maxRecDepth 1000000 in
theorem v38 (fu : Nat) : evF fu (d38 fu) rs38 10 (e38 fu).ash (e38 fu).osh (e38 fu).vsh = p38 fu := by kernel_rfl
set_option maxRecDepth 1000000 in
theorem b38 (fu : Nat) : BodyD Try.prog 38 10 (d38 fu).erase rs38 := bodyD_mk Try.func38 (by kernel_rfl) (by kernel_rfl) (by kernel_rfl) (by kernel_rfl)
theorem g38 (fu : Nat) : (e38 fu).Good Try.prog := good_by orders (b38 fu) (l := [e53 fu, eSort fu, eCompact fu]) (by kernel_rfl) ⟨g53 fu, gSort fu, gCompact fu, trivial⟩ (by kernel_rfl) (v38 fu)
def rs40 : List RVx := [(.tmp 2)]
/-- gazette/quorum.Has$1 -/
def p40 (_ : Nat) : (Int) × (Unit) → Option ((Unit) × (Int)) := fun ⟨a, _⟩ =>
some ((), a)
def e40 (fu : Nat) : Ent := ⟨40, (.cons (.hole (.int .i64)) .nil), .nil, (.hole (.int .i64)), p40 fu⟩
def d40 (_ : Nat) : DC := (.seq (.region [opD 2 (.mov (cD 0))] [[]] false) (.seq (.region [mvD 3 0, mvD 2 3] [[], [0, 0]] false) .ret))
set_option maxRecDepth 1000000 in
theorem v40 (fu : Nat) : evF fu (d40 fu) rs40 4 (e40 fu).ash (e40 fu).osh (e40 fu).vsh = p40 fu := by kernel_rfl
set_option maxRecDepth 1000000 in
theorem b40 (fu : Nat) : BodyD Try.prog 40 4 (d40 fu).erase rs40 := bodyD_mk Try.func40 (by kernel_rfl) (by kernel_rfl) (by kernel_rfl) (by kernel_rfl)
theorem g40 (fu : Nat) : (e40 fu).Good Try.prog := good_by orders (b40 fu) (l := []) (by kernel_rfl) trivial (by kernel_rfl) (v40 fu)
def rs41 : List RVx := [(.tmp 4)]
/-- gazette/quorum.first[int] -/
def p41 (_ : Nat) : (Int) × ((Int) × (Unit)) → Option ((Unit) × (Int)) := fun ⟨a, _, _⟩ =>
some ((), a)
def e41 (fu : Nat) : Ent := ⟨41, (.cons (.hole (.int .i64)) (.cons (.hole (.int .i64)) .nil)), .nil, (.hole (.int .i64)), p41 fu⟩
def d41 (_ : Nat) : DC := (.seq (.region [opD 4 (.mov (cD 0))] [[]] false) (.seq (.region [mvD 5 0, mvD 4 5] [[], [0, 0]] false) .ret))
set_option maxRecDepth 1000000 in
theorem v41 (fu : Nat) : evF fu (d41 fu) rs41 6 (e41 fu).ash (e41 fu).osh (e41 fu).vsh = p41 fu := by kernel_rfl
set_option maxRecDepth 1000000 in
theorem b41 (fu : Nat) : BodyD Try.prog 41 6 (d41 fu).erase rs41 := bodyD_mk Try.func41 (by kernel_rfl) (by kernel_rfl) (by kernel_rfl) (by kernel_rfl)
theorem g41 (fu : Nat) : (e41 fu).Good Try.prog := good_by orders (b41 fu) (l := []) (by kernel_rfl) trivial (by kernel_rfl) (v41 fu)
def rs39 : List RVx := [(.tmp 6)]
/-- gazette/quorum.byNode[int] -/
def p39 (fu : Nat) : (List (Int)) × (((Unit) × (Unit)) × (((Unit) × (Unit)) × (Unit))) → Option ((Unit) × (List (D_api_Change))) := fun ⟨a, ⟨_, _⟩, ⟨_, _⟩, _⟩ =>
loopO (S := ((List (D_api_Change)) × ((Int) × (Unit))) × (Unit)) fu (fun ⟨⟨c, f, _⟩, _⟩ =>
 bif decide (f < (List.length a : Int)) then
 bif decide ((0 : Int) ≤ f ∧ f < (List.length a : Int)) then
 bif decide (Int.toNat f < List.length a) then
 Option.bind (p40 fu ((List.getD a (Int.toNat f) (dflt (.int .i64))), ())) fun ⟨_, h⟩ =>
 orK (E := ((Int) × (Unit)) × (Unit))
 (bif hasM (.int .i64) c h then
 Option.bind (p41 fu ((Option.getD (lookM (.int .i64) c h) (0 : Int)), (List.getD a (Int.toNat f) (dflt (.int .i64))), ())) fun ⟨_, i⟩ =>
 some (.inl ((i, ()), ()))
 else
 some (.inl (((List.getD a (Int.toNat f) (dflt (.int .i64))), ()), ())))
 fun ⟨⟨j, _⟩, _⟩ =>
 some (.inl (((setM (.int .i64) c h j), IntKind.wrap .i64 (f + (1 : Int)), ()), ()))
 else none
 else none
 else
 inrO (some ((), c)))
 ((([] : List (Int × Int)), (0 : Int), ()), ())
def e39 (fu : Nat) : Ent := ⟨39, (.cons (.hole (.sl (.int .i64))) (.cons (.clo 40 0 .nil 0 .nil) (.cons (.clo 41 0 .nil 0 .nil) .nil))), .nil, (.mown false (.int .i64) (.int .i64)), p39 fu⟩
def d39 (fu : Nat) : DC := (.seq (.region [opD 6 (.mov (.const (.map none)))] [[]] false) (.seq (.region [mvD 13 0, opD 14 (.len false (tD 13)), oqD 15 (.mkmap 56 false 1 (some (tD 14))) (.ty (.pair (.int .i64) (.int .i64))), mvD 7 15] [[], [0], [1], [2, 0, 1, 2]] false) (.seq (.seq (.region [mvD 16 0, opD 17 (.len false (tD 16)), opD 18 (.mov (cD 0))] [[], [0], []] false) (.block 0 (.loop ⟨[7, 18], (.cons (.mown false (.int .i64) (.int .i64)) (.cons (.hole (.int .i64)) .nil)), [], .nil, [1, 2, 16, 17], []⟩
 (.seq (.region [opD 19 (.bin .lss (tD 18) (tD 17))] [[]] false) (.seq (.cond (.tmp 19) .skip (.exit 0)) (.seq (.block 1 (.seq (.region [opD 20 (.iaddr 1 (tD 16) (tD 18)), opD 21 (.load false 1 (tD 20)), mvD 9 21] [[], [0], [1, 0, 1]] false) (.seq (.region [mvD 22 1, mvD 23 9, oqD 24 (.callv (tD 22) [(tD 23)]) (.ent (e40 fu)), mvD 10 24] [[], [], [0, 1], [2, 2, 0, 1, 2]] false) (.join ⟨[9], (.cons (.hole (.int .i64)) .nil), [], .nil, [1, 2, 7, 10, 16, 17, 18], [128]⟩
 (.seq (.region [mvD 26 7, mvD 27 10, opD 28 (.mlook (.int .i64) true false 1 [vI] (tD 26) (tD 27)), mvD 25 28, opD 29 (.ext (tD 25) 0), opD 30 (.ext (tD 25) 1), mvD 11 29, mvD 12 30] [[], [], [0, 1], [2], [3], [3], [4, 0, 1, 2, 3, 4], [5, 6, 0, 1, 2, 3, 4, 5, 6]] false) (.seq (.region [mvD 31 12] [[]] false) (.cond (.tmp 31) (.region [mvD 32 2, mvD 33 11, mvD 34 9, oqD 35 (.callv (tD 32) [(tD 33), (tD 34)]) (.ent (e41 fu)), mvD 9 35] [[], [], [], [0, 1, 2], [3, 3, 0, 1, 2, 3]] false) .skip)))
 (.region [mvD 36 7, mvD 37 10, mvD 38 9, onD (.mset (.int .i64) false 1 (tD 36) (tD 37) (tD 38))] [[], [], [], [0, 1, 2, 0, 1, 2]] false))))) (.region [opD 39 (.bin .add (tD 18) (cD 1)), mvD 18 39] [[], [0]] false))))))) (.seq (.region [mvD 40 7, mvD 6 40] [[], [0, 0]] false) .ret))))
set_option maxRecDepth 1000000 in
theorem v39 (fu : Nat) : evF fu (d39 fu) rs39 41 (e39 fu).ash (e39 fu).osh (e39 fu).vsh = p39 fu := by kernel_rfl
set_option maxRecDepth 1000000 in
theorem b39 (fu : Nat) : BodyD Try.prog 39 41 (d39 fu).erase rs39 := bodyD_mk Try.func39 (by kernel_rfl) (by kernel_rfl) (by kernel_rfl) (by kernel_rfl)
theorem g39 (fu : Nat) : (e39 fu).Good Try.prog := good_by orders (b39 fu) (l := [e40 fu, e41 fu]) (by kernel_rfl) ⟨g40 fu, g41 fu, trivial⟩ (by kernel_rfl) (v39 fu)
def rs42 : List RVx := [(.tmp 2)]
/-- gazette/quorum.Most -/
def p42 (_ : Nat) : (Int) × (Unit) → Option ((Unit) × (Int)) := fun ⟨a, _⟩ =>
bif decide (a < (1 : Int)) then
 some ((), (0 : Int))
else
 some ((), IntKind.wrap .i64 ((IntKind.wrap .i64 (Int.tdiv a (2 : Int))) + (1 : Int)))
def e42 (fu : Nat) : Ent := ⟨42, (.cons (.hole (.int .i64)) .nil), .nil, (.hole (.int .i64)), p42 fu⟩
def d42 (_ : Nat) : DC := (.seq (.region [opD 2 (.mov (cD 0))] [[]] false) (.seq (.seq (.region [mvD 3 0, opD 4 (.bin .lss (tD 3) (cD 1))] [[], [0]] false) (.cond (.tmp 4) (.seq (.region [opD 2 (.mov (cD 0))] [[]] false) .ret) .skip)) (.seq (.region [mvD 5 0, opD 6 (.bin .quo (tD 5) (cD 2)), opD 7 (.bin .add (tD 6) (cD 1)), mvD 2 7] [[], [0], [1], [2, 0, 1, 2]] false) .ret)))
set_option maxRecDepth 1000000 in
theorem v42 (fu : Nat) : evF fu (d42 fu) rs42 8 (e42 fu).ash (e42 fu).osh (e42 fu).vsh = p42 fu := by kernel_rfl
set_option maxRecDepth 1000000 in
theorem b42 (fu : Nat) : BodyD Try.prog 42 8 (d42 fu).erase rs42 := bodyD_mk Try.func42 (by kernel_rfl) (by kernel_rfl) (by kernel_rfl) (by kernel_rfl)
theorem g42 (fu : Nat) : (e42 fu).Good Try.prog := good_by orders (b42 fu) (l := []) (by kernel_rfl) trivial (by kernel_rfl) (v42 fu)
def rs21 : List RVx := [(.tmp 4)]
/-- gazette/quorum.Has -/
def p21 (fu : Nat) : (List (Int)) × ((List (Int)) × (Unit)) → Option ((Unit) × (Bool)) := fun ⟨a, c, _⟩ =>
Option.bind (p38 fu (a, ())) fun ⟨_, f⟩ =>
Option.bind (p39 fu (c, ((), ()), ((), ()), ())) fun ⟨_, h⟩ =>
loopO (S := ((Int) × ((Int) × (Unit))) × (Unit)) fu (fun ⟨⟨i, j, _⟩, _⟩ =>
 bif decide (j < ((List.length f) : Int)) then
 bif decide ((0 : Int) ≤ j ∧ j < (List.length f : Int)) then
 bif decide (Int.toNat j < List.length f) then
 bif hasM (.int .i64) h (List.getD f (Int.toNat j) (dflt (.int .i64))) then
 some (.inl ((IntKind.wrap .i64 (i + (1 : Int)), IntKind.wrap .i64 (j + (1 : Int)), ()), ()))
 else
 some (.inl ((i, IntKind.wrap .i64 (j + (1 : Int)), ()), ()))
 else none
 else none
 else
 inrO (bif decide (((List.length f) : Int) > (0 : Int)) then
 Option.bind (p42 fu (((List.length f) : Int), ())) fun ⟨_, k⟩ =>
 some ((), decide (i ≥ k))
 else
 some ((), false)))
 (((0 : Int), (0 : Int), ()), ())
def e21 (fu : Nat) : Ent := ⟨21, (.cons (.hole (.sl (.int .i64))) (.cons (.hole (.sl (.int .i64))) .nil)), .nil, (.hole .bool), p21 fu⟩
def d21 (fu : Nat) : DC := (.seq (.region [opD 4 (.mov (.const vB))] [[]] false) (.seq (.region [mvD 12 0, oqD 13 (.call 38 [(tD 12)]) (.ent (e38 fu)), mvD 5 13] [[], [0], [1, 1, 0, 1]] false) (.seq (.region [mvD 14 1, oqD 15 (.call 39 [(tD 14), (.func 40), (.func 41)]) (.ent (e39 fu)), mvD 6 15] [[], [0], [1, 1, 0, 1]] false) (.seq (.region [opD 7 (.mov (cD 0))] [[]] false) (.seq (.seq (.region [mvD 16 5, opD 17 (.len false (tD 16)), opD 18 (.mov (cD 0))] [[], [0], []] false) (.block 0 (.loop ⟨[7, 18], (.cons (.hole (.int .i64)) (.cons (.hole (.int .i64)) .nil)), [], .nil, [5, 6, 16, 17], [32, 80]⟩
 (.seq (.region [opD 19 (.bin .lss (tD 18) (tD 17))] [[]] false) (.seq (.cond (.tmp 19) .skip (.exit 0)) (.seq (.block 1 (.seq (.region [opD 20 (.iaddr 1 (tD 16) (tD 18)), opD 21 (.load false 1 (tD 20)), mvD 9 21] [[], [0], [1, 0, 1]] false) (.seq (.region [mvD 23 6, mvD 24 9, opD 25 (.mlook (.int .i64) true false 1 [vI] (tD 23) (tD 24)), mvD 22 25, opD 26 (.ext (tD 22) 0), opD 27 (.ext (tD 22) 1), mvD 10 26, mvD 11 27] [[], [], [0, 1], [2], [3], [3], [4, 0, 1, 2, 3, 4], [5, 6, 0, 1, 2, 3, 4, 5, 6]] false) (.seq (.region [mvD 28 11] [[]] false) (.cond (.tmp 28) (.region [mvD 29 7, opD 30 (.bin .add (tD 29) (cD 1)), mvD 7 30] [[], [0], [1, 0, 1]] false) .skip))))) (.region [opD 31 (.bin .add (tD 18) (cD 1)), mvD 18 31] [[], [0]] false))))))) (.seq (.region [mvD 32 5, opD 33 (.len false (tD 32)), opD 34 (.bin .gtr (tD 33) (cD 0)), mvD 35 34, ogD 36 35 true (.mov (tD 7)), ogD 37 35 true (.mov (tD 5)), ogD 38 35 true (.len false (tD 37)), (⟨(some 39), (some (35, true)), (.call 42 [(tD 38)])⟩, (.ent (e42 fu))), ogD 40 35 true (.bin .geq (tD 36) (tD 39)), opD 41 (.pick (tD 35) (tD 40) (.const vB)), mvD 4 41] [[], [0], [1], [2], [3], [3], [5, 3], [6, 3, 3], [4, 7, 3], [3, 8], [9, 7, 0, 1, 2, 3, 4, 5, 6, 7, 8, 9]] false) .ret))))))
set_option maxRecDepth 1000000 in
theorem v21 (fu : Nat) : evF fu (d21 fu) rs21 42 (e21 fu).ash (e21 fu).osh (e21 fu).vsh = p21 fu := by kernel_rfl
set_option maxRecDepth 1000000 in
theorem b21 (fu : Nat) : BodyD Try.prog 21 42 (d21 fu).erase rs21 := bodyD_mk Try.func21 (by kernel_rfl) (by kernel_rfl) (by kernel_rfl) (by kernel_rfl)
theorem g21 (fu : Nat) : (e21 fu).Good Try.prog := good_by orders (b21 fu) (l := [e38 fu, e39 fu, e42 fu]) (by kernel_rfl) ⟨g38 fu, g39 fu, g42 fu, trivial⟩ (by kernel_rfl) (v21 fu)
def rs5 : List RVx := [(.tmp 8)]
/-- gazette/gazettelaw08.RaftconfMeets -/
def p5 (fu : Nat) : ((List (Int)) × ((List (Int)) × (Unit))) × (((Int) × ((Int) × (Unit))) × ((List (Int)) × ((List (Int)) × (Unit)))) → Option ((Unit) × (Bool)) := fun ⟨⟨a, c, _⟩, ⟨f, h, _⟩, i, j, _⟩ =>
Option.bind (p8 fu ()) fun ⟨_, k⟩ =>
Option.bind (p18 fu ((a, c, ()), (f, h, ()), ())) fun ⟨_, ⟨⟨l, m, _⟩, n, _⟩⟩ =>
bif !k then
 some ((), k)
else
 bif (n != (0 : Int)) then
 some ((), k)
 else
 bif decide (List.length l = List.length l) then
 bif decide (List.length m = List.length m) then
 Option.bind (p10 fu ((l, m, ()), ())) fun ⟨_, o⟩ =>
 bif (o != (0 : Int)) then
 some ((), false)
 else
 Option.bind (p21 fu (a, i, ())) fun ⟨_, q⟩ =>
 bif !q then
 some ((), true)
 else
 bif decide (List.length l = List.length l) then
 Option.bind (p21 fu (l, j, ())) fun ⟨_, s⟩ =>
 bif !s then
 some ((), true)
 else
 loopO (S := ((Int) × (Unit)) × (Unit)) fu (fun ⟨⟨t, _⟩, _⟩ =>
 bif decide (t < (List.length i : Int)) then
 loopO (S := ((Int) × (Unit)) × (Unit)) fu (fun ⟨⟨u, _⟩, _⟩ =>
 bif decide (u < (List.length j : Int)) then
 bif decide ((0 : Int) ≤ t ∧ t < (List.length i : Int)) then
 bif decide (Int.toNat t < List.length i) then
 bif decide ((0 : Int) ≤ u ∧ u < (List.length j : Int)) then
 bif decide (Int.toNat u < List.length j) then
 bif ((List.getD i (Int.toNat t) (dflt (.int .i64))) == (List.getD j (Int.toNat u) (dflt (.int .i64)))) then
 inrO (inrO (some ((), true)))
 else
 some (.inl ((IntKind.wrap .i64 (u + (1 : Int)), ()), ()))
 else none
 else none
 else none
 else none
 else
 inrO (some (.inl ((IntKind.wrap .i64 (t + (1 : Int)), ()), ()))))
 (((0 : Int), ()), ())
 else
 inrO (some ((), false)))
 (((0 : Int), ()), ())
 else none
 else none
 else none
def e5 (fu : Nat) : Ent := ⟨5, (.cons (.agg 2 (.cons (.hole (.sl (.int .i64))) (.cons (.hole (.sl (.int .i64))) .nil))) (.cons (.agg 2 (.cons (.hole (.int .i64)) (.cons (.hole (.int .i64)) .nil))) (.cons (.hole (.sl (.int .i64))) (.cons (.hole (.sl (.int .i64))) .nil)))), .nil, (.hole .bool), p5 fu⟩
def d5 (fu : Nat) : DC := (.seq (.region [opD 4 (.box 24 2 (tD 0)), opD 5 (.box 39 2 (tD 1)), opD 8 (.mov (.const vB))] [[], [], []] false) (.seq (.region [oqD 14 (.call 8 []) (.ent (e8 fu)), mvD 9 14] [[], [0, 0, 0]] false) (.seq (.region [opD 16 (.load true 2 (tD 4)), opD 17 (.load true 2 (tD 5)), oqD 18 (.call 18 [(tD 16), (tD 17)]) (.ent (e18 fu)), mvD 15 18, opD 19 (.ext (tD 15) 0), opD 20 (.ext (tD 15) 1), opD 10 (.alloc 24 2 [vS, vS]), onD (.store 2 (tD 10) (tD 19)), mvD 11 20] [[], [], [0, 1], [2], [3], [3], [], [6, 4, 2, 0, 1, 2, 3, 4, 6], [5, 7, 0, 1, 2, 3, 4, 5, 6, 7]] false) (.seq (.seq (.region [mvD 21 9, opD 22 (.not (tD 21)), mvD 23 22, ogD 24 23 false (.mov (tD 11)), ogD 25 23 false (.bin .neq (tD 24) (cD 0)), opD 26 (.pick (tD 23) (.const (.bool true)) (tD 25))] [[], [0], [1], [2], [3, 2], [2, 4]] false) (.cond (.tmp 26) (.seq (.region [mvD 27 9, mvD 8 27] [[], [0, 0]] false) .ret) .skip)) (.seq (.seq (.region [opD 28 (.load true 2 (tD 10)), oqD 29 (.call 10 [(tD 28)]) (.ent (e10 fu)), opD 30 (.bin .neq (tD 29) (cD 0))] [[], [0], [1]] false) (.cond (.tmp 30) (.seq (.region [opD 8 (.mov (.const vB))] [[]] false) .ret) .skip)) (.seq (.seq (.region [opD 31 (.faddr 0 (tD 4)), opD 32 (.load false 1 (tD 31)), mvD 33 2, oqD 34 (.call 21 [(tD 32), (tD 33)]) (.ent (e21 fu)), opD 35 (.not (tD 34)), mvD 36 35, ogD 37 36 false (.faddr 0 (tD 10)), ogD 38 36 false (.load false 1 (tD 37)), ogD 39 36 false (.mov (tD 3)), (⟨(some 40), (some (36, false)), (.call 21 [(tD 38), (tD 39)])⟩, (.ent (e21 fu))), ogD 41 36 false (.not (tD 40)), opD 42 (.pick (tD 36) (.const (.bool true)) (tD 41))] [[], [0], [], [1, 2], [3], [4, 3], [5], [6, 5], [5], [7, 8, 5, 5], [9, 5], [5, 10]] false) (.cond (.tmp 42) (.seq (.region [opD 8 (.mov (.const (.bool true)))] [[]] false) .ret) .skip)) (.seq (.seq (.region [opD 12 (.mov (cD 0))] [[]] false) (.block 0 (.loop ⟨[12], (.cons (.hole (.int .i64)) .nil), [], .nil, [2, 3], []⟩
 (.seq (.seq (.region [mvD 43 12, mvD 44 2, opD 45 (.len false (tD 44)), opD 46 (.bin .lss (tD 43) (tD 45))] [[], [], [1], [0, 2]] false) (.cond (.tmp 46) .skip (.exit 0))) (.seq (.block 1 (.seq (.region [opD 13 (.mov (cD 0))] [[]] false) (.block 2 (.loop ⟨[13], (.cons (.hole (.int .i64)) .nil), [], .nil, [2, 3, 12], []⟩
 (.seq (.seq (.region [mvD 49 13, mvD 50 3, opD 51 (.len false (tD 50)), opD 52 (.bin .lss (tD 49) (tD 51))] [[], [], [1], [0, 2]] false) (.cond (.tmp 52) .skip (.exit 2))) (.seq (.block 3 (.seq (.region [mvD 55 2, mvD 56 12, opD 57 (.iaddr 1 (tD 55) (tD 56)), opD 58 (.load false 1 (tD 57)), mvD 59 3, mvD 60 13, opD 61 (.iaddr 1 (tD 59) (tD 60)), opD 62 (.load false 1 (tD 61)), opD 63 (.bin .eql (tD 58) (tD 62))] [[], [], [0, 1], [2], [], [], [4, 5], [6], [3, 7]] true) (.cond (.tmp 63) (.seq (.region [opD 8 (.mov (.const (.bool true)))] [[]] false) .ret) .skip))) (.region [mvD 53 13, opD 54 (.bin .add (tD 53) (cD 1)), mvD 13 54] [[], [0], [1, 0, 1]] false))))))) (.region [mvD 47 12, opD 48 (.bin .add (tD 47) (cD 1)), mvD 12 48] [[], [0], [1, 0, 1]] false)))))) (.seq (.region [opD 8 (.mov (.const vB))] [[]] false) .ret))))))))
set_option maxRecDepth 1000000 in
theorem v5 (fu : Nat) : evF fu (d5 fu) rs5 64 (e5 fu).ash (e5 fu).osh (e5 fu).vsh = p5 fu := by kernel_rfl
set_option maxRecDepth 1000000 in
theorem b5 (fu : Nat) : BodyD Try.prog 5 64 (d5 fu).erase rs5 := bodyD_mk Try.func5 (by kernel_rfl) (by kernel_rfl) (by kernel_rfl) (by kernel_rfl)
theorem g5 (fu : Nat) : (e5 fu).Good Try.prog := good_by orders (b5 fu) (l := [e8 fu, e18 fu, e10 fu, e21 fu, e21 fu]) (by kernel_rfl) ⟨g8 fu, g18 fu, g10 fu, g21 fu, g21 fu, trivial⟩ (by kernel_rfl) (v5 fu)
def rs22 : List RVx := [(.tmp 4), (.tmp 5)]
/-- gazette/raftconf.Path -/
def p22 (fu : Nat) : ((List (Int)) × ((List (Int)) × (Unit))) × (((List (Int)) × ((List (Int)) × (Unit))) × (Unit)) → Option ((Unit) × ((List (D_api_Change)) × ((Int) × (Unit)))) := fun ⟨⟨a, c, _⟩, ⟨f, h, _⟩, _⟩ =>
loopO (S := ((Int) × (Unit)) × (Unit)) fu (fun ⟨⟨i, _⟩, _⟩ =>
 bif decide (i < (2 : Int)) then
 bif decide ((0 : Int) ≤ i ∧ i < (2 : Int)) then
 bif decide (Int.toNat i < List.length ([(a, c), (f, h)])) then
 Option.bind (p10 fu (((List.getD ([(a, c), (f, h)]) (Int.toNat i) (dflt T_api_Conf)).1, (List.getD ([(a, c), (f, h)]) (Int.toNat i) (dflt T_api_Conf)).2, ()), ())) fun ⟨_, j⟩ =>
 bif (j != (0 : Int)) then
 inrO (some ((), ([], j, ())))
 else
 some (.inl ((IntKind.wrap .i64 (i + (1 : Int)), ()), ()))
 else none
 else none
 else
 inrO (Option.bind (p12 fu ((f, h, ()), (0 : Int), ())) fun ⟨_, k⟩ =>
 loopO (S := ((List (D_api_Change)) × ((Int) × (Unit))) × (Unit)) fu (fun ⟨⟨l, m, _⟩, _⟩ =>
 bif decide (m < ((List.length k) : Int)) then
 bif decide ((0 : Int) ≤ m ∧ m < (List.length k : Int)) then
 bif decide (Int.toNat m < List.length k) then
 Option.bind (p43 fu ((a, c, ()), (List.getD k (Int.toNat m) (dflt (.int .i64))), ())) fun ⟨_, n⟩ =>
 bif !n then
 bif decide (List.length l = List.length l) then
 bif decide (List.length l + List.length ([((1 : Int), (List.getD k (Int.toNat m) (dflt (.int .i64))))]) ≤ maxLen ∧ (List.length l + List.length ([((1 : Int), (List.getD k (Int.toNat m) (dflt (.int .i64))))])) * 16 ≤ 140737488355328) then
 bif decide (List.length (l ++ [((1 : Int), (List.getD k (Int.toNat m) (dflt (.int .i64))))]) = List.length (l ++ [((1 : Int), (List.getD k (Int.toNat m) (dflt (.int .i64))))])) then
 some (.inl (((l ++ [((1 : Int), (List.getD k (Int.toNat m) (dflt (.int .i64))))]), IntKind.wrap .i64 (m + (1 : Int)), ()), ()))
 else none
 else none
 else none
 else
 bif decide (List.length l = List.length l) then
 some (.inl ((l, IntKind.wrap .i64 (m + (1 : Int)), ()), ()))
 else none
 else none
 else none
 else
 inrO (bif decide (List.length l = List.length l) then
 loopO (S := ((List (D_api_Change)) × ((Int) × (Unit))) × (Unit)) fu (fun ⟨⟨l, o, _⟩, _⟩ =>
 bif decide (o < (List.length f : Int)) then
 bif decide ((0 : Int) ≤ o ∧ o < (List.length f : Int)) then
 bif decide (Int.toNat o < List.length f) then
 Option.bind (p14 fu ((a, c, ()), (List.getD f (Int.toNat o) (dflt (.int .i64))), ())) fun ⟨_, q⟩ =>
 bif !q then
 bif decide (List.length l = List.length l) then
 bif decide (List.length l + List.length ([((2 : Int), (List.getD f (Int.toNat o) (dflt (.int .i64))))]) ≤ maxLen ∧ (List.length l + List.length ([((2 : Int), (List.getD f (Int.toNat o) (dflt (.int .i64))))])) * 16 ≤ 140737488355328) then
 bif decide (List.length (l ++ [((2 : Int), (List.getD f (Int.toNat o) (dflt (.int .i64))))]) = List.length (l ++ [((2 : Int), (List.getD f (Int.toNat o) (dflt (.int .i64))))])) then
 some (.inl (((l ++ [((2 : Int), (List.getD f (Int.toNat o) (dflt (.int .i64))))]), IntKind.wrap .i64 (o + (1 : Int)), ()), ()))
 else none
 else none
 else none
 else
 bif decide (List.length l = List.length l) then
 some (.inl ((l, IntKind.wrap .i64 (o + (1 : Int)), ()), ()))
 else none
 else none
 else none
 else
 inrO (Option.bind (p12 fu ((a, c, ()), (0 : Int), ())) fun ⟨_, s⟩ =>
 bif decide (List.length l = List.length l) then
 loopO (S := ((List (D_api_Change)) × ((List (D_api_Change)) × ((Int) × (Unit)))) × (Unit)) fu (fun ⟨⟨l, t, u, _⟩, _⟩ =>
 bif decide (u < ((List.length s) : Int)) then
 bif decide ((0 : Int) ≤ u ∧ u < (List.length s : Int)) then
 bif decide (Int.toNat u < List.length s) then
 orK (E := ((Bool) × (Unit)) × (Unit))
 (Option.bind (p14 fu ((a, c, ()), (List.getD s (Int.toNat u) (dflt (.int .i64))), ())) fun ⟨_, w⟩ =>
 bif w then
 Option.bind (p16 fu ((f, h, ()), (List.getD s (Int.toNat u) (dflt (.int .i64))), ())) fun ⟨_, x⟩ =>
 some (.inl ((x, ()), ()))
 else
 some (.inl ((false, ()), ())))
 fun ⟨⟨y, _⟩, _⟩ =>
 orK (E := ((List (D_api_Change)) × (Unit)) × (Unit))
 (bif y then
 bif decide (List.length t = List.length t) then
 bif decide (List.length t + List.length ([((1 : Int), (List.getD s (Int.toNat u) (dflt (.int .i64))))]) ≤ maxLen ∧ (List.length t + List.length ([((1 : Int), (List.getD s (Int.toNat u) (dflt (.int .i64))))])) * 16 ≤ 140737488355328) then
 bif decide (List.length (t ++ [((1 : Int), (List.getD s (Int.toNat u) (dflt (.int .i64))))]) = List.length (t ++ [((1 : Int), (List.getD s (Int.toNat u) (dflt (.int .i64))))])) then
 some (.inl (((t ++ [((1 : Int), (List.getD s (Int.toNat u) (dflt (.int .i64))))]), ()), ()))
 else none
 else none
 else none
 else
 bif decide (List.length t = List.length t) then
 some (.inl ((t, ()), ()))
 else none)
 fun ⟨⟨t, _⟩, _⟩ =>
 orK (E := ((Bool) × (Unit)) × (Unit))
 (bif y then
 some (.inl ((true, ()), ()))
 else
 Option.bind (p43 fu ((f, h, ()), (List.getD s (Int.toNat u) (dflt (.int .i64))), ())) fun ⟨_, z⟩ =>
 some (.inl ((!z, ()), ())))
 fun ⟨⟨a0, _⟩, _⟩ =>
 bif a0 then
 bif decide (List.length l = List.length l) then
 bif decide (List.length l + List.length ([((3 : Int), (List.getD s (Int.toNat u) (dflt (.int .i64))))]) ≤ maxLen ∧ (List.length l + List.length ([((3 : Int), (List.getD s (Int.toNat u) (dflt (.int .i64))))])) * 16 ≤ 140737488355328) then
 bif decide (List.length (l ++ [((3 : Int), (List.getD s (Int.toNat u) (dflt (.int .i64))))]) = List.length (l ++ [((3 : Int), (List.getD s (Int.toNat u) (dflt (.int .i64))))])) then
 bif decide (List.length t = List.length t) then
 some (.inl (((l ++ [((3 : Int), (List.getD s (Int.toNat u) (dflt (.int .i64))))]), t, IntKind.wrap .i64 (u + (1 : Int)), ()), ()))
 else none
 else none
 else none
 else none
 else
 bif decide (List.length l = List.length l) then
 bif decide (List.length t = List.length t) then
 some (.inl ((l, t, IntKind.wrap .i64 (u + (1 : Int)), ()), ()))
 else none
 else none
 else none
 else none
 else
 inrO (bif decide (List.length l = List.length l) then
 bif decide (List.length t = List.length t) then
 bif decide (List.length l + List.length t ≤ maxLen ∧ (List.length l + List.length t) * 16 ≤ 140737488355328) then
 bif decide (List.length (l ++ t) = List.length (l ++ t)) then
 some ((), ((l ++ t), (0 : Int), ()))
 else none
 else none
 else none
 else none))
 ((l, [], (0 : Int), ()), ())
 else none))
 ((l, (0 : Int), ()), ())
 else none))
 (([], (0 : Int), ()), ())))
 (((0 : Int), ()), ())
def e22 (fu : Nat) : Ent := ⟨22, (.cons (.agg 2 (.cons (.hole (.sl (.int .i64))) (.cons (.hole (.sl (.int .i64))) .nil))) (.cons (.agg 2 (.cons (.hole (.sl (.int .i64))) (.cons (.hole (.sl (.int .i64))) .nil))) .nil)), .nil, (.tup 2 (.cons (.own .own 39 T_api_Change) (.cons (.hole (.int .i64)) .nil))), p22 fu⟩
def d22 (fu : Nat) : DC := (.seq (.region [opD 2 (.box 24 2 (tD 0)), opD 3 (.box 24 2 (tD 1)), opD 4 (.mov (.const vS)), opD 5 (.mov (cD 0))] [[], [], [], [2]] false) (.seq (.seq (.region [opD 18 (.load true 2 (tD 2)), opD 19 (.load true 2 (tD 3)), oqD 20 (.bslice 24 2 2 [vS, vS] [(0, (tD 18)), (1, (tD 19))]) (.ty T_api_Conf), opD 21 (.len false (tD 20)), opD 22 (.mov (cD 0))] [[], [], [0, 1], [2], []] false) (.block 0 (.loop ⟨[22], (.cons (.hole (.int .i64)) .nil), [], .nil, [2, 3, 20, 21], [0, 16, 96]⟩
 (.seq (.region [opD 23 (.bin .lss (tD 22) (tD 21))] [[]] false) (.seq (.cond (.tmp 23) .skip (.exit 0)) (.seq (.block 1 (.seq (.region [opD 24 (.iaddr 2 (tD 20) (tD 22)), opD 25 (.load true 2 (tD 24)), opD 7 (.alloc 24 2 [vS, vS]), onD (.store 2 (tD 7) (tD 25))] [[], [0], [], [2, 1, 0, 1, 2]] false) (.seq (.region [opD 26 (.load true 2 (tD 7)), oqD 27 (.call 10 [(tD 26)]) (.ent (e10 fu)), mvD 8 27] [[], [0], [1, 1, 0, 1]] false) (.seq (.region [mvD 28 8, opD 29 (.bin .neq (tD 28) (cD 0))] [[], [0]] false) (.cond (.tmp 29) (.seq (.region [mvD 30 8, opD 4 (.mov (.const vS)), mvD 5 30] [[], [], [0, 1, 0, 1]] false) .ret) .skip))))) (.region [opD 31 (.bin .add (tD 22) (cD 1)), mvD 22 31] [[], [0]] false))))))) (.seq (.region [opD 9 (.mov (.const vS)), opD 10 (.mov (.const vS))] [[], [0]] false) (.seq (.seq (.region [opD 32 (.load true 2 (tD 3)), oqD 33 (.call 12 [(tD 32), (cD 0)]) (.ent (e12 fu)), opD 34 (.len false (tD 33)), opD 35 (.mov (cD 0))] [[], [0], [1], []] false) (.block 2 (.loop ⟨[9, 35], (.cons (.own .own 39 T_api_Change) (.cons (.hole (.int .i64)) .nil)), [], .nil, [2, 3, 10, 33, 34], [0, 16, 208]⟩
 (.seq (.region [opD 36 (.bin .lss (tD 35) (tD 34))] [[]] false) (.seq (.cond (.tmp 36) .skip (.exit 2)) (.seq (.block 3 (.seq (.region [opD 37 (.iaddr 1 (tD 33) (tD 35)), opD 38 (.load false 1 (tD 37)), mvD 12 38] [[], [0], [1, 0, 1]] false) (.seq (.region [opD 39 (.load true 2 (tD 2)), mvD 40 12, oqD 41 (.call 43 [(tD 39), (tD 40)]) (.ent (e43 fu)), opD 42 (.not (tD 41))] [[], [], [0, 1], [2]] false) (.cond (.tmp 42) (.region [mvD 43 9, mvD 44 12, opD 45 (.build 2 [vI, vI] [(0, (1, (cD 1))), (1, (1, (tD 44)))]), oqD 46 (.bslice 39 2 1 [vI, vI] [(0, (tD 45))]) (.ty T_api_Change), oqD 47 (.app 39 2 [vI, vI] 16 (tD 43) (tD 46)) (.ty T_api_Change), mvD 9 47] [[], [], [1], [2], [0, 3], [4, 4, 0, 1, 2, 3, 4]] false) .skip)))) (.region [opD 48 (.bin .add (tD 35) (cD 1)), mvD 35 48] [[], [0]] false))))))) (.seq (.seq (.region [opD 49 (.faddr 0 (tD 3)), opD 50 (.load false 1 (tD 49)), opD 51 (.len false (tD 50)), opD 52 (.mov (cD 0))] [[], [0], [1], []] false) (.block 4 (.loop ⟨[9, 52], (.cons (.own .own 39 T_api_Change) (.cons (.hole (.int .i64)) .nil)), [], .nil, [2, 3, 10, 50, 51], [0, 16]⟩
 (.seq (.region [opD 53 (.bin .lss (tD 52) (tD 51))] [[]] false) (.seq (.cond (.tmp 53) .skip (.exit 4)) (.seq (.block 5 (.seq (.region [opD 54 (.iaddr 1 (tD 50) (tD 52)), opD 55 (.load false 1 (tD 54)), mvD 14 55] [[], [0], [1, 0, 1]] false) (.seq (.region [opD 56 (.load true 2 (tD 2)), mvD 57 14, oqD 58 (.call 14 [(tD 56), (tD 57)]) (.ent (e14 fu)), opD 59 (.not (tD 58))] [[], [], [0, 1], [2]] false) (.cond (.tmp 59) (.region [mvD 60 9, mvD 61 14, opD 62 (.build 2 [vI, vI] [(0, (1, (cD 2))), (1, (1, (tD 61)))]), oqD 63 (.bslice 39 2 1 [vI, vI] [(0, (tD 62))]) (.ty T_api_Change), oqD 64 (.app 39 2 [vI, vI] 16 (tD 60) (tD 63)) (.ty T_api_Change), mvD 9 64] [[], [], [1], [2], [0, 3], [4, 4, 0, 1, 2, 3, 4]] false) .skip)))) (.region [opD 65 (.bin .add (tD 52) (cD 1)), mvD 52 65] [[], [0]] false))))))) (.seq (.seq (.region [opD 66 (.load true 2 (tD 2)), oqD 67 (.call 12 [(tD 66), (cD 0)]) (.ent (e12 fu)), opD 68 (.len false (tD 67)), opD 69 (.mov (cD 0))] [[], [0], [1], []] false) (.block 6 (.loop ⟨[9, 10, 69], (.cons (.own .own 39 T_api_Change) (.cons (.own .own 39 T_api_Change) (.cons (.hole (.int .i64)) .nil))), [], .nil, [2, 3, 67, 68], [0, 16, 370]⟩
 (.seq (.region [opD 70 (.bin .lss (tD 69) (tD 68))] [[]] false) (.seq (.cond (.tmp 70) .skip (.exit 6)) (.seq (.block 7 (.seq (.region [opD 71 (.iaddr 1 (tD 67) (tD 69)), opD 72 (.load false 1 (tD 71)), mvD 16 72] [[], [0], [1, 0, 1]] false) (.join ⟨[17], (.cons (.hole .bool) .nil), [], .nil, [2, 3, 9, 10, 16, 67, 68, 69], [0, 16, 370, 418, 419]⟩
 (.region [opD 73 (.load true 2 (tD 2)), mvD 74 16, oqD 75 (.call 14 [(tD 73), (tD 74)]) (.ent (e14 fu)), mvD 76 75, ogD 77 76 true (.load true 2 (tD 3)), ogD 78 76 true (.mov (tD 16)), (⟨(some 79), (some (76, true)), (.call 16 [(tD 77), (tD 78)])⟩, (.ent (e16 fu))), opD 80 (.pick (tD 76) (tD 79) (.const vB)), mvD 17 80] [[], [], [0, 1], [2, 2], [3], [3], [4, 5, 3, 3], [3, 6], [7, 6, 0, 1, 2, 3, 4, 5, 6, 7]] false)
 (.join ⟨[10], (.cons (.own .own 39 T_api_Change) .nil), [], .nil, [2, 3, 9, 16, 17, 67, 68, 69], [0, 16, 370, 418]⟩
 (.seq (.region [mvD 81 17] [[]] false) (.cond (.tmp 81) (.region [mvD 82 10, mvD 83 16, opD 84 (.build 2 [vI, vI] [(0, (1, (cD 1))), (1, (1, (tD 83)))]), oqD 85 (.bslice 39 2 1 [vI, vI] [(0, (tD 84))]) (.ty T_api_Change), oqD 86 (.app 39 2 [vI, vI] 16 (tD 82) (tD 85)) (.ty T_api_Change), mvD 10 86] [[], [], [1], [2], [0, 3], [4, 4, 0, 1, 2, 3, 4]] false) .skip))
 (.join ⟨[93], (.cons (.hole .bool) .nil), [], .nil, [2, 3, 9, 10, 16, 67, 68, 69], [0, 16, 370, 418, 484]⟩
 (.region [mvD 87 17, mvD 88 87, ogD 89 88 false (.load true 2 (tD 3)), ogD 90 88 false (.mov (tD 16)), (⟨(some 91), (some (88, false)), (.call 43 [(tD 89), (tD 90)])⟩, (.ent (e43 fu))), ogD 92 88 false (.not (tD 91)), opD 93 (.pick (tD 88) (.const (.bool true)) (tD 92))] [[], [0], [1], [1], [2, 3, 1, 1], [4, 1], [1, 5]] false)
 (.cond (.tmp 93) (.region [mvD 94 9, mvD 95 16, opD 96 (.build 2 [vI, vI] [(0, (1, (cD 3))), (1, (1, (tD 95)))]), oqD 97 (.bslice 39 2 1 [vI, vI] [(0, (tD 96))]) (.ty T_api_Change), oqD 98 (.app 39 2 [vI, vI] 16 (tD 94) (tD 97)) (.ty T_api_Change), mvD 9 98] [[], [], [1], [2], [0, 3], [4, 4, 0, 1, 2, 3, 4]] false) .skip)))))) (.region [opD 99 (.bin .add (tD 69) (cD 1)), mvD 69 99] [[], [0]] false))))))) (.seq (.region [mvD 100 9, mvD 101 10, oqD 102 (.app 39 2 [vI, vI] 16 (tD 100) (tD 101)) (.ty T_api_Change), mvD 4 102, opD 5 (.mov (cD 0))] [[], [], [0, 1], [2, 2, 0, 1, 2], [3, 0, 1, 2, 3]] false) .ret)))))))
set_option maxRecDepth 1000000 in
theorem v22 (fu : Nat) : evF fu (d22 fu) rs22 103 (e22 fu).ash (e22 fu).osh (e22 fu).vsh = p22 fu := by kernel_rfl
set_option maxRecDepth 1000000 in
theorem b22 (fu : Nat) : BodyD Try.prog 22 103 (d22 fu).erase rs22 := bodyD_mk Try.func22 (by kernel_rfl) (by kernel_rfl) (by kernel_rfl) (by kernel_rfl)
theorem g22 (fu : Nat) : (e22 fu).Good Try.prog := good_by orders (b22 fu) (l := [e10 fu, e12 fu, e43 fu, e14 fu, e12 fu, e14 fu, e16 fu, e43 fu]) (by kernel_rfl) ⟨g10 fu, g12 fu, g43 fu, g14 fu, g12 fu, g14 fu, g16 fu, g43 fu, trivial⟩ (by kernel_rfl) (v22 fu)
def rs23 : List RVx := [(.tmp 4), (.tmp 5)]
/-- gazette/gazetteref08.Path -/
def p23 (fu : Nat) : ((List (Int)) × ((List (Int)) × (Unit))) × (((List (Int)) × ((List (Int)) × (Unit))) × (Unit)) → Option ((Unit) × ((List (D_api_Change)) × ((Int) × (Unit)))) := fun ⟨⟨a, c, _⟩, ⟨f, h, _⟩, _⟩ =>
Option.bind (p11 fu ((a, c, ()), ())) fun ⟨_, i⟩ =>
orK (E := ((Int) × (Unit)) × (Unit))
 (bif (i == (0 : Int)) then
 Option.bind (p11 fu ((f, h, ()), ())) fun ⟨_, j⟩ =>
 some (.inl ((j, ()), ()))
 else
 some (.inl ((i, ()), ())))
 fun ⟨⟨k, _⟩, _⟩ =>
bif (k != (0 : Int)) then
 some ((), ([], k, ()))
else
 loopO (S := ((List (D_api_Change)) × ((List (D_api_Change)) × ((List (D_api_Change)) × ((List (D_api_Change)) × ((Int) × (Unit)))))) × (Unit)) fu (fun ⟨⟨l, m, n, o, q, _⟩, _⟩ =>
 bif decide (q ≤ (7 : Int)) then
 Option.bind (p15 fu (a, q, ())) fun ⟨_, s⟩ =>
 Option.bind (p15 fu (c, q, ())) fun ⟨_, t⟩ =>
 Option.bind (p15 fu (f, q, ())) fun ⟨_, u⟩ =>
 Option.bind (p15 fu (h, q, ())) fun ⟨_, w⟩ =>
 orK (E := ((List (D_api_Change)) × (Unit)) × (Unit))
 (orK (E := ((Bool) × (Unit)) × (Unit))
 (bif u then
 bif !s then
 some (.inl ((!t, ()), ()))
 else
 some (.inl ((false, ()), ()))
 else
 bif w then
 bif !s then
 some (.inl ((!t, ()), ()))
 else
 some (.inl ((false, ()), ()))
 else
 some (.inl ((false, ()), ())))
 fun ⟨⟨x, _⟩, _⟩ =>
 bif x then
 bif decide (List.length l = List.length l) then
 bif decide (List.length l + List.length ([((1 : Int), q)]) ≤ maxLen ∧ (List.length l + List.length ([((1 : Int), q)])) * 16 ≤ 140737488355328) then
 bif decide (List.length (l ++ [((1 : Int), q)]) = List.length (l ++ [((1 : Int), q)])) then
 some (.inl (((l ++ [((1 : Int), q)]), ()), ()))
 else none
 else none
 else none
 else
 bif decide (List.length l = List.length l) then
 some (.inl ((l, ()), ()))
 else none)
 fun ⟨⟨l, _⟩, _⟩ =>
 orK (E := ((List (D_api_Change)) × (Unit)) × (Unit))
 (orK (E := ((Bool) × (Unit)) × (Unit))
 (bif u then
 some (.inl ((!s, ()), ()))
 else
 some (.inl ((false, ()), ())))
 fun ⟨⟨y, _⟩, _⟩ =>
 bif y then
 bif decide (List.length m = List.length m) then
 bif decide (List.length m + List.length ([((2 : Int), q)]) ≤ maxLen ∧ (List.length m + List.length ([((2 : Int), q)])) * 16 ≤ 140737488355328) then
 bif decide (List.length (m ++ [((2 : Int), q)]) = List.length (m ++ [((2 : Int), q)])) then
 some (.inl (((m ++ [((2 : Int), q)]), ()), ()))
 else none
 else none
 else none
 else
 bif decide (List.length m = List.length m) then
 some (.inl ((m, ()), ()))
 else none)
 fun ⟨⟨m, _⟩, _⟩ =>
 orK (E := ((List (D_api_Change)) × (Unit)) × (Unit))
 (orK (E := ((Bool) × (Unit)) × (Unit))
 (bif s then
 bif !u then
 bif !w then
 some (.inl ((true, ()), ()))
 else
 bif s then
 some (.inl ((w, ()), ()))
 else
 some (.inl ((false, ()), ()))
 else
 bif s then
 some (.inl ((w, ()), ()))
 else
 some (.inl ((false, ()), ()))
 else
 bif t then
 bif !u then
 bif !w then
 some (.inl ((true, ()), ()))
 else
 bif s then
 some (.inl ((w, ()), ()))
 else
 some (.inl ((false, ()), ()))
 else
 bif s then
 some (.inl ((w, ()), ()))
 else
 some (.inl ((false, ()), ()))
 else
 bif s then
 some (.inl ((w, ()), ()))
 else
 some (.inl ((false, ()), ())))
 fun ⟨⟨z, _⟩, _⟩ =>
 bif z then
 bif decide (List.length n = List.length n) then
 bif decide (List.length n + List.length ([((3 : Int), q)]) ≤ maxLen ∧ (List.length n + List.length ([((3 : Int), q)])) * 16 ≤ 140737488355328) then
 bif decide (List.length (n ++ [((3 : Int), q)]) = List.length (n ++ [((3 : Int), q)])) then
 some (.inl (((n ++ [((3 : Int), q)]), ()), ()))
 else none
 else none
 else none
 else
 bif decide (List.length n = List.length n) then
 some (.inl ((n, ()), ()))
 else none)
 fun ⟨⟨n, _⟩, _⟩ =>
 orK (E := ((Bool) × (Unit)) × (Unit))
 (bif s then
 some (.inl ((w, ()), ()))
 else
 some (.inl ((false, ()), ())))
 fun ⟨⟨a0, _⟩, _⟩ =>
 bif a0 then
 bif decide (List.length o = List.length o) then
 bif decide (List.length o + List.length ([((1 : Int), q)]) ≤ maxLen ∧ (List.length o + List.length ([((1 : Int), q)])) * 16 ≤ 140737488355328) then
 bif decide (List.length l = List.length l) then
 bif decide (List.length m = List.length m) then
 bif decide (List.length n = List.length n) then
 bif decide (List.length (o ++ [((1 : Int), q)]) = List.length (o ++ [((1 : Int), q)])) then
 some (.inl ((l, m, n, (o ++ [((1 : Int), q)]), IntKind.wrap .i64 (q + (1 : Int)), ()), ()))
 else none
 else none
 else none
 else none
 else none
 else none
 else
 bif decide (List.length l = List.length l) then
 bif decide (List.length m = List.length m) then
 bif decide (List.length n = List.length n) then
 bif decide (List.length o = List.length o) then
 some (.inl ((l, m, n, o, IntKind.wrap .i64 (q + (1 : Int)), ()), ()))
 else none
 else none
 else none
 else none
 else
 inrO (bif decide (List.length l = List.length l) then
 bif decide (List.length m = List.length m) then
 bif decide (List.length l + List.length m ≤ maxLen ∧ (List.length l + List.length m) * 16 ≤ 140737488355328) then
 bif decide (List.length (l ++ m) = List.length (l ++ m)) then
 bif decide (List.length n = List.length n) then
 bif decide (List.length (l ++ m) + List.length n ≤ maxLen ∧ (List.length (l ++ m) + List.length n) * 16 ≤ 140737488355328) then
 bif decide (List.length ((l ++ m) ++ n) = List.length ((l ++ m) ++ n)) then
 bif decide (List.length o = List.length o) then
 bif decide (List.length ((l ++ m) ++ n) + List.length o ≤ maxLen ∧ (List.length ((l ++ m) ++ n) + List.length o) * 16 ≤ 140737488355328) then
 bif decide (List.length (((l ++ m) ++ n) ++ o) = List.length (((l ++ m) ++ n) ++ o)) then
 some ((), ((((l ++ m) ++ n) ++ o), (0 : Int), ()))
 else none
 else none
 else none
 else none
 else none
 else none
 else none
 else none
 else none
 else none))
 (([], [], [], [], (1 : Int), ()), ())
def e23 (fu : Nat) : Ent := ⟨23, (.cons (.agg 2 (.cons (.hole (.sl (.int .i64))) (.cons (.hole (.sl (.int .i64))) .nil))) (.cons (.agg 2 (.cons (.hole (.sl (.int .i64))) (.cons (.hole (.sl (.int .i64))) .nil))) .nil)), .nil, (.tup 2 (.cons (.own .own 39 T_api_Change) (.cons (.hole (.int .i64)) .nil))), p23 fu⟩
def d23 (fu : Nat) : DC := (.seq (.region [opD 2 (.box 24 2 (tD 0)), opD 3 (.box 24 2 (tD 1)), opD 4 (.mov (.const vS)), opD 5 (.mov (cD 0))] [[], [], [], [2]] false) (.seq (.region [opD 17 (.load true 2 (tD 2)), oqD 18 (.call 11 [(tD 17)]) (.ent (e11 fu)), mvD 6 18] [[], [0], [1, 1, 0, 1]] false) (.join ⟨[6], (.cons (.hole (.int .i64)) .nil), [], .nil, [2, 3], [0, 16]⟩
 (.seq (.region [mvD 19 6, opD 20 (.bin .eql (tD 19) (cD 0))] [[], [0]] false) (.cond (.tmp 20) (.region [opD 21 (.load true 2 (tD 3)), oqD 22 (.call 11 [(tD 21)]) (.ent (e11 fu)), mvD 6 22] [[], [0], [1, 1, 0, 1]] false) .skip))
 (.seq (.seq (.region [mvD 23 6, opD 24 (.bin .neq (tD 23) (cD 0))] [[], [0]] false) (.cond (.tmp 24) (.seq (.region [mvD 25 6, opD 4 (.mov (.const vS)), mvD 5 25] [[], [], [0, 1, 0, 1]] false) .ret) .skip)) (.seq (.region [opD 7 (.mov (.const vS))] [[]] false) (.seq (.region [opD 8 (.mov (.const vS))] [[]] false) (.seq (.region [opD 9 (.mov (.const vS))] [[]] false) (.seq (.region [opD 10 (.mov (.const vS))] [[]] false) (.seq (.seq (.region [opD 11 (.mov (cD 1))] [[]] false) (.block 0 (.loop ⟨[7, 8, 9, 10, 11], (.cons (.own .own 39 T_api_Change) (.cons (.own .own 39 T_api_Change) (.cons (.own .own 39 T_api_Change) (.cons (.own .own 39 T_api_Change) (.cons (.hole (.int .i64)) .nil))))), [], .nil, [2, 3], [0, 16]⟩
 (.seq (.seq (.region [mvD 26 11, opD 27 (.bin .leq (tD 26) (cD 7))] [[], [0]] false) (.cond (.tmp 27) .skip (.exit 0))) (.seq (.block 1 (.seq (.region [opD 30 (.faddr 0 (tD 2)), opD 31 (.load false 1 (tD 30)), mvD 32 11, oqD 33 (.call 15 [(tD 31), (tD 32)]) (.ent (e15 fu)), mvD 12 33] [[], [0], [], [1, 2], [3, 3, 0, 1, 2, 3]] false) (.seq (.region [opD 34 (.faddr 1 (tD 2)), opD 35 (.load false 1 (tD 34)), mvD 36 11, oqD 37 (.call 15 [(tD 35), (tD 36)]) (.ent (e15 fu)), mvD 13 37] [[], [0], [], [1, 2], [3, 3, 0, 1, 2, 3]] false) (.seq (.region [opD 38 (.faddr 0 (tD 3)), opD 39 (.load false 1 (tD 38)), mvD 40 11, oqD 41 (.call 15 [(tD 39), (tD 40)]) (.ent (e15 fu)), mvD 14 41] [[], [0], [], [1, 2], [3, 3, 0, 1, 2, 3]] false) (.seq (.region [opD 42 (.faddr 1 (tD 3)), opD 43 (.load false 1 (tD 42)), mvD 44 11, oqD 45 (.call 15 [(tD 43), (tD 44)]) (.ent (e15 fu)), mvD 15 45] [[], [0], [], [1, 2], [3, 3, 0, 1, 2, 3]] false) (.join ⟨[7], (.cons (.own .own 39 T_api_Change) .nil), [], .nil, [2, 3, 8, 9, 10, 11, 12, 13, 14, 15], [0, 16, 225, 226, 227]⟩
 (.join ⟨[57], (.cons (.hole .bool) .nil), [], .nil, [2, 3, 7, 8, 9, 10, 11, 12, 13, 14, 15], [0, 16, 224, 225, 226, 227]⟩
 (.region [mvD 46 14, mvD 47 46, ogD 48 47 false (.mov (tD 15)), opD 49 (.pick (tD 47) (.const (.bool true)) (tD 48)), mvD 50 49, ogD 51 50 true (.mov (tD 12)), ogD 52 50 true (.not (tD 51)), opD 53 (.pick (tD 50) (tD 52) (.const vB)), mvD 54 53, ogD 55 54 true (.mov (tD 13)), ogD 56 54 true (.not (tD 55)), opD 57 (.pick (tD 54) (tD 56) (.const vB))] [[], [0], [1], [1, 2], [3, 1], [4], [5, 4], [4, 6], [7, 4], [8], [9, 8], [8, 10]] false)
 (.cond (.tmp 57) (.region [mvD 58 7, mvD 59 11, opD 60 (.build 2 [vI, vI] [(0, (1, (cD 1))), (1, (1, (tD 59)))]), oqD 61 (.bslice 39 2 1 [vI, vI] [(0, (tD 60))]) (.ty T_api_Change), oqD 62 (.app 39 2 [vI, vI] 16 (tD 58) (tD 61)) (.ty T_api_Change), mvD 7 62] [[], [], [1], [2], [0, 3], [4, 4, 0, 1, 2, 3, 4]] false) .skip))
 (.join ⟨[8], (.cons (.own .own 39 T_api_Change) .nil), [], .nil, [2, 3, 7, 9, 10, 11, 12, 13, 14, 15], [0, 16, 226, 227, 580]⟩
 (.join ⟨[67], (.cons (.hole .bool) .nil), [], .nil, [2, 3, 7, 8, 9, 10, 11, 12, 13, 14, 15], [0, 16, 225, 226, 227, 580]⟩
 (.region [mvD 63 14, mvD 64 63, ogD 65 64 true (.mov (tD 12)), ogD 66 64 true (.not (tD 65)), opD 67 (.pick (tD 64) (tD 66) (.const vB))] [[], [0], [1], [2, 1], [1, 3]] false)
 (.cond (.tmp 67) (.region [mvD 68 8, mvD 69 11, opD 70 (.build 2 [vI, vI] [(0, (1, (cD 2))), (1, (1, (tD 69)))]), oqD 71 (.bslice 39 2 1 [vI, vI] [(0, (tD 70))]) (.ty T_api_Change), oqD 72 (.app 39 2 [vI, vI] 16 (tD 68) (tD 71)) (.ty T_api_Change), mvD 8 72] [[], [], [1], [2], [0, 3], [4, 4, 0, 1, 2, 3, 4]] false) .skip))
 (.join ⟨[9], (.cons (.own .own 39 T_api_Change) .nil), [], .nil, [2, 3, 7, 8, 10, 11, 12, 15], [0, 16, 227, 580, 581]⟩
 (.join ⟨[90], (.cons (.hole .bool) .nil), [], .nil, [2, 3, 7, 8, 9, 10, 11, 12, 15], [0, 16, 226, 227, 580, 581]⟩
 (.region [mvD 73 12, mvD 74 73, ogD 75 74 false (.mov (tD 13)), opD 76 (.pick (tD 74) (.const (.bool true)) (tD 75)), mvD 77 76, ogD 78 77 true (.mov (tD 14)), ogD 79 77 true (.not (tD 78)), opD 80 (.pick (tD 77) (tD 79) (.const vB)), mvD 81 80, ogD 82 81 true (.mov (tD 15)), ogD 83 81 true (.not (tD 82)), opD 84 (.pick (tD 81) (tD 83) (.const vB)), mvD 85 84, ogD 86 85 false (.mov (tD 12)), ogD 87 85 false (.mov (tD 86)), ogD 88 87 true (.mov (tD 15)), ogD 89 85 false (.pick (tD 87) (tD 88) (.const vB)), opD 90 (.pick (tD 85) (.const (.bool true)) (tD 89))] [[], [0], [1], [1, 2], [3, 1], [4], [5, 4], [4, 6], [7, 4], [8], [9, 8], [8, 10], [11, 8], [12], [13, 12, 12], [14], [14, 15, 12], [12, 16]] false)
 (.cond (.tmp 90) (.region [mvD 91 9, mvD 92 11, opD 93 (.build 2 [vI, vI] [(0, (1, (cD 3))), (1, (1, (tD 92)))]), oqD 94 (.bslice 39 2 1 [vI, vI] [(0, (tD 93))]) (.ty T_api_Change), oqD 95 (.app 39 2 [vI, vI] 16 (tD 91) (tD 94)) (.ty T_api_Change), mvD 9 95] [[], [], [1], [2], [0, 3], [4, 4, 0, 1, 2, 3, 4]] false) .skip))
 (.join ⟨[99], (.cons (.hole .bool) .nil), [], .nil, [2, 3, 7, 8, 9, 10, 11], [0, 16, 227, 580, 581, 582]⟩
 (.region [mvD 96 12, mvD 97 96, ogD 98 97 true (.mov (tD 15)), opD 99 (.pick (tD 97) (tD 98) (.const vB))] [[], [0], [1], [1, 2]] false)
 (.cond (.tmp 99) (.region [mvD 100 10, mvD 101 11, opD 102 (.build 2 [vI, vI] [(0, (1, (cD 1))), (1, (1, (tD 101)))]), oqD 103 (.bslice 39 2 1 [vI, vI] [(0, (tD 102))]) (.ty T_api_Change), oqD 104 (.app 39 2 [vI, vI] 16 (tD 100) (tD 103)) (.ty T_api_Change), mvD 10 104] [[], [], [1], [2], [0, 3], [4, 4, 0, 1, 2, 3, 4]] false) .skip)))))))))) (.region [mvD 28 11, opD 29 (.bin .add (tD 28) (cD 1)), mvD 11 29] [[], [0], [1, 0, 1]] false)))))) (.seq (.region [mvD 105 7, mvD 106 8, oqD 107 (.app 39 2 [vI, vI] 16 (tD 105) (tD 106)) (.ty T_api_Change), mvD 16 107] [[], [], [0, 1], [2, 2, 0, 1, 2]] false) (.seq (.region [mvD 108 16, mvD 109 9, oqD 110 (.app 39 2 [vI, vI] 16 (tD 108) (tD 109)) (.ty T_api_Change), mvD 16 110] [[], [], [0, 1], [2, 2, 0, 1, 2]] false) (.seq (.region [mvD 111 16, mvD 112 10, oqD 113 (.app 39 2 [vI, vI] 16 (tD 111) (tD 112)) (.ty T_api_Change), mvD 4 113, opD 5 (.mov (cD 0))] [[], [], [0, 1], [2, 2, 0, 1, 2], [3, 0, 1, 2, 3]] false) .ret))))))))))))
set_option maxRecDepth 1000000 in
theorem v23 (fu : Nat) : evF fu (d23 fu) rs23 114 (e23 fu).ash (e23 fu).osh (e23 fu).vsh = p23 fu := by kernel_rfl
set_option maxRecDepth 1000000 in
theorem b23 (fu : Nat) : BodyD Try.prog 23 114 (d23 fu).erase rs23 := bodyD_mk Try.func23 (by kernel_rfl) (by kernel_rfl) (by kernel_rfl) (by kernel_rfl)
theorem g23 (fu : Nat) : (e23 fu).Good Try.prog := good_by orders (b23 fu) (l := [e11 fu, e11 fu, e15 fu, e15 fu, e15 fu, e15 fu]) (by kernel_rfl) ⟨g11 fu, g11 fu, g15 fu, g15 fu, g15 fu, g15 fu, trivial⟩ (by kernel_rfl) (v23 fu)
def rs6 : List RVx := [(.tmp 4)]
/-- gazette/gazettelaw08.RaftconfPaths -/
def p6 (fu : Nat) : ((List (Int)) × ((List (Int)) × (Unit))) × (((List (Int)) × ((List (Int)) × (Unit))) × (Unit)) → Option ((Unit) × (Bool)) := fun ⟨⟨a, c, _⟩, ⟨f, h, _⟩, _⟩ =>
Option.bind (p8 fu ()) fun ⟨_, i⟩ =>
Option.bind (p22 fu ((a, c, ()), (f, h, ()), ())) fun ⟨_, ⟨j, k, _⟩⟩ =>
Option.bind (p23 fu ((a, c, ()), (f, h, ()), ())) fun ⟨_, ⟨l, m, _⟩⟩ =>
bif !i then
 some ((), false)
else
 bif (k != m) then
 some ((), false)
 else
 bif (((List.length j) : Int) != ((List.length l) : Int)) then
 some ((), false)
 else
 loopO (S := ((Int) × (Unit)) × (Unit)) fu (fun ⟨⟨n, _⟩, _⟩ =>
 bif decide (n < ((List.length j) : Int)) then
 bif decide ((0 : Int) ≤ n ∧ n < (List.length j : Int)) then
 bif decide (Int.toNat n < List.length j) then
 bif decide ((0 : Int) ≤ n ∧ n < (List.length l : Int)) then
 bif decide (Int.toNat n < List.length l) then
 bif !(((List.getD j (Int.toNat n) (dflt T_api_Change)).1) == ((List.getD l (Int.toNat n) (dflt T_api_Change)).1) && (((List.getD j (Int.toNat n) (dflt T_api_Change)).2) == ((List.getD l (Int.toNat n) (dflt T_api_Change)).2) && true)) then
 inrO (some ((), false))
 else
 some (.inl ((IntKind.wrap .i64 (n + (1 : Int)), ()), ()))
 else none
 else none
 else none
 else none
 else
 inrO (bif (k != (0 : Int)) then
 some ((), true)
 else
 Option.bind (p9 fu ((a, c, ()), ())) fun ⟨_, ⟨o, q, _⟩⟩ =>
 bif decide (List.length o = List.length o) then
 bif decide (List.length q = List.length q) then
 loopO (S := ((Int) × (Unit)) × (((List (Int)) × ((List (Int)) × (Unit))) × (Unit))) fu (fun ⟨⟨s, _⟩, ⟨⟨t, u, _⟩, _⟩⟩ =>
 bif decide (s < ((List.length j) : Int)) then
 bif decide ((0 : Int) ≤ s ∧ s < (List.length j : Int)) then
 bif decide (Int.toNat s < List.length j) then
 bif decide (List.length t = List.length t) then
 bif decide (List.length u = List.length u) then
 Option.bind (p18 fu ((t, u, ()), ((List.getD j (Int.toNat s) (dflt T_api_Change)).1, (List.getD j (Int.toNat s) (dflt T_api_Change)).2, ()), ())) fun ⟨_, ⟨⟨w, x, _⟩, y, _⟩⟩ =>
 bif (y != (0 : Int)) then
 inrO (some ((), false))
 else
 bif decide (List.length w = List.length w) then
 bif decide (List.length x = List.length x) then
 some (.inl ((IntKind.wrap .i64 (s + (1 : Int)), ()), ((w, x, ()), ())))
 else none
 else none
 else none
 else none
 else none
 else none
 else
 inrO (bif decide (List.length t = List.length t) then
 bif decide (List.length u = List.length u) then
 Option.bind (p17 fu ((t, u, ()), (f, h, ()), ())) fun ⟨_, z⟩ =>
 some ((), z)
 else none
 else none))
 (((0 : Int), ()), ((o, q, ()), ()))
 else none
 else none))
 (((0 : Int), ()), ())
def e6 (fu : Nat) : Ent := ⟨6, (.cons (.agg 2 (.cons (.hole (.sl (.int .i64))) (.cons (.hole (.sl (.int .i64))) .nil))) (.cons (.agg 2 (.cons (.hole (.sl (.int .i64))) (.cons (.hole (.sl (.int .i64))) .nil))) .nil)), .nil, (.hole .bool), p6 fu⟩
def d6 (fu : Nat) : DC := (.seq (.region [opD 2 (.box 24 2 (tD 0)), opD 3 (.box 24 2 (tD 1)), opD 4 (.mov (.const vB))] [[], [], []] false) (.seq (.region [oqD 15 (.call 8 []) (.ent (e8 fu)), mvD 5 15] [[], [0, 0, 0]] false) (.seq (.region [opD 17 (.load true 2 (tD 2)), opD 18 (.load true 2 (tD 3)), oqD 19 (.call 22 [(tD 17), (tD 18)]) (.ent (e22 fu)), mvD 16 19, opD 20 (.ext (tD 16) 0), opD 21 (.ext (tD 16) 1), mvD 6 20, mvD 7 21] [[], [], [0, 1], [2], [3], [3], [4, 2, 0, 1, 2, 3, 4], [5, 6, 0, 1, 2, 3, 4, 5, 6]] false) (.seq (.region [opD 23 (.load true 2 (tD 2)), opD 24 (.load true 2 (tD 3)), oqD 25 (.call 23 [(tD 23), (tD 24)]) (.ent (e23 fu)), mvD 22 25, opD 26 (.ext (tD 22) 0), opD 27 (.ext (tD 22) 1), mvD 8 26, mvD 9 27] [[], [], [0, 1], [2], [3], [3], [4, 2, 0, 1, 2, 3, 4], [5, 6, 0, 1, 2, 3, 4, 5, 6]] false) (.seq (.seq (.region [mvD 28 5, opD 29 (.not (tD 28)), mvD 30 29, ogD 31 30 false (.mov (tD 7)), ogD 32 30 false (.mov (tD 9)), ogD 33 30 false (.bin .neq (tD 31) (tD 32)), opD 34 (.pick (tD 30) (.const (.bool true)) (tD 33)), mvD 35 34, ogD 36 35 false (.mov (tD 6)), ogD 37 35 false (.len false (tD 36)), ogD 38 35 false (.mov (tD 8)), ogD 39 35 false (.len false (tD 38)), ogD 40 35 false (.bin .neq (tD 37) (tD 39)), opD 41 (.pick (tD 35) (.const (.bool true)) (tD 40))] [[], [0], [1], [2], [2], [3, 4, 2], [2, 5], [6, 2], [7], [8, 7], [7], [10, 7], [9, 11, 7], [7, 12]] false) (.cond (.tmp 41) (.seq (.region [opD 4 (.mov (.const vB))] [[]] false) .ret) .skip)) (.seq (.seq (.region [opD 10 (.mov (cD 0))] [[]] false) (.block 0 (.loop ⟨[10], (.cons (.hole (.int .i64)) .nil), [], .nil, [2, 3, 6, 7, 8], [0, 16, 112, 240]⟩
 (.seq (.seq (.region [mvD 42 10, mvD 43 6, opD 44 (.len false (tD 43)), opD 45 (.bin .lss (tD 42) (tD 44))] [[], [], [1], [0, 2]] false) (.cond (.tmp 45) .skip (.exit 0))) (.seq (.block 1 (.seq (.region [mvD 48 6, mvD 49 10, opD 50 (.iaddr 2 (tD 48) (tD 49)), opD 51 (.load true 2 (tD 50)), mvD 52 8, mvD 53 10, opD 54 (.iaddr 2 (tD 52) (tD 53)), opD 55 (.load true 2 (tD 54)), opD 56 (.seq true [.int, .int] (tD 51) (tD 55))] [[], [], [0, 1], [2], [], [], [4, 5], [6], [3, 7]] true) (.cond (.tmp 56) (.seq (.region [opD 4 (.mov (.const vB))] [[]] false) .ret) .skip))) (.region [mvD 46 10, opD 47 (.bin .add (tD 46) (cD 1)), mvD 10 47] [[], [0], [1, 0, 1]] false)))))) (.seq (.seq (.region [mvD 57 7, opD 58 (.bin .neq (tD 57) (cD 0))] [[], [0]] false) (.cond (.tmp 58) (.seq (.region [opD 4 (.mov (.const (.bool true)))] [[]] false) .ret) .skip)) (.seq (.region [opD 59 (.load true 2 (tD 2)), oqD 60 (.call 9 [(tD 59)]) (.ent (e9 fu)), opD 11 (.alloc 24 2 [vS, vS]), onD (.store 2 (tD 11) (tD 60))] [[], [0], [], [2, 1, 1, 0, 1, 2]] false) (.seq (.seq (.region [opD 12 (.mov (cD 0))] [[]] false) (.block 2 (.loop ⟨[12], (.cons (.hole (.int .i64)) .nil), [(704, 24, 2)], (.cons (.agg 2 (.cons (.own .own 3 (.int .i64)) (.cons (.own .own 3 (.int .i64)) .nil))) .nil), [3, 6, 11], [16, 112]⟩
 (.seq (.seq (.region [mvD 61 12, mvD 62 6, opD 63 (.len false (tD 62)), opD 64 (.bin .lss (tD 61) (tD 63))] [[], [], [1], [0, 2]] false) (.cond (.tmp 64) .skip (.exit 2))) (.seq (.block 3 (.seq (.region [opD 68 (.load true 2 (tD 11)), mvD 69 6, mvD 70 12, opD 71 (.iaddr 2 (tD 69) (tD 70)), opD 72 (.load true 2 (tD 71)), oqD 73 (.call 18 [(tD 68), (tD 72)]) (.ent (e18 fu)), mvD 67 73, opD 74 (.ext (tD 67) 0), opD 75 (.ext (tD 67) 1), opD 13 (.alloc 24 2 [vS, vS]), onD (.store 2 (tD 13) (tD 74)), mvD 14 75] [[], [], [], [1, 2], [3], [0, 4], [5], [6], [6], [], [9, 7, 5, 0, 1, 2, 3, 4, 5, 6, 7, 9], [8, 10, 0, 1, 2, 3, 4, 5, 6, 7, 8, 9, 10]] true) (.seq (.seq (.region [mvD 76 14, opD 77 (.bin .neq (tD 76) (cD 0))] [[], [0]] false) (.cond (.tmp 77) (.seq (.region [opD 4 (.mov (.const vB))] [[]] false) .ret) .skip)) (.region [opD 78 (.load true 2 (tD 13)), onD (.store 2 (tD 11) (tD 78))] [[], [0, 0]] false)))) (.region [mvD 65 12, opD 66 (.bin .add (tD 65) (cD 1)), mvD 12 66] [[], [0], [1, 0, 1]] false)))))) (.seq (.region [opD 79 (.load true 2 (tD 11)), opD 80 (.load true 2 (tD 3)), oqD 81 (.call 17 [(tD 79), (tD 80)]) (.ent (e17 fu)), mvD 4 81] [[], [], [0, 1], [2, 2, 0, 1, 2]] false) .ret))))))))))
set_option maxRecDepth 1000000 in
theorem v6 (fu : Nat) : evF fu (d6 fu) rs6 82 (e6 fu).ash (e6 fu).osh (e6 fu).vsh = p6 fu := by kernel_rfl
set_option maxRecDepth 1000000 in
theorem b6 (fu : Nat) : BodyD Try.prog 6 82 (d6 fu).erase rs6 := bodyD_mk Try.func6 (by kernel_rfl) (by kernel_rfl) (by kernel_rfl) (by kernel_rfl)
theorem g6 (fu : Nat) : (e6 fu).Good Try.prog := good_by orders (b6 fu) (l := [e8 fu, e22 fu, e23 fu, e9 fu, e18 fu, e17 fu]) (by kernel_rfl) ⟨g8 fu, g22 fu, g23 fu, g9 fu, g18 fu, g17 fu, trivial⟩ (by kernel_rfl) (v6 fu)
def rs7 : List RVx := [(.tmp 4)]
/-- gazette/gazettelaw08.RaftconfSteps -/
def p7 (fu : Nat) : ((List (Int)) × ((List (Int)) × (Unit))) × (((List (Int)) × ((List (Int)) × (Unit))) × (Unit)) → Option ((Unit) × (Bool)) := fun ⟨⟨a, c, _⟩, ⟨f, h, _⟩, _⟩ =>
Option.bind (p8 fu ()) fun ⟨_, i⟩ =>
Option.bind (p22 fu ((a, c, ()), (f, h, ()), ())) fun ⟨_, ⟨j, k, _⟩⟩ =>
Option.bind (p22 fu ((f, h, ()), (a, c, ()), ())) fun ⟨_, ⟨l, m, _⟩⟩ =>
orK (E := ((Bool) × (Unit)) × (Unit))
 (bif !i then
 some (.inl ((true, ()), ()))
 else
 bif (k != (0 : Int)) then
 some (.inl ((true, ()), ()))
 else
 some (.inl (((m != (0 : Int)), ()), ())))
 fun ⟨⟨n, _⟩, _⟩ =>
bif n then
 bif i then
 bif (k == (0 : Int)) == (m == (0 : Int)) then
 some ((), (((List.length j) : Int) == (0 : Int)))
 else
 some ((), false)
 else
 some ((), false)
else
 Option.bind (p9 fu ((a, c, ()), ())) fun ⟨_, ⟨o, q, _⟩⟩ =>
 bif decide (0 = List.length ([] : List (D_api_Change))) then
 bif decide (List.length j = List.length j) then
 bif decide (List.length ([] : List (D_api_Change)) + List.length j ≤ maxLen ∧ (List.length ([] : List (D_api_Change)) + List.length j) * 16 ≤ 140737488355328) then
 bif decide (List.length (([] : List (D_api_Change)) ++ j) = List.length (([] : List (D_api_Change)) ++ j)) then
 bif decide (List.length l = List.length l) then
 bif decide (List.length (([] : List (D_api_Change)) ++ j) + List.length l ≤ maxLen ∧ (List.length (([] : List (D_api_Change)) ++ j) + List.length l) * 16 ≤ 140737488355328) then
 bif decide (List.length o = List.length o) then
 bif decide (List.length q = List.length q) then
 loopO (S := ((Int) × (Unit)) × (((List (Int)) × ((List (Int)) × (Unit))) × (Unit))) fu (fun ⟨⟨s, _⟩, ⟨⟨t, u, _⟩, _⟩⟩ =>
 bif decide (s < ((List.length ((([] : List (D_api_Change)) ++ j) ++ l)) : Int)) then
 bif decide ((0 : Int) ≤ s ∧ s < (List.length ((([] : List (D_api_Change)) ++ j) ++ l) : Int)) then
 bif decide (Int.toNat s < List.length ((([] : List (D_api_Change)) ++ j) ++ l)) then
 bif decide (List.length t = List.length t) then
 bif decide (List.length u = List.length u) then
 Option.bind (p18 fu ((t, u, ()), ((List.getD ((([] : List (D_api_Change)) ++ j) ++ l) (Int.toNat s) (dflt T_api_Change)).1, (List.getD ((([] : List (D_api_Change)) ++ j) ++ l) (Int.toNat s) (dflt T_api_Change)).2, ()), ())) fun ⟨_, ⟨⟨w, x, _⟩, y, _⟩⟩ =>
 bif (y != (0 : Int)) then
 inrO (some ((), false))
 else
 bif (((List.length w) : Int) == (0 : Int)) then
 inrO (some ((), false))
 else
 bif decide (List.length w = List.length w) then
 bif decide (List.length x = List.length x) then
 some (.inl ((IntKind.wrap .i64 (s + (1 : Int)), ()), ((w, x, ()), ())))
 else none
 else none
 else none
 else none
 else none
 else none
 else
 inrO (Option.bind (p22 fu ((a, c, ()), (a, c, ()), ())) fun ⟨_, ⟨z, a0, _⟩⟩ =>
 bif decide (List.length t = List.length t) then
 bif decide (List.length u = List.length u) then
 Option.bind (p17 fu ((t, u, ()), (a, c, ()), ())) fun ⟨_, c0⟩ =>
 bif c0 then
 bif (a0 == (0 : Int)) then
 bif (((List.length z) : Int) == (0 : Int)) then
 some ((), decide (((List.length j) : Int) ≤ (21 : Int)))
 else
 some ((), false)
 else
 some ((), false)
 else
 some ((), false)
 else none
 else none))
 (((0 : Int), ()), ((o, q, ()), ()))
 else none
 else none
 else none
 else none
 else none
 else none
 else none
 else none
def e7 (fu : Nat) : Ent := ⟨7, (.cons (.agg 2 (.cons (.hole (.sl (.int .i64))) (.cons (.hole (.sl (.int .i64))) .nil))) (.cons (.agg 2 (.cons (.hole (.sl (.int .i64))) (.cons (.hole (.sl (.int .i64))) .nil))) .nil)), .nil, (.hole .bool), p7 fu⟩
def d7 (fu : Nat) : DC := (.seq (.region [opD 2 (.box 24 2 (tD 0)), opD 3 (.box 24 2 (tD 1)), opD 4 (.mov (.const vB))] [[], [], []] false) (.seq (.region [oqD 17 (.call 8 []) (.ent (e8 fu)), mvD 5 17] [[], [0, 0, 0]] false) (.seq (.region [opD 19 (.load true 2 (tD 2)), opD 20 (.load true 2 (tD 3)), oqD 21 (.call 22 [(tD 19), (tD 20)]) (.ent (e22 fu)), mvD 18 21, opD 22 (.ext (tD 18) 0), opD 23 (.ext (tD 18) 1), mvD 6 22, mvD 7 23] [[], [], [0, 1], [2], [3], [3], [4, 2, 0, 1, 2, 3, 4], [5, 6, 0, 1, 2, 3, 4, 5, 6]] false) (.seq (.region [opD 25 (.load true 2 (tD 3)), opD 26 (.load true 2 (tD 2)), oqD 27 (.call 22 [(tD 25), (tD 26)]) (.ent (e22 fu)), mvD 24 27, opD 28 (.ext (tD 24) 0), opD 29 (.ext (tD 24) 1), mvD 8 28, mvD 9 29] [[], [], [0, 1], [2], [3], [3], [4, 2, 0, 1, 2, 3, 4], [5, 6, 0, 1, 2, 3, 4, 5, 6]] false) (.seq (.join ⟨[39], (.cons (.hole .bool) .nil), [], .nil, [2, 5, 6, 7, 8, 9], [0, 112, 240]⟩
 (.region [mvD 30 5, opD 31 (.not (tD 30)), mvD 32 31, ogD 33 32 false (.mov (tD 7)), ogD 34 32 false (.bin .neq (tD 33) (cD 0)), opD 35 (.pick (tD 32) (.const (.bool true)) (tD 34)), mvD 36 35, ogD 37 36 false (.mov (tD 9)), ogD 38 36 false (.bin .neq (tD 37) (cD 0)), opD 39 (.pick (tD 36) (.const (.bool true)) (tD 38))] [[], [0], [1], [2], [3, 2], [2, 4], [5, 2], [6], [7, 6], [6, 8]] false)
 (.cond (.tmp 39) (.seq (.region [mvD 40 5, mvD 41 40, ogD 42 41 true (.mov (tD 7)), ogD 43 41 true (.bin .eql (tD 42) (cD 0)), ogD 44 41 true (.mov (tD 9)), ogD 45 41 true (.bin .eql (tD 44) (cD 0)), ogD 46 41 true (.beq false (tD 43) (tD 45)), opD 47 (.pick (tD 41) (tD 46) (.const vB)), mvD 48 47, ogD 49 48 true (.mov (tD 6)), ogD 50 48 true (.len false (tD 49)), ogD 51 48 true (.bin .eql (tD 50) (cD 0)), opD 52 (.pick (tD 48) (tD 51) (.const vB)), mvD 4 52] [[], [0], [1], [2, 1], [1], [4, 1], [3, 5, 1], [1, 6], [7, 1], [8], [9, 8], [10, 8], [8, 11], [12, 8, 0, 1, 2, 3, 4, 5, 6, 7, 8, 9, 10, 11, 12]] false) .ret) .skip)) (.seq (.region [opD 53 (.load true 2 (tD 2)), oqD 54 (.call 9 [(tD 53)]) (.ent (e9 fu)), opD 10 (.alloc 24 2 [vS, vS]), onD (.store 2 (tD 10) (tD 54))] [[], [0], [], [2, 1, 1, 0, 1, 2]] false) (.seq (.region [oqD 55 (.bslice 39 2 0 [vI, vI] []) (.ty T_api_Change), mvD 56 6, oqD 57 (.app 39 2 [vI, vI] 16 (tD 55) (tD 56)) (.ty T_api_Change), mvD 58 8, oqD 59 (.app 39 2 [vI, vI] 16 (tD 57) (tD 58)) (.ty T_api_Change), mvD 11 59] [[], [], [0, 1], [], [2, 3, 2], [4, 4, 0, 1, 2, 3, 4]] false) (.seq (.seq (.region [opD 12 (.mov (cD 0))] [[]] false) (.block 0 (.loop ⟨[12], (.cons (.hole (.int .i64)) .nil), [(368, 24, 2)], (.cons (.agg 2 (.cons (.own .own 3 (.int .i64)) (.cons (.own .own 3 (.int .i64)) .nil))) .nil), [2, 6, 10, 11], [0, 112, 400]⟩
 (.seq (.seq (.region [mvD 60 12, mvD 61 11, opD 62 (.len false (tD 61)), opD 63 (.bin .lss (tD 60) (tD 62))] [[], [], [1], [0, 2]] false) (.cond (.tmp 63) .skip (.exit 0))) (.seq (.block 1 (.seq (.region [opD 67 (.load true 2 (tD 10)), mvD 68 11, mvD 69 12, opD 70 (.iaddr 2 (tD 68) (tD 69)), opD 71 (.load true 2 (tD 70)), oqD 72 (.call 18 [(tD 67), (tD 71)]) (.ent (e18 fu)), mvD 66 72, opD 73 (.ext (tD 66) 0), opD 74 (.ext (tD 66) 1), opD 13 (.alloc 24 2 [vS, vS]), onD (.store 2 (tD 13) (tD 73)), mvD 14 74] [[], [], [], [1, 2], [3], [0, 4], [5], [6], [6], [], [9, 7, 5, 0, 1, 2, 3, 4, 5, 6, 7, 9], [8, 10, 0, 1, 2, 3, 4, 5, 6, 7, 8, 9, 10]] true) (.seq (.seq (.region [mvD 75 14, opD 76 (.bin .neq (tD 75) (cD 0)), mvD 77 76, ogD 78 77 false (.faddr 0 (tD 13)), ogD 79 77 false (.load false 1 (tD 78)), ogD 80 77 false (.len false (tD 79)), ogD 81 77 false (.bin .eql (tD 80) (cD 0)), opD 82 (.pick (tD 77) (.const (.bool true)) (tD 81))] [[], [0], [1], [2], [3, 2], [4, 2], [5, 2], [2, 6]] false) (.cond (.tmp 82) (.seq (.region [opD 4 (.mov (.const vB))] [[]] false) .ret) .skip)) (.region [opD 83 (.load true 2 (tD 13)), onD (.store 2 (tD 10) (tD 83))] [[], [0, 0]] false)))) (.region [mvD 64 12, opD 65 (.bin .add (tD 64) (cD 1)), mvD 12 65] [[], [0], [1, 0, 1]] false)))))) (.seq (.region [opD 85 (.load true 2 (tD 2)), opD 86 (.load true 2 (tD 2)), oqD 87 (.call 22 [(tD 85), (tD 86)]) (.ent (e22 fu)), mvD 84 87, opD 88 (.ext (tD 84) 0), opD 89 (.ext (tD 84) 1), mvD 15 88, mvD 16 89] [[], [], [0, 1], [2], [3], [3], [4, 2, 0, 1, 2, 3, 4], [5, 6, 0, 1, 2, 3, 4, 5, 6]] false) (.seq (.region [opD 90 (.load true 2 (tD 10)), opD 91 (.load true 2 (tD 2)), oqD 92 (.call 17 [(tD 90), (tD 91)]) (.ent (e17 fu)), mvD 93 92, ogD 94 93 true (.mov (tD 16)), ogD 95 93 true (.bin .eql (tD 94) (cD 0)), opD 96 (.pick (tD 93) (tD 95) (.const vB)), mvD 97 96, ogD 98 97 true (.mov (tD 15)), ogD 99 97 true (.len false (tD 98)), ogD 100 97 true (.bin .eql (tD 99) (cD 0)), opD 101 (.pick (tD 97) (tD 100) (.const vB)), mvD 102 101, ogD 103 102 true (.mov (tD 6)), ogD 104 102 true (.len false (tD 103)), ogD 105 102 true (.bin .leq (tD 104) (cD 21)), opD 106 (.pick (tD 102) (tD 105) (.const vB)), mvD 4 106] [[], [], [0, 1], [2, 2], [3], [4, 3], [3, 5], [6, 3], [7], [8, 7], [9, 7], [7, 10], [11, 7], [12], [13, 12], [14, 12], [12, 15], [16, 12, 0, 1, 2, 3, 4, 5, 6, 7, 8, 9, 10, 11, 12, 13, 14, 15, 16]] false) .ret))))))))))
set_option maxRecDepth 1000000 in
theorem v7 (fu : Nat) : evF fu (d7 fu) rs7 107 (e7 fu).ash (e7 fu).osh (e7 fu).vsh = p7 fu := by kernel_rfl
set_option maxRecDepth 1000000 in
theorem b7 (fu : Nat) : BodyD Try.prog 7 107 (d7 fu).erase rs7 := bodyD_mk Try.func7 (by kernel_rfl) (by kernel_rfl) (by kernel_rfl) (by kernel_rfl)
theorem g7 (fu : Nat) : (e7 fu).Good Try.prog := good_by orders (b7 fu) (l := [e8 fu, e22 fu, e22 fu, e9 fu, e18 fu, e22 fu, e17 fu]) (by kernel_rfl) ⟨g8 fu, g22 fu, g22 fu, g9 fu, g18 fu, g22 fu, g17 fu, trivial⟩ (by kernel_rfl) (v7 fu)
end Go.Proofs.Ytglholedidkbcaa
