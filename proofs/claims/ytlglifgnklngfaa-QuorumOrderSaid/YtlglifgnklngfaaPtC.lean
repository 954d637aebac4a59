/-
  The functions, typed.
-/
import Derived.Test.YtlglifgnklngfaaCmL
import Derived.Test.YtlglifgnklngfaaSrB
import Derived.Test.YtlglifgnklngfaaDaL
import Derived.Test.YtlglifgnklngfaaRows
namespace Go.Proofs.Ytlglifgnklngfaa
open Go.RowKit
abbrev T_runtime_errorAddressString : Tp := (.pair .str (.int .u64))
abbrev D_runtime_errorAddressString := (ByteArray) × (Int)
abbrev T_api_Ballot : Tp := (.pair (.int .i64) .bool)
abbrev D_api_Ballot := (Int) × (Bool)
abbrev T_api_Peer : Tp := (.pair (.int .i64) (.pair (.int .u64) (.int .u64)))
abbrev D_api_Peer := (Int) × ((Int) × (Int))
abbrev T_runtime_boundsError : Tp := (.pair (.int .i64) (.pair (.int .i64) (.pair .bool (.int .u8))))
abbrev D_runtime_boundsError := (Int) × ((Int) × ((Bool) × (Int)))
theorem orders : Try.prog.follows .mixedOrders = true := by kernel_rfl

def rs13 : List RVx := [(.tmp 2)]
/-- gazette/quorum.Most -/
def p13 (_ : Nat) : (Int) × (Unit) → Option ((Unit) × (Int)) := fun ⟨a, _⟩ =>
bif decide (a < (1 : Int)) then
 some ((), (0 : Int))
else
 some ((), IntKind.wrap .i64 ((IntKind.wrap .i64 (Int.tdiv a (2 : Int))) + (1 : Int)))
def e13 (fu : Nat) : Ent := ⟨13, (.cons (.hole (.int .i64)) .nil), .nil, (.hole (.int .i64)), p13 fu⟩
def d13 (_ : Nat) : DC := (.seq (.region [opD 2 (.mov (cD 0))] [[]] false) (.seq (.seq (.region [mvD 3 0, opD 4 (.bin .lss (tD 3) (cD 1))] [[], [0]] false) (.cond (.tmp 4) (.seq (.region [opD 2 (.mov (cD 0))] [[]] false) .ret) .skip)) (.seq (.region [mvD 5 0, opD 6 (.bin .quo (tD 5) (cD 2)), opD 7 (.bin .add (tD 6) (cD 1)), mvD 2 7] [[], [0], [1], [2, 0, 1, 2]] false) .ret)))
set_option maxRecDepth 1000000 in
theorem v13 (fu : Nat) : evF fu (d13 fu) rs13 8 (e13 fu).ash (e13 fu).osh (e13 fu).vsh = p13 fu := by kernel_rfl
set_option maxRecDepth 1000000 in
theorem b13 (fu : Nat) : BodyD Try.prog 13 8 (d13 fu).erase rs13 := bodyD_mk Try.func13 (by kernel_rfl) (by kernel_rfl) (by kernel_rfl) (by kernel_rfl)
theorem g13 (fu : Nat) : (e13 fu).Good Try.prog := good_by orders (b13 fu) (l := []) (by kernel_rfl) trivial (by kernel_rfl) (v13 fu)
def rs33 : List RVx := [(.tmp 2)]
/-- slices.Clone[[]int,int] -/
def p33 (_ : Nat) : (List (Int)) × (Unit) → Option ((Unit) × (List (Int))) := fun ⟨a, _⟩ =>
bif decide (0 < List.length a) then
 bif decide (0 = List.length ([] : List (Int))) then
 bif decide (List.length ([] : List (Int)) + List.length a ≤ maxLen ∧ (List.length ([] : List (Int)) + List.length a) * 8 ≤ 140737488355328) then
 bif decide (List.length (([] : List (Int)) ++ a) = List.length (([] : List (Int)) ++ a)) then
 some ((), (([] : List (Int)) ++ a))
 else none
 else none
 else none
else
 both (prodQ (denQ .unit) (denQ (.sl (.int .i64))))
 (some ((), []))
 (bif decide (0 = List.length ([] : List (Int))) then
 bif decide (List.length ([] : List (Int)) + List.length a ≤ maxLen ∧ (List.length ([] : List (Int)) + List.length a) * 8 ≤ 140737488355328) then
 bif decide (List.length (([] : List (Int)) ++ a) = List.length (([] : List (Int)) ++ a)) then
 some ((), (([] : List (Int)) ++ a))
 else none
 else none
 else none)
def e33 (fu : Nat) : Ent := ⟨33, (.cons (.hole (.sl (.int .i64))) .nil), .nil, (.own .own 3 (.int .i64)), p33 fu⟩
def d33 (_ : Nat) : DC := (.seq (.region [opD 2 (.mov (.const vS))] [[]] false) (.seq (.seq (.region [mvD 3 0, opD 4 (.pure (.nilq 3 false) [(tD 3)])] [[], [0]] false) (.cond (.tmp 4) (.seq (.region [opD 2 (.mov (.const vS))] [[]] false) .ret) .skip)) (.seq (.region [oqD 5 (.bslice 3 1 0 [vI] []) (.ty (.int .i64)), mvD 6 0, oqD 7 (.app 3 1 [vI] 8 (tD 5) (tD 6)) (.ty (.int .i64)), mvD 2 7] [[], [], [0, 1], [2, 2, 0, 1, 2]] false) .ret)))
set_option maxRecDepth 1000000 in
theorem v33 (fu : Nat) : evF fu (d33 fu) rs33 8 (e33 fu).ash (e33 fu).osh (e33 fu).vsh = p33 fu := by kernel_rfl
set_option maxRecDepth 1000000 in
theorem b33 (fu : Nat) : BodyD Try.prog 33 8 (d33 fu).erase rs33 := bodyD_mk Try.func33 (by kernel_rfl) (by kernel_rfl) (by kernel_rfl) (by kernel_rfl)
theorem g33 (fu : Nat) : (e33 fu).Good Try.prog := good_by orders (b33 fu) (l := []) (by kernel_rfl) trivial (by kernel_rfl) (v33 fu)
def rs19 : List RVx := [(.tmp 2)]
/-- gazette/quorum.distinct -/
def p19 (fu : Nat) : (List (Int)) × (Unit) → Option ((Unit) × (List (Int))) := fun ⟨a, _⟩ =>
Option.bind (p33 fu (a, ())) fun ⟨_, c⟩ =>
bif decide (List.length c = List.length c) then
 Option.bind (pSort fu (c, ())) fun ⟨⟨f, _⟩, _⟩ =>
 bif decide (List.length c = List.length f) then
 Option.bind (pCompact fu (f, ())) fun ⟨⟨_, _⟩, h⟩ =>
 bif decide (List.length h = List.length h) then
 some ((), h)
 else none
 else none
else none
def e19 (fu : Nat) : Ent := ⟨19, (.cons (.hole (.sl (.int .i64))) .nil), .nil, (.own .own 3 (.int .i64)), p19 fu⟩
def d19 (fu : Nat) : DC := (.seq (.region [opD 2 (.mov (.const vS))] [[]] false) (.seq (.region [mvD 4 0, oqD 5 (.call 33 [(tD 4)]) (.ent (e33 fu)), mvD 3 5] [[], [0], [1, 1, 0, 1]] false) (.seq (.region [mvD 6 3, oqD 7 (.call 34 [(tD 6)]) (.ent (eSort fu))] [[], [0]] false) (.seq (.region [mvD 8 3, oqD 9 (.call 35 [(tD 8)]) (.ent (eCompact fu)), mvD 2 9] [[], [0], [1, 1, 0, 1]] false) .ret))))
set_option maxRecDepth 1000000 in
theorem v19 (fu : Nat) : evF fu (d19 fu) rs19 10 (e19 fu).ash (e19 fu).osh (e19 fu).vsh = p19 fu := by kernel_rfl
set_option maxRecDepth 1000000 in
theorem b19 (fu : Nat) : BodyD Try.prog 19 10 (d19 fu).erase rs19 := bodyD_mk Try.func19 (by kernel_rfl) (by kernel_rfl) (by kernel_rfl) (by kernel_rfl)
theorem g19 (fu : Nat) : (e19 fu).Good Try.prog := good_by orders (b19 fu) (l := [e33 fu, eSort fu, eCompact fu]) (by kernel_rfl) ⟨g33 fu, gSort fu, gCompact fu, trivial⟩ (by kernel_rfl) (v19 fu)
def rs21 : List RVx := [(.tmp 2)]
/-- gazette/quorum.Has$1 -/
def p21 (_ : Nat) : (Int) × (Unit) → Option ((Unit) × (Int)) := fun ⟨a, _⟩ =>
some ((), a)
def e21 (fu : Nat) : Ent := ⟨21, (.cons (.hole (.int .i64)) .nil), .nil, (.hole (.int .i64)), p21 fu⟩
def d21 (_ : Nat) : DC := (.seq (.region [opD 2 (.mov (cD 0))] [[]] false) (.seq (.region [mvD 3 0, mvD 2 3] [[], [0, 0]] false) .ret))
set_option maxRecDepth 1000000 in
theorem v21 (fu : Nat) : evF fu (d21 fu) rs21 4 (e21 fu).ash (e21 fu).osh (e21 fu).vsh = p21 fu := by kernel_rfl
set_option maxRecDepth 1000000 in
theorem b21 (fu : Nat) : BodyD Try.prog 21 4 (d21 fu).erase rs21 := bodyD_mk Try.func21 (by kernel_rfl) (by kernel_rfl) (by kernel_rfl) (by kernel_rfl)
theorem g21 (fu : Nat) : (e21 fu).Good Try.prog := good_by orders (b21 fu) (l := []) (by kernel_rfl) trivial (by kernel_rfl) (v21 fu)
def rs22 : List RVx := [(.tmp 4)]
/-- gazette/quorum.first[int] -/
def p22 (_ : Nat) : (Int) × ((Int) × (Unit)) → Option ((Unit) × (Int)) := fun ⟨a, _, _⟩ =>
some ((), a)
def e22 (fu : Nat) : Ent := ⟨22, (.cons (.hole (.int .i64)) (.cons (.hole (.int .i64)) .nil)), .nil, (.hole (.int .i64)), p22 fu⟩
def d22 (_ : Nat) : DC := (.seq (.region [opD 4 (.mov (cD 0))] [[]] false) (.seq (.region [mvD 5 0, mvD 4 5] [[], [0, 0]] false) .ret))
set_option maxRecDepth 1000000 in
theorem v22 (fu : Nat) : evF fu (d22 fu) rs22 6 (e22 fu).ash (e22 fu).osh (e22 fu).vsh = p22 fu := by kernel_rfl
set_option maxRecDepth 1000000 in
theorem b22 (fu : Nat) : BodyD Try.prog 22 6 (d22 fu).erase rs22 := bodyD_mk Try.func22 (by kernel_rfl) (by kernel_rfl) (by kernel_rfl) (by kernel_rfl)
theorem g22 (fu : Nat) : (e22 fu).Good Try.prog := good_by orders (b22 fu) (l := []) (by kernel_rfl) trivial (by kernel_rfl) (v22 fu)
def rs20 : List RVx := [(.tmp 6)]
/-- gazette/quorum.byNode[int] -/
def p20 (fu : Nat) : (List (Int)) × (((Unit) × (Unit)) × (((Unit) × (Unit)) × (Unit))) → Option ((Unit) × (List ((Int) × (Int)))) := fun ⟨a, ⟨_, _⟩, ⟨_, _⟩, _⟩ =>
loopO (S := ((List ((Int) × (Int))) × ((Int) × (Unit))) × (Unit)) fu (fun ⟨⟨c, f, _⟩, _⟩ =>
 bif decide (f < (List.length a : Int)) then
 bif decide ((0 : Int) ≤ f ∧ f < (List.length a : Int)) then
 bif decide (Int.toNat f < List.length a) then
 Option.bind (p21 fu ((List.getD a (Int.toNat f) (dflt (.int .i64))), ())) fun ⟨_, h⟩ =>
 orK (E := ((Int) × (Unit)) × (Unit))
 (bif hasM (.int .i64) c h then
 Option.bind (p22 fu ((Option.getD (lookM (.int .i64) c h) (0 : Int)), (List.getD a (Int.toNat f) (dflt (.int .i64))), ())) fun ⟨_, i⟩ =>
 some (.inl ((i, ()), ()))
 else
 some (.inl (((List.getD a (Int.toNat f) (dflt (.int .i64))), ()), ())))
 fun ⟨⟨j, _⟩, _⟩ =>
 some (.inl (((setM (.int .i64) c h j), IntKind.wrap .i64 (f + (1 : Int)), ()), ()))
 else none
 else none
 else
 inrO (some ((), c)))
 ((([] : List (Int × Int)), (0 : Int), ()), ())
def e20 (fu : Nat) : Ent := ⟨20, (.cons (.hole (.sl (.int .i64))) (.cons (.clo 21 0 .nil 0 .nil) (.cons (.clo 22 0 .nil 0 .nil) .nil))), .nil, (.mown false (.int .i64) (.int .i64)), p20 fu⟩
def d20 (fu : Nat) : DC := (.seq (.region [opD 6 (.mov (.const (.map none)))] [[]] false) (.seq (.region [mvD 13 0, opD 14 (.len false (tD 13)), oqD 15 (.mkmap 43 false 1 (some (tD 14))) (.ty (.pair (.int .i64) (.int .i64))), mvD 7 15] [[], [0], [1], [2, 0, 1, 2]] false) (.seq (.seq (.region [mvD 16 0, opD 17 (.len false (tD 16)), opD 18 (.mov (cD 0))] [[], [0], []] false) (.block 0 (.loop ⟨[7, 18], (.cons (.mown false (.int .i64) (.int .i64)) (.cons (.hole (.int .i64)) .nil)), [], .nil, [1, 2, 16, 17], []⟩
 (.seq (.region [opD 19 (.bin .lss (tD 18) (tD 17))] [[]] false) (.seq (.cond (.tmp 19) .skip (.exit 0)) (.seq (.block 1 (.seq (.region [opD 20 (.iaddr 1 (tD 16) (tD 18)), opD 21 (.load false 1 (tD 20)), mvD 9 21] [[], [0], [1, 0, 1]] false) (.seq (.region [mvD 22 1, mvD 23 9, oqD 24 (.callv (tD 22) [(tD 23)]) (.ent (e21 fu)), mvD 10 24] [[], [], [0, 1], [2, 2, 0, 1, 2]] false) (.join ⟨[9], (.cons (.hole (.int .i64)) .nil), [], .nil, [1, 2, 7, 10, 16, 17, 18], [128]⟩
 (.seq (.region [mvD 26 7, mvD 27 10, opD 28 (.mlook (.int .i64) true false 1 [vI] (tD 26) (tD 27)), mvD 25 28, opD 29 (.ext (tD 25) 0), opD 30 (.ext (tD 25) 1), mvD 11 29, mvD 12 30] [[], [], [0, 1], [2], [3], [3], [4, 0, 1, 2, 3, 4], [5, 6, 0, 1, 2, 3, 4, 5, 6]] false) (.seq (.region [mvD 31 12] [[]] false) (.cond (.tmp 31) (.region [mvD 32 2, mvD 33 11, mvD 34 9, oqD 35 (.callv (tD 32) [(tD 33), (tD 34)]) (.ent (e22 fu)), mvD 9 35] [[], [], [], [0, 1, 2], [3, 3, 0, 1, 2, 3]] false) .skip)))
 (.region [mvD 36 7, mvD 37 10, mvD 38 9, onD (.mset (.int .i64) false 1 (tD 36) (tD 37) (tD 38))] [[], [], [], [0, 1, 2, 0, 1, 2]] false))))) (.region [opD 39 (.bin .add (tD 18) (cD 1)), mvD 18 39] [[], [0]] false))))))) (.seq (.region [mvD 40 7, mvD 6 40] [[], [0, 0]] false) .ret))))
set_option maxRecDepth 1000000 in
theorem v20 (fu : Nat) : evF fu (d20 fu) rs20 41 (e20 fu).ash (e20 fu).osh (e20 fu).vsh = p20 fu := by kernel_rfl
set_option maxRecDepth 1000000 in
theorem b20 (fu : Nat) : BodyD Try.prog 20 41 (d20 fu).erase rs20 := bodyD_mk Try.func20 (by kernel_rfl) (by kernel_rfl) (by kernel_rfl) (by kernel_rfl)
theorem g20 (fu : Nat) : (e20 fu).Good Try.prog := good_by orders (b20 fu) (l := [e21 fu, e22 fu]) (by kernel_rfl) ⟨g21 fu, g22 fu, trivial⟩ (by kernel_rfl) (v20 fu)
def rs11 : List RVx := [(.tmp 4)]
/-- gazette/quorum.Has -/
def p11 (fu : Nat) : (List (Int)) × ((List (Int)) × (Unit)) → Option ((Unit) × (Bool)) := fun ⟨a, c, _⟩ =>
Option.bind (p19 fu (a, ())) fun ⟨_, f⟩ =>
Option.bind (p20 fu (c, ((), ()), ((), ()), ())) fun ⟨_, h⟩ =>
loopO (S := ((Int) × ((Int) × (Unit))) × (Unit)) fu (fun ⟨⟨i, j, _⟩, _⟩ =>
 bif decide (j < ((List.length f) : Int)) then
 bif decide ((0 : Int) ≤ j ∧ j < (List.length f : Int)) then
 bif decide (Int.toNat j < List.length f) then
 bif hasM (.int .i64) h (List.getD f (Int.toNat j) (dflt (.int .i64))) then
 some (.inl ((IntKind.wrap .i64 (i + (1 : Int)), IntKind.wrap .i64 (j + (1 : Int)), ()), ()))
 else
 some (.inl ((i, IntKind.wrap .i64 (j + (1 : Int)), ()), ()))
 else none
 else none
 else
 inrO (bif decide (((List.length f) : Int) > (0 : Int)) then
 Option.bind (p13 fu (((List.length f) : Int), ())) fun ⟨_, k⟩ =>
 some ((), decide (i ≥ k))
 else
 some ((), false)))
 (((0 : Int), (0 : Int), ()), ())
def e11 (fu : Nat) : Ent := ⟨11, (.cons (.hole (.sl (.int .i64))) (.cons (.hole (.sl (.int .i64))) .nil)), .nil, (.hole .bool), p11 fu⟩
def d11 (fu : Nat) : DC := (.seq (.region [opD 4 (.mov (.const vB))] [[]] false) (.seq (.region [mvD 12 0, oqD 13 (.call 19 [(tD 12)]) (.ent (e19 fu)), mvD 5 13] [[], [0], [1, 1, 0, 1]] false) (.seq (.region [mvD 14 1, oqD 15 (.call 20 [(tD 14), (.func 21), (.func 22)]) (.ent (e20 fu)), mvD 6 15] [[], [0], [1, 1, 0, 1]] false) (.seq (.region [opD 7 (.mov (cD 0))] [[]] false) (.seq (.seq (.region [mvD 16 5, opD 17 (.len false (tD 16)), opD 18 (.mov (cD 0))] [[], [0], []] false) (.block 0 (.loop ⟨[7, 18], (.cons (.hole (.int .i64)) (.cons (.hole (.int .i64)) .nil)), [], .nil, [5, 6, 16, 17], [32, 80]⟩
 (.seq (.region [opD 19 (.bin .lss (tD 18) (tD 17))] [[]] false) (.seq (.cond (.tmp 19) .skip (.exit 0)) (.seq (.block 1 (.seq (.region [opD 20 (.iaddr 1 (tD 16) (tD 18)), opD 21 (.load false 1 (tD 20)), mvD 9 21] [[], [0], [1, 0, 1]] false) (.seq (.region [mvD 23 6, mvD 24 9, opD 25 (.mlook (.int .i64) true false 1 [vI] (tD 23) (tD 24)), mvD 22 25, opD 26 (.ext (tD 22) 0), opD 27 (.ext (tD 22) 1), mvD 10 26, mvD 11 27] [[], [], [0, 1], [2], [3], [3], [4, 0, 1, 2, 3, 4], [5, 6, 0, 1, 2, 3, 4, 5, 6]] false) (.seq (.region [mvD 28 11] [[]] false) (.cond (.tmp 28) (.region [mvD 29 7, opD 30 (.bin .add (tD 29) (cD 1)), mvD 7 30] [[], [0], [1, 0, 1]] false) .skip))))) (.region [opD 31 (.bin .add (tD 18) (cD 1)), mvD 18 31] [[], [0]] false))))))) (.seq (.region [mvD 32 5, opD 33 (.len false (tD 32)), opD 34 (.bin .gtr (tD 33) (cD 0)), mvD 35 34, ogD 36 35 true (.mov (tD 7)), ogD 37 35 true (.mov (tD 5)), ogD 38 35 true (.len false (tD 37)), (⟨(some 39), (some (35, true)), (.call 13 [(tD 38)])⟩, (.ent (e13 fu))), ogD 40 35 true (.bin .geq (tD 36) (tD 39)), opD 41 (.pick (tD 35) (tD 40) (.const vB)), mvD 4 41] [[], [0], [1], [2], [3], [3], [5, 3], [6, 3, 3], [4, 7, 3], [3, 8], [9, 7, 0, 1, 2, 3, 4, 5, 6, 7, 8, 9]] false) .ret))))))
set_option maxRecDepth 1000000 in
theorem v11 (fu : Nat) : evF fu (d11 fu) rs11 42 (e11 fu).ash (e11 fu).osh (e11 fu).vsh = p11 fu := by kernel_rfl
set_option maxRecDepth 1000000 in
theorem b11 (fu : Nat) : BodyD Try.prog 11 42 (d11 fu).erase rs11 := bodyD_mk Try.func11 (by kernel_rfl) (by kernel_rfl) (by kernel_rfl) (by kernel_rfl)
theorem g11 (fu : Nat) : (e11 fu).Good Try.prog := good_by orders (b11 fu) (l := [e19 fu, e20 fu, e13 fu]) (by kernel_rfl) ⟨g19 fu, g20 fu, g13 fu, trivial⟩ (by kernel_rfl) (v11 fu)
def rs24 : List RVx := [(.tmp 2)]
/-- gazette/quorum.Tally$1 -/
def p24 (_ : Nat) : ((Int) × ((Bool) × (Unit))) × (Unit) → Option ((Unit) × (Int)) := fun ⟨⟨a, _, _⟩, _⟩ =>
some ((), a)
def e24 (fu : Nat) : Ent := ⟨24, (.cons (.agg 2 (.cons (.hole (.int .i64)) (.cons (.hole .bool) .nil))) .nil), .nil, (.hole (.int .i64)), p24 fu⟩
def d24 (_ : Nat) : DC := (.seq (.region [opD 1 (.box 41 2 (tD 0)), opD 2 (.mov (cD 0))] [[], []] false) (.seq (.region [opD 3 (.faddr 0 (tD 1)), opD 4 (.load false 1 (tD 3)), mvD 2 4] [[], [0], [1, 0, 1]] false) .ret))
set_option maxRecDepth 1000000 in
theorem v24 (fu : Nat) : evF fu (d24 fu) rs24 5 (e24 fu).ash (e24 fu).osh (e24 fu).vsh = p24 fu := by kernel_rfl
set_option maxRecDepth 1000000 in
theorem b24 (fu : Nat) : BodyD Try.prog 24 5 (d24 fu).erase rs24 := bodyD_mk Try.func24 (by kernel_rfl) (by kernel_rfl) (by kernel_rfl) (by kernel_rfl)
theorem g24 (fu : Nat) : (e24 fu).Good Try.prog := good_by orders (b24 fu) (l := []) (by kernel_rfl) trivial (by kernel_rfl) (v24 fu)
def rs25 : List RVx := [(.cell 4 true 2)]
/-- gazette/quorum.first[gazette/api.Ballot] -/
def p25 (_ : Nat) : ((Int) × ((Bool) × (Unit))) × (((Int) × ((Bool) × (Unit))) × (Unit)) → Option ((Unit) × ((Int) × ((Bool) × (Unit)))) := fun ⟨⟨a, c, _⟩, ⟨_, _, _⟩, _⟩ =>
some ((), (a, c, ()))
def e25 (fu : Nat) : Ent := ⟨25, (.cons (.agg 2 (.cons (.hole (.int .i64)) (.cons (.hole .bool) .nil))) (.cons (.agg 2 (.cons (.hole (.int .i64)) (.cons (.hole .bool) .nil))) .nil)), .nil, (.agg 2 (.cons (.hole (.int .i64)) (.cons (.hole .bool) .nil))), p25 fu⟩
def d25 (_ : Nat) : DC := (.seq (.region [opD 2 (.box 41 2 (tD 0)), opD 3 (.box 41 2 (tD 1)), opD 4 (.alloc 41 2 [vI, vB])] [[], [], []] false) (.seq (.region [opD 5 (.load true 2 (tD 2)), onD (.store 2 (tD 4) (tD 5))] [[], [0, 0]] false) .ret))
set_option maxRecDepth 1000000 in
theorem v25 (fu : Nat) : evF fu (d25 fu) rs25 6 (e25 fu).ash (e25 fu).osh (e25 fu).vsh = p25 fu := by kernel_rfl
set_option maxRecDepth 1000000 in
theorem b25 (fu : Nat) : BodyD Try.prog 25 6 (d25 fu).erase rs25 := bodyD_mk Try.func25 (by kernel_rfl) (by kernel_rfl) (by kernel_rfl) (by kernel_rfl)
theorem g25 (fu : Nat) : (e25 fu).Good Try.prog := good_by orders (b25 fu) (l := []) (by kernel_rfl) trivial (by kernel_rfl) (v25 fu)
def rs23 : List RVx := [(.tmp 6)]
/-- gazette/quorum.byNode[gazette/api.Ballot] -/
def p23 (fu : Nat) : (List (D_api_Ballot)) × (((Unit) × (Unit)) × (((Unit) × (Unit)) × (Unit))) → Option ((Unit) × (List ((Int) × (D_api_Ballot)))) := fun ⟨a, ⟨_, _⟩, ⟨_, _⟩, _⟩ =>
loopO (S := ((List ((Int) × (D_api_Ballot))) × ((Int) × (Unit))) × (Unit)) fu (fun ⟨⟨c, f, _⟩, _⟩ =>
 bif decide (f < (List.length a : Int)) then
 bif decide ((0 : Int) ≤ f ∧ f < (List.length a : Int)) then
 bif decide (Int.toNat f < List.length a) then
 Option.bind (p24 fu (((List.getD a (Int.toNat f) (dflt T_api_Ballot)).1, (List.getD a (Int.toNat f) (dflt T_api_Ballot)).2, ()), ())) fun ⟨_, h⟩ =>
 orK (E := (Unit) × (((Int) × ((Bool) × (Unit))) × (Unit)))
 (bif hasM (.int .i64) c h then
 Option.bind (p25 fu (((Option.getD (lookM (.int .i64) c h) ((0 : Int), false)).1, (Option.getD (lookM (.int .i64) c h) ((0 : Int), false)).2, ()), ((List.getD a (Int.toNat f) (dflt T_api_Ballot)).1, (List.getD a (Int.toNat f) (dflt T_api_Ballot)).2, ()), ())) fun ⟨_, ⟨i, j, _⟩⟩ =>
 some (.inl ((), ((i, j, ()), ())))
 else
 some (.inl ((), (((List.getD a (Int.toNat f) (dflt T_api_Ballot)).1, (List.getD a (Int.toNat f) (dflt T_api_Ballot)).2, ()), ()))))
 fun ⟨_, ⟨⟨k, l, _⟩, _⟩⟩ =>
 some (.inl (((setM (.int .i64) c h (k, l)), IntKind.wrap .i64 (f + (1 : Int)), ()), ()))
 else none
 else none
 else
 inrO (some ((), c)))
 ((([] : List (Int × D_api_Ballot)), (0 : Int), ()), ())
def e23 (fu : Nat) : Ent := ⟨23, (.cons (.hole (.sl T_api_Ballot)) (.cons (.clo 24 0 .nil 0 .nil) (.cons (.clo 25 0 .nil 0 .nil) .nil))), .nil, (.mown true (.int .i64) T_api_Ballot), p23 fu⟩
def d23 (fu : Nat) : DC := (.seq (.region [opD 6 (.mov (.const (.map none)))] [[]] false) (.seq (.region [mvD 13 0, opD 14 (.len false (tD 13)), oqD 15 (.mkmap 47 true 2 (some (tD 14))) (.ty (.pair (.int .i64) T_api_Ballot)), mvD 7 15] [[], [0], [1], [2, 0, 1, 2]] false) (.seq (.seq (.region [mvD 16 0, opD 17 (.len false (tD 16)), opD 18 (.mov (cD 0))] [[], [0], []] false) (.block 0 (.loop ⟨[7, 18], (.cons (.mown true (.int .i64) T_api_Ballot) (.cons (.hole (.int .i64)) .nil)), [], .nil, [1, 2, 16, 17], []⟩
 (.seq (.region [opD 19 (.bin .lss (tD 18) (tD 17))] [[]] false) (.seq (.cond (.tmp 19) .skip (.exit 0)) (.seq (.block 1 (.seq (.region [opD 20 (.iaddr 2 (tD 16) (tD 18)), opD 21 (.load true 2 (tD 20)), opD 9 (.alloc 41 2 [vI, vB]), onD (.store 2 (tD 9) (tD 21))] [[], [0], [], [2, 1, 0, 1, 2]] false) (.seq (.region [mvD 22 1, opD 23 (.load true 2 (tD 9)), oqD 24 (.callv (tD 22) [(tD 23)]) (.ent (e24 fu)), mvD 10 24] [[], [], [0, 1], [2, 2, 0, 1, 2]] false) (.join ⟨[], .nil, [(177, 41, 2)], (.cons (.agg 2 (.cons (.hole (.int .i64)) (.cons (.hole .bool) .nil))) .nil), [1, 2, 7, 9, 10, 16, 17, 18], [128]⟩
 (.seq (.region [mvD 26 7, mvD 27 10, opD 28 (.mlook (.int .i64) true true 2 [vI, vB] (tD 26) (tD 27)), mvD 25 28, opD 29 (.ext (tD 25) 0), opD 30 (.ext (tD 25) 1), opD 11 (.alloc 41 2 [vI, vB]), onD (.store 2 (tD 11) (tD 29)), mvD 12 30] [[], [], [0, 1], [2], [3], [3], [], [6, 4, 0, 1, 2, 3, 4, 6], [5, 7, 0, 1, 2, 3, 4, 5, 6, 7]] false) (.seq (.region [mvD 31 12] [[]] false) (.cond (.tmp 31) (.region [mvD 32 2, opD 33 (.load true 2 (tD 11)), opD 34 (.load true 2 (tD 9)), oqD 35 (.callv (tD 32) [(tD 33), (tD 34)]) (.ent (e25 fu)), onD (.store 2 (tD 9) (tD 35))] [[], [], [], [0, 1, 2], [3, 3, 0, 1, 2, 3]] false) .skip)))
 (.region [mvD 36 7, mvD 37 10, opD 38 (.load true 2 (tD 9)), onD (.mset (.int .i64) true 2 (tD 36) (tD 37) (tD 38))] [[], [], [], [0, 1, 2, 0, 1, 2]] false))))) (.region [opD 39 (.bin .add (tD 18) (cD 1)), mvD 18 39] [[], [0]] false))))))) (.seq (.region [mvD 40 7, mvD 6 40] [[], [0, 0]] false) .ret))))
set_option maxRecDepth 1000000 in
theorem v23 (fu : Nat) : evF fu (d23 fu) rs23 41 (e23 fu).ash (e23 fu).osh (e23 fu).vsh = p23 fu := by kernel_rfl
set_option maxRecDepth 1000000 in
theorem b23 (fu : Nat) : BodyD Try.prog 23 41 (d23 fu).erase rs23 := bodyD_mk Try.func23 (by kernel_rfl) (by kernel_rfl) (by kernel_rfl) (by kernel_rfl)
theorem g23 (fu : Nat) : (e23 fu).Good Try.prog := good_by orders (b23 fu) (l := [e24 fu, e25 fu]) (by kernel_rfl) ⟨g24 fu, g25 fu, trivial⟩ (by kernel_rfl) (v23 fu)
def rs12 : List RVx := [(.tmp 4)]
/-- gazette/quorum.Tally -/
def p12 (fu : Nat) : (List (Int)) × ((List (D_api_Ballot)) × (Unit)) → Option ((Unit) × (Int)) := fun ⟨a, c, _⟩ =>
Option.bind (p19 fu (a, ())) fun ⟨_, f⟩ =>
Option.bind (p23 fu (c, ((), ()), ((), ()), ())) fun ⟨_, h⟩ =>
loopO (S := ((Int) × ((Int) × ((Int) × (Unit)))) × (Unit)) fu (fun ⟨⟨i, j, k, _⟩, _⟩ =>
 bif decide (k < ((List.length f) : Int)) then
 bif decide ((0 : Int) ≤ k ∧ k < (List.length f : Int)) then
 bif decide (Int.toNat k < List.length f) then
 orK (E := ((Bool) × (Unit)) × (Unit))
 (bif hasM (.int .i64) h (List.getD f (Int.toNat k) (dflt (.int .i64))) then
 some (.inl (((Option.getD (lookM (.int .i64) h (List.getD f (Int.toNat k) (dflt (.int .i64)))) ((0 : Int), false)).2, ()), ()))
 else
 some (.inl ((false, ()), ())))
 fun ⟨⟨l, _⟩, _⟩ =>
 bif l then
 some (.inl ((IntKind.wrap .i64 (i + (1 : Int)), j, IntKind.wrap .i64 (k + (1 : Int)), ()), ()))
 else
 bif hasM (.int .i64) h (List.getD f (Int.toNat k) (dflt (.int .i64))) then
 some (.inl ((i, IntKind.wrap .i64 (j + (1 : Int)), IntKind.wrap .i64 (k + (1 : Int)), ()), ()))
 else
 some (.inl ((i, j, IntKind.wrap .i64 (k + (1 : Int)), ()), ()))
 else none
 else none
 else
 inrO (Option.bind (p13 fu (((List.length f) : Int), ())) fun ⟨_, m⟩ =>
 bif (((List.length f) : Int) == (0 : Int)) then
 some ((), (0 : Int))
 else
 bif decide (i ≥ m) then
 some ((), (1 : Int))
 else
 bif decide ((IntKind.wrap .i64 (((List.length f) : Int) - j)) < m) then
 some ((), ((-1) : Int))
 else
 some ((), (0 : Int))))
 (((0 : Int), (0 : Int), (0 : Int), ()), ())
def e12 (fu : Nat) : Ent := ⟨12, (.cons (.hole (.sl (.int .i64))) (.cons (.hole (.sl T_api_Ballot)) .nil)), .nil, (.hole (.int .i64)), p12 fu⟩
def d12 (fu : Nat) : DC := (.seq (.region [opD 4 (.mov (cD 0))] [[]] false) (.seq (.region [mvD 14 0, oqD 15 (.call 19 [(tD 14)]) (.ent (e19 fu)), mvD 5 15] [[], [0], [1, 1, 0, 1]] false) (.seq (.region [mvD 16 1, oqD 17 (.call 23 [(tD 16), (.func 24), (.func 25)]) (.ent (e23 fu)), mvD 6 17] [[], [0], [1, 1, 0, 1]] false) (.seq (.region [opD 7 (.mov (cD 0)), opD 8 (.mov (cD 0))] [[], [0, 0]] false) (.seq (.seq (.region [mvD 18 5, opD 19 (.len false (tD 18)), opD 20 (.mov (cD 0))] [[], [0], []] false) (.block 0 (.loop ⟨[7, 8, 20], (.cons (.hole (.int .i64)) (.cons (.hole (.int .i64)) (.cons (.hole (.int .i64)) .nil))), [], .nil, [5, 6, 18, 19], [32, 80]⟩
 (.seq (.region [opD 21 (.bin .lss (tD 20) (tD 19))] [[]] false) (.seq (.cond (.tmp 21) .skip (.exit 0)) (.seq (.block 1 (.seq (.region [opD 22 (.iaddr 1 (tD 18) (tD 20)), opD 23 (.load false 1 (tD 22)), mvD 10 23] [[], [0], [1, 0, 1]] false) (.seq (.region [mvD 25 6, mvD 26 10, opD 27 (.mlook (.int .i64) true true 2 [vI, vB] (tD 25) (tD 26)), mvD 24 27, opD 28 (.ext (tD 24) 0), opD 29 (.ext (tD 24) 1), opD 11 (.alloc 41 2 [vI, vB]), onD (.store 2 (tD 11) (tD 28)), mvD 12 29] [[], [], [0, 1], [2], [3], [3], [], [6, 4, 0, 1, 2, 3, 4, 6], [5, 7, 0, 1, 2, 3, 4, 5, 6, 7]] false) (.block 2 (.join ⟨[30], (.cons (.hole .bool) .nil), [], .nil, [5, 6, 7, 8, 12, 18, 19, 20], [32, 80]⟩
 (.region [mvD 31 12, mvD 32 31, ogD 33 32 true (.faddr 1 (tD 11)), ogD 34 32 true (.load false 1 (tD 33)), opD 35 (.pick (tD 32) (tD 34) (.const vB)), mvD 30 35] [[], [0], [1], [2, 1], [1, 3], [4, 1]] false)
 (.cond (.tmp 30) (.region [mvD 36 7, opD 37 (.bin .add (tD 36) (cD 1)), mvD 7 37] [[], [0], [1, 0, 1]] false) (.seq (.region [mvD 39 12, mvD 38 39] [[], [0]] false) (.cond (.tmp 38) (.region [mvD 40 8, opD 41 (.bin .add (tD 40) (cD 1)), mvD 8 41] [[], [0], [1, 0, 1]] false) .skip)))))))) (.region [opD 42 (.bin .add (tD 20) (cD 1)), mvD 20 42] [[], [0]] false))))))) (.seq (.seq (.region [mvD 43 5, opD 44 (.len false (tD 43)), oqD 45 (.call 13 [(tD 44)]) (.ent (e13 fu)), mvD 13 45] [[], [0], [1], [2, 2, 0, 1, 2]] false) (.block 3 (.seq (.region [mvD 47 5, opD 48 (.len false (tD 47)), opD 49 (.bin .eql (tD 48) (cD 0)), mvD 46 49] [[], [0], [1], [2]] false) (.cond (.tmp 46) (.seq (.region [opD 4 (.mov (cD 0))] [[]] false) .ret) (.seq (.region [mvD 51 7, mvD 52 13, opD 53 (.bin .geq (tD 51) (tD 52)), mvD 50 53] [[], [], [0, 1], [2]] false) (.cond (.tmp 50) (.seq (.region [opD 4 (.mov (cD 1))] [[]] false) .ret) (.seq (.region [mvD 55 5, opD 56 (.len false (tD 55)), mvD 57 8, opD 58 (.bin .sub (tD 56) (tD 57)), mvD 59 13, opD 60 (.bin .lss (tD 58) (tD 59)), mvD 54 60] [[], [0], [], [1, 2], [], [3, 4], [5]] false) (.cond (.tmp 54) (.seq (.region [opD 4 (.mov (.const (.int .i64 (-1))))] [[]] false) .ret) .skip)))))))) (.seq (.region [opD 4 (.mov (cD 0))] [[]] false) .ret)))))))
set_option maxRecDepth 1000000 in
theorem v12 (fu : Nat) : evF fu (d12 fu) rs12 61 (e12 fu).ash (e12 fu).osh (e12 fu).vsh = p12 fu := by kernel_rfl
set_option maxRecDepth 1000000 in
theorem b12 (fu : Nat) : BodyD Try.prog 12 61 (d12 fu).erase rs12 := bodyD_mk Try.func12 (by kernel_rfl) (by kernel_rfl) (by kernel_rfl) (by kernel_rfl)
theorem g12 (fu : Nat) : (e12 fu).Good Try.prog := good_by orders (b12 fu) (l := [e19 fu, e23 fu, e13 fu]) (by kernel_rfl) ⟨g19 fu, g23 fu, g13 fu, trivial⟩ (by kernel_rfl) (v12 fu)
def rs10 : List RVx := [(.tmp 0)]
/-- gazette/gazettelaw07.head -/
def p10 (fu : Nat) : Unit → Option ((Unit) × (Bool)) := fun _ =>
Option.bind (p13 fu ((4 : Int), ())) fun ⟨_, a⟩ =>
bif (a == (3 : Int)) then
 Option.bind (p11 fu ([(1 : Int), (2 : Int), (3 : Int)], [(3 : Int), (1 : Int)], ())) fun ⟨_, c⟩ =>
 bif c then
 Option.bind (p12 fu ([(1 : Int), (2 : Int), (3 : Int)], [((1 : Int), true), ((3 : Int), true)], ())) fun ⟨_, f⟩ =>
 some ((), (f == (1 : Int)))
 else
 some ((), false)
else
 some ((), false)
def e10 (fu : Nat) : Ent := ⟨10, .nil, .nil, (.hole .bool), p10 fu⟩
def d10 (fu : Nat) : DC := (.seq (.region [opD 0 (.mov (.const vB))] [[]] false) (.seq (.region [oqD 1 (.call 13 [(cD 4)]) (.ent (e13 fu)), opD 2 (.bin .eql (tD 1) (cD 3)), mvD 3 2, (⟨(some 4), (some (3, true)), (.bslice 3 1 3 [vI] [(0, (cD 1)), (1, (cD 2)), (2, (cD 3))])⟩, (.ty (.int .i64))), (⟨(some 5), (some (3, true)), (.bslice 3 1 2 [vI] [(0, (cD 3)), (1, (cD 1))])⟩, (.ty (.int .i64))), (⟨(some 6), (some (3, true)), (.call 11 [(tD 4), (tD 5)])⟩, (.ent (e11 fu))), opD 7 (.pick (tD 3) (tD 6) (.const vB)), mvD 8 7, (⟨(some 9), (some (8, true)), (.bslice 3 1 3 [vI] [(0, (cD 1)), (1, (cD 2)), (2, (cD 3))])⟩, (.ty (.int .i64))), ogD 10 8 true (.build 2 [vI, vB] [(0, (1, (cD 1))), (1, (1, (.const (.bool true))))]), ogD 11 8 true (.build 2 [vI, vB] [(0, (1, (cD 3))), (1, (1, (.const (.bool true))))]), (⟨(some 12), (some (8, true)), (.bslice 41 2 2 [vI, vB] [(0, (tD 10)), (1, (tD 11))])⟩, (.ty T_api_Ballot)), (⟨(some 13), (some (8, true)), (.call 12 [(tD 9), (tD 12)])⟩, (.ent (e12 fu))), ogD 14 8 true (.bin .eql (tD 13) (cD 1)), opD 15 (.pick (tD 8) (tD 14) (.const vB)), mvD 0 15] [[], [0], [1, 0], [2], [2], [3, 4, 2, 2], [2, 5], [6, 5], [7], [7], [7], [9, 10, 7], [8, 11, 7, 7], [12, 7], [7, 13], [14, 12, 0, 1, 2, 3, 4, 5, 6, 7, 8, 9, 10, 11, 12, 13, 14]] false) .ret))
set_option maxRecDepth 1000000 in
theorem v10 (fu : Nat) : evF fu (d10 fu) rs10 16 (e10 fu).ash (e10 fu).osh (e10 fu).vsh = p10 fu := by kernel_rfl
set_option maxRecDepth 1000000 in
theorem b10 (fu : Nat) : BodyD Try.prog 10 16 (d10 fu).erase rs10 := bodyD_mk Try.func10 (by kernel_rfl) (by kernel_rfl) (by kernel_rfl) (by kernel_rfl)
theorem g10 (fu : Nat) : (e10 fu).Good Try.prog := good_by orders (b10 fu) (l := [e13 fu, e11 fu, e12 fu]) (by kernel_rfl) ⟨g13 fu, g11 fu, g12 fu, trivial⟩ (by kernel_rfl) (v10 fu)
def rs29 : List RVx := [(.tmp 2)]
/-- gazette/quorum.Commit$1 -/
def p29 (_ : Nat) : ((Int) × ((Int) × ((Int) × (Unit)))) × (Unit) → Option ((Unit) × (Int)) := fun ⟨⟨a, _, _, _⟩, _⟩ =>
some ((), a)
def e29 (fu : Nat) : Ent := ⟨29, (.cons (.agg 3 (.cons (.hole (.int .i64)) (.cons (.hole (.int .u64)) (.cons (.hole (.int .u64)) .nil)))) .nil), .nil, (.hole (.int .i64)), p29 fu⟩
def d29 (_ : Nat) : DC := (.seq (.region [opD 1 (.box 34 3 (tD 0)), opD 2 (.mov (cD 0))] [[], []] false) (.seq (.region [opD 3 (.faddr 0 (tD 1)), opD 4 (.load false 1 (tD 3)), mvD 2 4] [[], [0], [1, 0, 1]] false) .ret))
set_option maxRecDepth 1000000 in
theorem v29 (fu : Nat) : evF fu (d29 fu) rs29 5 (e29 fu).ash (e29 fu).osh (e29 fu).vsh = p29 fu := by kernel_rfl
set_option maxRecDepth 1000000 in
theorem b29 (fu : Nat) : BodyD Try.prog 29 5 (d29 fu).erase rs29 := bodyD_mk Try.func29 (by kernel_rfl) (by kernel_rfl) (by kernel_rfl) (by kernel_rfl)
theorem g29 (fu : Nat) : (e29 fu).Good Try.prog := good_by orders (b29 fu) (l := []) (by kernel_rfl) trivial (by kernel_rfl) (v29 fu)
def rs30 : List RVx := [(.cell 4 true 3)]
/-- gazette/quorum.further -/
def p30 (_ : Nat) : ((Int) × ((Int) × ((Int) × (Unit)))) × (((Int) × ((Int) × ((Int) × (Unit)))) × (Unit)) → Option ((Unit) × ((Int) × ((Int) × ((Int) × (Unit))))) := fun ⟨⟨a, c, f, _⟩, ⟨h, i, j, _⟩, _⟩ =>
bif decide (j > f) then
 some ((), (h, i, j, ()))
else
 some ((), (a, c, f, ()))
def e30 (fu : Nat) : Ent := ⟨30, (.cons (.agg 3 (.cons (.hole (.int .i64)) (.cons (.hole (.int .u64)) (.cons (.hole (.int .u64)) .nil)))) (.cons (.agg 3 (.cons (.hole (.int .i64)) (.cons (.hole (.int .u64)) (.cons (.hole (.int .u64)) .nil)))) .nil)), .nil, (.agg 3 (.cons (.hole (.int .i64)) (.cons (.hole (.int .u64)) (.cons (.hole (.int .u64)) .nil)))), p30 fu⟩
def d30 (_ : Nat) : DC := (.seq (.region [opD 2 (.box 34 3 (tD 0)), opD 3 (.box 34 3 (tD 1)), opD 4 (.alloc 34 3 [vI, vU, vU])] [[], [], []] false) (.seq (.seq (.region [opD 5 (.faddr 2 (tD 3)), opD 6 (.load false 1 (tD 5)), opD 7 (.faddr 2 (tD 2)), opD 8 (.load false 1 (tD 7)), opD 9 (.bin .gtr (tD 6) (tD 8))] [[], [0], [], [2], [1, 3]] false) (.cond (.tmp 9) (.seq (.region [opD 10 (.load true 3 (tD 3)), onD (.store 3 (tD 4) (tD 10))] [[], [0, 0]] false) .ret) .skip)) (.seq (.region [opD 11 (.load true 3 (tD 2)), onD (.store 3 (tD 4) (tD 11))] [[], [0, 0]] false) .ret)))
set_option maxRecDepth 1000000 in
theorem v30 (fu : Nat) : evF fu (d30 fu) rs30 12 (e30 fu).ash (e30 fu).osh (e30 fu).vsh = p30 fu := by kernel_rfl
set_option maxRecDepth 1000000 in
theorem b30 (fu : Nat) : BodyD Try.prog 30 12 (d30 fu).erase rs30 := bodyD_mk Try.func30 (by kernel_rfl) (by kernel_rfl) (by kernel_rfl) (by kernel_rfl)
theorem g30 (fu : Nat) : (e30 fu).Good Try.prog := good_by orders (b30 fu) (l := []) (by kernel_rfl) trivial (by kernel_rfl) (v30 fu)
def rs28 : List RVx := [(.tmp 6)]
/-- gazette/quorum.byNode[gazette/api.Peer] -/
def p28 (fu : Nat) : (List (D_api_Peer)) × (((Unit) × (Unit)) × (((Unit) × (Unit)) × (Unit))) → Option ((Unit) × (List ((Int) × (D_api_Peer)))) := fun ⟨a, ⟨_, _⟩, ⟨_, _⟩, _⟩ =>
loopO (S := ((List ((Int) × (D_api_Peer))) × ((Int) × (Unit))) × (Unit)) fu (fun ⟨⟨c, f, _⟩, _⟩ =>
 bif decide (f < (List.length a : Int)) then
 bif decide ((0 : Int) ≤ f ∧ f < (List.length a : Int)) then
 bif decide (Int.toNat f < List.length a) then
 Option.bind (p29 fu (((List.getD a (Int.toNat f) (dflt T_api_Peer)).1, ((List.getD a (Int.toNat f) (dflt T_api_Peer)).2).1, ((List.getD a (Int.toNat f) (dflt T_api_Peer)).2).2, ()), ())) fun ⟨_, h⟩ =>
 orK (E := (Unit) × (((Int) × ((Int) × ((Int) × (Unit)))) × (Unit)))
 (bif hasM (.int .i64) c h then
 Option.bind (p30 fu (((Option.getD (lookM (.int .i64) c h) ((0 : Int), (0 : Int), (0 : Int))).1, ((Option.getD (lookM (.int .i64) c h) ((0 : Int), (0 : Int), (0 : Int))).2).1, ((Option.getD (lookM (.int .i64) c h) ((0 : Int), (0 : Int), (0 : Int))).2).2, ()), ((List.getD a (Int.toNat f) (dflt T_api_Peer)).1, ((List.getD a (Int.toNat f) (dflt T_api_Peer)).2).1, ((List.getD a (Int.toNat f) (dflt T_api_Peer)).2).2, ()), ())) fun ⟨_, ⟨i, j, k, _⟩⟩ =>
 some (.inl ((), ((i, j, k, ()), ())))
 else
 some (.inl ((), (((List.getD a (Int.toNat f) (dflt T_api_Peer)).1, ((List.getD a (Int.toNat f) (dflt T_api_Peer)).2).1, ((List.getD a (Int.toNat f) (dflt T_api_Peer)).2).2, ()), ()))))
 fun ⟨_, ⟨⟨l, m, n, _⟩, _⟩⟩ =>
 some (.inl (((setM (.int .i64) c h (l, m, n)), IntKind.wrap .i64 (f + (1 : Int)), ()), ()))
 else none
 else none
 else
 inrO (some ((), c)))
 ((([] : List (Int × D_api_Peer)), (0 : Int), ()), ())
def e28 (fu : Nat) : Ent := ⟨28, (.cons (.hole (.sl T_api_Peer)) (.cons (.clo 29 0 .nil 0 .nil) (.cons (.clo 30 0 .nil 0 .nil) .nil))), .nil, (.mown true (.int .i64) T_api_Peer), p28 fu⟩
def d28 (fu : Nat) : DC := (.seq (.region [opD 6 (.mov (.const (.map none)))] [[]] false) (.seq (.region [mvD 13 0, opD 14 (.len false (tD 13)), oqD 15 (.mkmap 54 true 3 (some (tD 14))) (.ty (.pair (.int .i64) T_api_Peer)), mvD 7 15] [[], [0], [1], [2, 0, 1, 2]] false) (.seq (.seq (.region [mvD 16 0, opD 17 (.len false (tD 16)), opD 18 (.mov (cD 0))] [[], [0], []] false) (.block 0 (.loop ⟨[7, 18], (.cons (.mown true (.int .i64) T_api_Peer) (.cons (.hole (.int .i64)) .nil)), [], .nil, [1, 2, 16, 17], []⟩
 (.seq (.region [opD 19 (.bin .lss (tD 18) (tD 17))] [[]] false) (.seq (.cond (.tmp 19) .skip (.exit 0)) (.seq (.block 1 (.seq (.region [opD 20 (.iaddr 3 (tD 16) (tD 18)), opD 21 (.load true 3 (tD 20)), opD 9 (.alloc 34 3 [vI, vU, vU]), onD (.store 3 (tD 9) (tD 21))] [[], [0], [], [2, 1, 0, 1, 2]] false) (.seq (.region [mvD 22 1, opD 23 (.load true 3 (tD 9)), oqD 24 (.callv (tD 22) [(tD 23)]) (.ent (e29 fu)), mvD 10 24] [[], [], [0, 1], [2, 2, 0, 1, 2]] false) (.join ⟨[], .nil, [(177, 34, 3)], (.cons (.agg 3 (.cons (.hole (.int .i64)) (.cons (.hole (.int .u64)) (.cons (.hole (.int .u64)) .nil)))) .nil), [1, 2, 7, 9, 10, 16, 17, 18], [128]⟩
 (.seq (.region [mvD 26 7, mvD 27 10, opD 28 (.mlook (.int .i64) true true 3 [vI, vU, vU] (tD 26) (tD 27)), mvD 25 28, opD 29 (.ext (tD 25) 0), opD 30 (.ext (tD 25) 1), opD 11 (.alloc 34 3 [vI, vU, vU]), onD (.store 3 (tD 11) (tD 29)), mvD 12 30] [[], [], [0, 1], [2], [3], [3], [], [6, 4, 0, 1, 2, 3, 4, 6], [5, 7, 0, 1, 2, 3, 4, 5, 6, 7]] false) (.seq (.region [mvD 31 12] [[]] false) (.cond (.tmp 31) (.region [mvD 32 2, opD 33 (.load true 3 (tD 11)), opD 34 (.load true 3 (tD 9)), oqD 35 (.callv (tD 32) [(tD 33), (tD 34)]) (.ent (e30 fu)), onD (.store 3 (tD 9) (tD 35))] [[], [], [], [0, 1, 2], [3, 3, 0, 1, 2, 3]] false) .skip)))
 (.region [mvD 36 7, mvD 37 10, opD 38 (.load true 3 (tD 9)), onD (.mset (.int .i64) true 3 (tD 36) (tD 37) (tD 38))] [[], [], [], [0, 1, 2, 0, 1, 2]] false))))) (.region [opD 39 (.bin .add (tD 18) (cD 1)), mvD 18 39] [[], [0]] false))))))) (.seq (.region [mvD 40 7, mvD 6 40] [[], [0, 0]] false) .ret))))
set_option maxRecDepth 1000000 in
theorem v28 (fu : Nat) : evF fu (d28 fu) rs28 41 (e28 fu).ash (e28 fu).osh (e28 fu).vsh = p28 fu := by kernel_rfl
set_option maxRecDepth 1000000 in
theorem b28 (fu : Nat) : BodyD Try.prog 28 41 (d28 fu).erase rs28 := bodyD_mk Try.func28 (by kernel_rfl) (by kernel_rfl) (by kernel_rfl) (by kernel_rfl)
theorem g28 (fu : Nat) : (e28 fu).Good Try.prog := good_by orders (b28 fu) (l := [e29 fu, e30 fu]) (by kernel_rfl) ⟨g29 fu, g30 fu, trivial⟩ (by kernel_rfl) (v28 fu)
def rs17 : List RVx := [(.tmp 4)]
/-- gazette/quorum.Commit -/
def p17 (fu : Nat) : (List (Int)) × ((List (D_api_Peer)) × (Unit)) → Option ((Unit) × (Int)) := fun ⟨a, c, _⟩ =>
Option.bind (p19 fu (a, ())) fun ⟨_, f⟩ =>
bif (((List.length f) : Int) == (0 : Int)) then
 some ((), (0 : Int))
else
 Option.bind (p28 fu (c, ((), ()), ((), ()), ())) fun ⟨_, h⟩ =>
 loopO (S := ((List (Int)) × ((Int) × (Unit))) × (Unit)) fu (fun ⟨⟨i, j, _⟩, _⟩ =>
 bif decide (j < ((List.length f) : Int)) then
 bif decide ((0 : Int) ≤ j ∧ j < (List.length f : Int)) then
 bif decide (Int.toNat j < List.length f) then
 bif decide (List.length i = List.length i) then
 bif decide (List.length i + List.length ([((Option.getD (lookM (.int .i64) h (List.getD f (Int.toNat j) (dflt (.int .i64)))) ((0 : Int), (0 : Int), (0 : Int))).2).2]) ≤ maxLen ∧ (List.length i + List.length ([((Option.getD (lookM (.int .i64) h (List.getD f (Int.toNat j) (dflt (.int .i64)))) ((0 : Int), (0 : Int), (0 : Int))).2).2])) * 8 ≤ 140737488355328) then
 bif decide (List.length (i ++ [((Option.getD (lookM (.int .i64) h (List.getD f (Int.toNat j) (dflt (.int .i64)))) ((0 : Int), (0 : Int), (0 : Int))).2).2]) = List.length (i ++ [((Option.getD (lookM (.int .i64) h (List.getD f (Int.toNat j) (dflt (.int .i64)))) ((0 : Int), (0 : Int), (0 : Int))).2).2])) then
 some (.inl (((i ++ [((Option.getD (lookM (.int .i64) h (List.getD f (Int.toNat j) (dflt (.int .i64)))) ((0 : Int), (0 : Int), (0 : Int))).2).2]), IntKind.wrap .i64 (j + (1 : Int)), ()), ()))
 else none
 else none
 else none
 else none
 else none
 else
 inrO (bif decide (List.length i = List.length i) then
 Option.bind (pSortU fu (i, ())) fun ⟨⟨k, _⟩, _⟩ =>
 Option.bind (p13 fu (((List.length i) : Int), ())) fun ⟨_, l⟩ =>
 bif decide ((0 : Int) ≤ IntKind.wrap .i64 (((List.length i) : Int) - l) ∧ IntKind.wrap .i64 (((List.length i) : Int) - l) < (List.length i : Int)) then
 bif decide (Int.toNat (IntKind.wrap .i64 (((List.length i) : Int) - l)) < List.length k) then
 some ((), (List.getD k (Int.toNat (IntKind.wrap .i64 (((List.length i) : Int) - l))) (dflt (.int .u64))))
 else none
 else none
 else none))
 (([], (0 : Int), ()), ())
def e17 (fu : Nat) : Ent := ⟨17, (.cons (.hole (.sl (.int .i64))) (.cons (.hole (.sl T_api_Peer)) .nil)), .nil, (.hole (.int .u64)), p17 fu⟩
def d17 (fu : Nat) : DC := (.seq (.region [opD 4 (.mov (.const vU))] [[]] false) (.seq (.region [mvD 10 0, oqD 11 (.call 19 [(tD 10)]) (.ent (e19 fu)), mvD 5 11] [[], [0], [1, 1, 0, 1]] false) (.seq (.seq (.region [mvD 12 5, opD 13 (.len false (tD 12)), opD 14 (.bin .eql (tD 13) (cD 0))] [[], [0], [1]] false) (.cond (.tmp 14) (.seq (.region [opD 4 (.mov (.const vU))] [[]] false) .ret) .skip)) (.seq (.region [mvD 15 1, oqD 16 (.call 28 [(tD 15), (.func 29), (.func 30)]) (.ent (e28 fu)), mvD 6 16] [[], [0], [1, 1, 0, 1]] false) (.seq (.region [opD 7 (.mov (.const vS))] [[]] false) (.seq (.seq (.region [mvD 17 5, opD 18 (.len false (tD 17)), opD 19 (.mov (cD 0))] [[], [0], []] false) (.block 0 (.loop ⟨[7, 19], (.cons (.own .own 31 (.int .u64)) (.cons (.hole (.int .i64)) .nil)), [], .nil, [6, 17, 18], [32, 128]⟩
 (.seq (.region [opD 20 (.bin .lss (tD 19) (tD 18))] [[]] false) (.seq (.cond (.tmp 20) .skip (.exit 0)) (.seq (.block 1 (.seq (.region [opD 21 (.iaddr 1 (tD 17) (tD 19)), opD 22 (.load false 1 (tD 21)), mvD 9 22] [[], [0], [1, 0, 1]] false) (.region [mvD 23 7, mvD 24 6, mvD 25 9, opD 26 (.mlook (.int .i64) false true 3 [vI, vU, vU] (tD 24) (tD 25)), opD 27 (.fld false 2 1 (tD 26)), oqD 28 (.bslice 31 1 1 [vU] [(0, (tD 27))]) (.ty (.int .u64)), oqD 29 (.app 31 1 [vU] 8 (tD 23) (tD 28)) (.ty (.int .u64)), mvD 7 29] [[], [], [], [1, 2], [3], [4], [0, 5], [6, 6, 0, 1, 2, 3, 4, 5, 6]] false))) (.region [opD 30 (.bin .add (tD 19) (cD 1)), mvD 19 30] [[], [0]] false))))))) (.seq (.region [mvD 31 7, oqD 32 (.call 31 [(tD 31)]) (.ent (eSortU fu))] [[], [0]] false) (.seq (.region [mvD 33 7, mvD 34 7, opD 35 (.len false (tD 34)), mvD 36 7, opD 37 (.len false (tD 36)), oqD 38 (.call 13 [(tD 37)]) (.ent (e13 fu)), opD 39 (.bin .sub (tD 35) (tD 38)), opD 40 (.iaddr 1 (tD 33) (tD 39)), opD 41 (.load false 1 (tD 40)), mvD 4 41] [[], [], [1], [], [3], [4], [2, 5], [0, 6], [7], [8, 5, 0, 1, 2, 3, 4, 5, 6, 7, 8]] false) .ret))))))))
set_option maxRecDepth 1000000 in
theorem v17 (fu : Nat) : evF fu (d17 fu) rs17 42 (e17 fu).ash (e17 fu).osh (e17 fu).vsh = p17 fu := by kernel_rfl
set_option maxRecDepth 1000000 in
theorem b17 (fu : Nat) : BodyD Try.prog 17 42 (d17 fu).erase rs17 := bodyD_mk Try.func17 (by kernel_rfl) (by kernel_rfl) (by kernel_rfl) (by kernel_rfl)
theorem g17 (fu : Nat) : (e17 fu).Good Try.prog := good_by orders (b17 fu) (l := [e19 fu, e28 fu, eSortU fu, e13 fu]) (by kernel_rfl) ⟨g19 fu, g28 fu, gSortU fu, g13 fu, trivial⟩ (by kernel_rfl) (v17 fu)
def rs27 : List RVx := [(.tmp 4)]
/-- gazette/gazetteref07.has -/
def p27 (fu : Nat) : (List (Int)) × ((Int) × (Unit)) → Option ((Unit) × (Bool)) := fun ⟨a, c, _⟩ =>
loopO (S := ((Int) × (Unit)) × (Unit)) fu (fun ⟨⟨f, _⟩, _⟩ =>
 bif decide (f < (List.length a : Int)) then
 bif decide ((0 : Int) ≤ f ∧ f < (List.length a : Int)) then
 bif decide (Int.toNat f < List.length a) then
 bif ((List.getD a (Int.toNat f) (dflt (.int .i64))) == c) then
 inrO (some ((), true))
 else
 some (.inl ((IntKind.wrap .i64 (f + (1 : Int)), ()), ()))
 else none
 else none
 else
 inrO (some ((), false)))
 (((0 : Int), ()), ())
def e27 (fu : Nat) : Ent := ⟨27, (.cons (.hole (.sl (.int .i64))) (.cons (.hole (.int .i64)) .nil)), .nil, (.hole .bool), p27 fu⟩
def d27 (_ : Nat) : DC := (.seq (.region [opD 4 (.mov (.const vB))] [[]] false) (.seq (.seq (.region [opD 5 (.mov (cD 0))] [[]] false) (.block 0 (.loop ⟨[5], (.cons (.hole (.int .i64)) .nil), [], .nil, [0, 1], []⟩
 (.seq (.seq (.region [mvD 6 5, mvD 7 0, opD 8 (.len false (tD 7)), opD 9 (.bin .lss (tD 6) (tD 8))] [[], [], [1], [0, 2]] false) (.cond (.tmp 9) .skip (.exit 0))) (.seq (.block 1 (.seq (.region [mvD 12 0, mvD 13 5, opD 14 (.iaddr 1 (tD 12) (tD 13)), opD 15 (.load false 1 (tD 14)), mvD 16 1, opD 17 (.bin .eql (tD 15) (tD 16))] [[], [], [0, 1], [2], [], [3, 4]] false) (.cond (.tmp 17) (.seq (.region [opD 4 (.mov (.const (.bool true)))] [[]] false) .ret) .skip))) (.region [mvD 10 5, opD 11 (.bin .add (tD 10) (cD 1)), mvD 5 11] [[], [0], [1, 0, 1]] false)))))) (.seq (.region [opD 4 (.mov (.const vB))] [[]] false) .ret)))
set_option maxRecDepth 1000000 in
theorem v27 (fu : Nat) : evF fu (d27 fu) rs27 18 (e27 fu).ash (e27 fu).osh (e27 fu).vsh = p27 fu := by kernel_rfl
set_option maxRecDepth 1000000 in
theorem b27 (fu : Nat) : BodyD Try.prog 27 18 (d27 fu).erase rs27 := bodyD_mk Try.func27 (by kernel_rfl) (by kernel_rfl) (by kernel_rfl) (by kernel_rfl)
theorem g27 (fu : Nat) : (e27 fu).Good Try.prog := good_by orders (b27 fu) (l := []) (by kernel_rfl) trivial (by kernel_rfl) (v27 fu)
def rs26 : List RVx := [(.tmp 2)]
/-- gazette/gazetteref07.once -/
def p26 (fu : Nat) : (List (Int)) × (Unit) → Option ((Unit) × (List (Int))) := fun ⟨a, _⟩ =>
loopO (S := ((List (Int)) × ((Int) × (Unit))) × (Unit)) fu (fun ⟨⟨c, f, _⟩, _⟩ =>
 bif decide (f < (List.length a : Int)) then
 bif decide ((0 : Int) ≤ f ∧ f < (List.length a : Int)) then
 bif decide (Int.toNat f < List.length a) then
 bif decide (List.length c = List.length c) then
 Option.bind (p27 fu (c, (List.getD a (Int.toNat f) (dflt (.int .i64))), ())) fun ⟨_, h⟩ =>
 bif !h then
 bif decide ((0 : Int) ≤ f ∧ f < (List.length a : Int)) then
 bif decide (Int.toNat f < List.length a) then
 bif decide (List.length c = List.length c) then
 bif decide (List.length c + List.length ([(List.getD a (Int.toNat f) (dflt (.int .i64)))]) ≤ maxLen ∧ (List.length c + List.length ([(List.getD a (Int.toNat f) (dflt (.int .i64)))])) * 8 ≤ 140737488355328) then
 bif decide (List.length (c ++ [(List.getD a (Int.toNat f) (dflt (.int .i64)))]) = List.length (c ++ [(List.getD a (Int.toNat f) (dflt (.int .i64)))])) then
 some (.inl (((c ++ [(List.getD a (Int.toNat f) (dflt (.int .i64)))]), IntKind.wrap .i64 (f + (1 : Int)), ()), ()))
 else none
 else none
 else none
 else none
 else none
 else
 bif decide (List.length c = List.length c) then
 some (.inl ((c, IntKind.wrap .i64 (f + (1 : Int)), ()), ()))
 else none
 else none
 else none
 else none
 else
 inrO (bif decide (List.length c = List.length c) then
 some ((), c)
 else none))
 (([], (0 : Int), ()), ())
def e26 (fu : Nat) : Ent := ⟨26, (.cons (.hole (.sl (.int .i64))) .nil), .nil, (.own .own 3 (.int .i64)), p26 fu⟩
def d26 (fu : Nat) : DC := (.seq (.region [opD 2 (.mov (.const vS))] [[]] false) (.seq (.region [opD 3 (.mov (.const vS))] [[]] false) (.seq (.seq (.region [opD 4 (.mov (cD 0))] [[]] false) (.block 0 (.loop ⟨[3, 4], (.cons (.own .own 3 (.int .i64)) (.cons (.hole (.int .i64)) .nil)), [], .nil, [0], []⟩
 (.seq (.seq (.region [mvD 6 4, mvD 7 0, opD 8 (.len false (tD 7)), opD 9 (.bin .lss (tD 6) (tD 8))] [[], [], [1], [0, 2]] false) (.cond (.tmp 9) .skip (.exit 0))) (.seq (.block 1 (.seq (.region [mvD 12 3, mvD 13 0, mvD 14 4, opD 15 (.iaddr 1 (tD 13) (tD 14)), opD 16 (.load false 1 (tD 15)), oqD 17 (.call 27 [(tD 12), (tD 16)]) (.ent (e27 fu)), mvD 5 17] [[], [], [], [1, 2], [3], [0, 4], [5, 5, 0, 1, 2, 3, 4, 5]] false) (.seq (.region [mvD 18 5, opD 19 (.not (tD 18))] [[], [0]] false) (.cond (.tmp 19) (.region [mvD 20 3, mvD 21 0, mvD 22 4, opD 23 (.iaddr 1 (tD 21) (tD 22)), opD 24 (.load false 1 (tD 23)), oqD 25 (.bslice 3 1 1 [vI] [(0, (tD 24))]) (.ty (.int .i64)), oqD 26 (.app 3 1 [vI] 8 (tD 20) (tD 25)) (.ty (.int .i64)), mvD 3 26] [[], [], [], [1, 2], [3], [4], [0, 5], [6, 6, 0, 1, 2, 3, 4, 5, 6]] false) .skip)))) (.region [mvD 10 4, opD 11 (.bin .add (tD 10) (cD 1)), mvD 4 11] [[], [0], [1, 0, 1]] false)))))) (.seq (.region [mvD 27 3, mvD 2 27] [[], [0, 0]] false) .ret))))
set_option maxRecDepth 1000000 in
theorem v26 (fu : Nat) : evF fu (d26 fu) rs26 28 (e26 fu).ash (e26 fu).osh (e26 fu).vsh = p26 fu := by kernel_rfl
set_option maxRecDepth 1000000 in
theorem b26 (fu : Nat) : BodyD Try.prog 26 28 (d26 fu).erase rs26 := bodyD_mk Try.func26 (by kernel_rfl) (by kernel_rfl) (by kernel_rfl) (by kernel_rfl)
theorem g26 (fu : Nat) : (e26 fu).Good Try.prog := good_by orders (b26 fu) (l := [e27 fu]) (by kernel_rfl) ⟨g27 fu, trivial⟩ (by kernel_rfl) (v26 fu)
def rs32 : List RVx := [(.tmp 4)]
/-- gazette/gazetteref07.match -/
def p32 (fu : Nat) : (List (D_api_Peer)) × ((Int) × (Unit)) → Option ((Unit) × (Int)) := fun ⟨a, c, _⟩ =>
loopO (S := ((Int) × ((Int) × (Unit))) × (Unit)) fu (fun ⟨⟨f, h, _⟩, _⟩ =>
 bif decide (h < (List.length a : Int)) then
 bif decide ((0 : Int) ≤ h ∧ h < (List.length a : Int)) then
 bif decide (Int.toNat h < List.length a) then
 bif (((List.getD a (Int.toNat h) (dflt T_api_Peer)).1) == c) then
 bif decide ((0 : Int) ≤ h ∧ h < (List.length a : Int)) then
 bif decide (Int.toNat h < List.length a) then
 some (.inl (((if ((List.getD a (Int.toNat h) (dflt T_api_Peer)).2).2 > f then ((List.getD a (Int.toNat h) (dflt T_api_Peer)).2).2 else f), IntKind.wrap .i64 (h + (1 : Int)), ()), ()))
 else none
 else none
 else
 some (.inl ((f, IntKind.wrap .i64 (h + (1 : Int)), ()), ()))
 else none
 else none
 else
 inrO (some ((), f)))
 (((0 : Int), (0 : Int), ()), ())
def e32 (fu : Nat) : Ent := ⟨32, (.cons (.hole (.sl T_api_Peer)) (.cons (.hole (.int .i64)) .nil)), .nil, (.hole (.int .u64)), p32 fu⟩
def d32 (_ : Nat) : DC := (.seq (.region [opD 4 (.mov (.const vU))] [[]] false) (.seq (.region [opD 5 (.mov (.const vU))] [[]] false) (.seq (.seq (.region [opD 6 (.mov (cD 0))] [[]] false) (.block 0 (.loop ⟨[5, 6], (.cons (.hole (.int .u64)) (.cons (.hole (.int .i64)) .nil)), [], .nil, [0, 1], []⟩
 (.seq (.seq (.region [mvD 7 6, mvD 8 0, opD 9 (.len false (tD 8)), opD 10 (.bin .lss (tD 7) (tD 9))] [[], [], [1], [0, 2]] false) (.cond (.tmp 10) .skip (.exit 0))) (.seq (.block 1 (.seq (.region [mvD 13 0, mvD 14 6, opD 15 (.iaddr 3 (tD 13) (tD 14)), opD 16 (.faddr 0 (tD 15)), opD 17 (.load false 1 (tD 16)), mvD 18 1, opD 19 (.bin .eql (tD 17) (tD 18))] [[], [], [0, 1], [2], [3], [], [4, 5]] false) (.cond (.tmp 19) (.region [mvD 20 5, mvD 21 0, mvD 22 6, opD 23 (.iaddr 3 (tD 21) (tD 22)), opD 24 (.faddr 2 (tD 23)), opD 25 (.load false 1 (tD 24)), opD 26 (.mm true (tD 20) (tD 25)), mvD 5 26] [[], [], [], [1, 2], [3], [4], [0, 5], [6, 0, 1, 2, 3, 4, 5, 6]] false) .skip))) (.region [mvD 11 6, opD 12 (.bin .add (tD 11) (cD 1)), mvD 6 12] [[], [0], [1, 0, 1]] false)))))) (.seq (.region [mvD 27 5, mvD 4 27] [[], [0, 0]] false) .ret))))
set_option maxRecDepth 1000000 in
theorem v32 (fu : Nat) : evF fu (d32 fu) rs32 28 (e32 fu).ash (e32 fu).osh (e32 fu).vsh = p32 fu := by kernel_rfl
set_option maxRecDepth 1000000 in
theorem b32 (fu : Nat) : BodyD Try.prog 32 28 (d32 fu).erase rs32 := bodyD_mk Try.func32 (by kernel_rfl) (by kernel_rfl) (by kernel_rfl) (by kernel_rfl)
theorem g32 (fu : Nat) : (e32 fu).Good Try.prog := good_by orders (b32 fu) (l := []) (by kernel_rfl) trivial (by kernel_rfl) (v32 fu)
def rs14 : List RVx := [(.tmp 2)]
/-- gazette/gazetteref07.Most -/
def p14 (_ : Nat) : (Int) × (Unit) → Option ((Unit) × (Int)) := fun ⟨a, _⟩ =>
bif decide (a < (1 : Int)) then
 some ((), (0 : Int))
else
 some ((), IntKind.wrap .i64 ((IntKind.wrap .i64 (Int.tdiv a (2 : Int))) + (1 : Int)))
def e14 (fu : Nat) : Ent := ⟨14, (.cons (.hole (.int .i64)) .nil), .nil, (.hole (.int .i64)), p14 fu⟩
def d14 (_ : Nat) : DC := (.seq (.region [opD 2 (.mov (cD 0))] [[]] false) (.seq (.seq (.region [mvD 3 0, opD 4 (.bin .lss (tD 3) (cD 1))] [[], [0]] false) (.cond (.tmp 4) (.seq (.region [opD 2 (.mov (cD 0))] [[]] false) .ret) .skip)) (.seq (.region [mvD 5 0, opD 6 (.bin .quo (tD 5) (cD 2)), opD 7 (.bin .add (tD 6) (cD 1)), mvD 2 7] [[], [0], [1], [2, 0, 1, 2]] false) .ret)))
set_option maxRecDepth 1000000 in
theorem v14 (fu : Nat) : evF fu (d14 fu) rs14 8 (e14 fu).ash (e14 fu).osh (e14 fu).vsh = p14 fu := by kernel_rfl
set_option maxRecDepth 1000000 in
theorem b14 (fu : Nat) : BodyD Try.prog 14 8 (d14 fu).erase rs14 := bodyD_mk Try.func14 (by kernel_rfl) (by kernel_rfl) (by kernel_rfl) (by kernel_rfl)
theorem g14 (fu : Nat) : (e14 fu).Good Try.prog := good_by orders (b14 fu) (l := []) (by kernel_rfl) trivial (by kernel_rfl) (v14 fu)
def rs18 : List RVx := [(.tmp 4)]
/-- gazette/gazetteref07.Commit -/
def p18 (fu : Nat) : (List (Int)) × ((List (D_api_Peer)) × (Unit)) → Option ((Unit) × (Int)) := fun ⟨a, c, _⟩ =>
Option.bind (p26 fu (a, ())) fun ⟨_, f⟩ =>
loopO (S := ((Int) × ((Int) × (Unit))) × (Unit)) fu (fun ⟨⟨h, i, _⟩, _⟩ =>
 bif decide (i < ((List.length f) : Int)) then
 bif decide ((0 : Int) ≤ i ∧ i < (List.length f : Int)) then
 bif decide (Int.toNat i < List.length f) then
 Option.bind (p32 fu (c, (List.getD f (Int.toNat i) (dflt (.int .i64))), ())) fun ⟨_, j⟩ =>
 loopO (S := ((Int) × ((Int) × (Unit))) × (Unit)) fu (fun ⟨⟨k, l, _⟩, _⟩ =>
 bif decide (l < ((List.length f) : Int)) then
 bif decide ((0 : Int) ≤ l ∧ l < (List.length f : Int)) then
 bif decide (Int.toNat l < List.length f) then
 Option.bind (p32 fu (c, (List.getD f (Int.toNat l) (dflt (.int .i64))), ())) fun ⟨_, m⟩ =>
 bif decide (m ≥ j) then
 some (.inl ((IntKind.wrap .i64 (k + (1 : Int)), IntKind.wrap .i64 (l + (1 : Int)), ()), ()))
 else
 some (.inl ((k, IntKind.wrap .i64 (l + (1 : Int)), ()), ()))
 else none
 else none
 else
 inrO (Option.bind (p14 fu (((List.length f) : Int), ())) fun ⟨_, n⟩ =>
 bif decide (k ≥ n) then
 some (.inl (((if j > h then j else h), IntKind.wrap .i64 (i + (1 : Int)), ()), ()))
 else
 some (.inl ((h, IntKind.wrap .i64 (i + (1 : Int)), ()), ()))))
 (((0 : Int), (0 : Int), ()), ())
 else none
 else none
 else
 inrO (some ((), h)))
 (((0 : Int), (0 : Int), ()), ())
def e18 (fu : Nat) : Ent := ⟨18, (.cons (.hole (.sl (.int .i64))) (.cons (.hole (.sl T_api_Peer)) .nil)), .nil, (.hole (.int .u64)), p18 fu⟩
def d18 (fu : Nat) : DC := (.seq (.region [opD 4 (.mov (.const vU))] [[]] false) (.seq (.region [mvD 11 0, oqD 12 (.call 26 [(tD 11)]) (.ent (e26 fu)), mvD 5 12] [[], [0], [1, 1, 0, 1]] false) (.seq (.region [opD 6 (.mov (.const vU))] [[]] false) (.seq (.seq (.region [opD 7 (.mov (cD 0))] [[]] false) (.block 0 (.loop ⟨[6, 7], (.cons (.hole (.int .u64)) (.cons (.hole (.int .i64)) .nil)), [], .nil, [1, 5], [32]⟩
 (.seq (.seq (.region [mvD 13 7, mvD 14 5, opD 15 (.len false (tD 14)), opD 16 (.bin .lss (tD 13) (tD 15))] [[], [], [1], [0, 2]] false) (.cond (.tmp 16) .skip (.exit 0))) (.seq (.block 1 (.seq (.region [mvD 19 1, mvD 20 5, mvD 21 7, opD 22 (.iaddr 1 (tD 20) (tD 21)), opD 23 (.load false 1 (tD 22)), oqD 24 (.call 32 [(tD 19), (tD 23)]) (.ent (e32 fu)), mvD 8 24] [[], [], [], [1, 2], [3], [0, 4], [5, 5, 0, 1, 2, 3, 4, 5]] false) (.seq (.region [opD 9 (.mov (cD 0))] [[]] false) (.seq (.seq (.region [opD 10 (.mov (cD 0))] [[]] false) (.block 2 (.loop ⟨[9, 10], (.cons (.hole (.int .i64)) (.cons (.hole (.int .i64)) .nil)), [], .nil, [1, 5, 6, 7, 8], [32]⟩
 (.seq (.seq (.region [mvD 25 10, mvD 26 5, opD 27 (.len false (tD 26)), opD 28 (.bin .lss (tD 25) (tD 27))] [[], [], [1], [0, 2]] false) (.cond (.tmp 28) .skip (.exit 2))) (.seq (.block 3 (.seq (.region [mvD 31 1, mvD 32 5, mvD 33 10, opD 34 (.iaddr 1 (tD 32) (tD 33)), opD 35 (.load false 1 (tD 34)), oqD 36 (.call 32 [(tD 31), (tD 35)]) (.ent (e32 fu)), mvD 37 8, opD 38 (.bin .geq (tD 36) (tD 37))] [[], [], [], [1, 2], [3], [0, 4], [], [5, 6]] false) (.cond (.tmp 38) (.region [mvD 39 9, opD 40 (.bin .add (tD 39) (cD 1)), mvD 9 40] [[], [0], [1, 0, 1]] false) .skip))) (.region [mvD 29 10, opD 30 (.bin .add (tD 29) (cD 1)), mvD 10 30] [[], [0], [1, 0, 1]] false)))))) (.seq (.region [mvD 41 9, mvD 42 5, opD 43 (.len false (tD 42)), oqD 44 (.call 14 [(tD 43)]) (.ent (e14 fu)), opD 45 (.bin .geq (tD 41) (tD 44))] [[], [], [1], [2], [0, 3]] false) (.cond (.tmp 45) (.region [mvD 46 6, mvD 47 8, opD 48 (.mm true (tD 46) (tD 47)), mvD 6 48] [[], [], [0, 1], [2, 0, 1, 2]] false) .skip)))))) (.region [mvD 17 7, opD 18 (.bin .add (tD 17) (cD 1)), mvD 7 18] [[], [0], [1, 0, 1]] false)))))) (.seq (.region [mvD 49 6, mvD 4 49] [[], [0, 0]] false) .ret)))))
set_option maxRecDepth 1000000 in
theorem v18 (fu : Nat) : evF fu (d18 fu) rs18 50 (e18 fu).ash (e18 fu).osh (e18 fu).vsh = p18 fu := by kernel_rfl
set_option maxRecDepth 1000000 in
theorem b18 (fu : Nat) : BodyD Try.prog 18 50 (d18 fu).erase rs18 := bodyD_mk Try.func18 (by kernel_rfl) (by kernel_rfl) (by kernel_rfl) (by kernel_rfl)
theorem g18 (fu : Nat) : (e18 fu).Good Try.prog := good_by orders (b18 fu) (l := [e26 fu, e32 fu, e32 fu, e14 fu]) (by kernel_rfl) ⟨g26 fu, g32 fu, g32 fu, g14 fu, trivial⟩ (by kernel_rfl) (v18 fu)
def rs5 : List RVx := [(.tmp 4)]
/-- gazette/gazettelaw07.QuorumCommits -/
def p5 (fu : Nat) : (List (Int)) × ((List (D_api_Peer)) × (Unit)) → Option ((Unit) × (Bool)) := fun ⟨a, c, _⟩ =>
Option.bind (p10 fu ()) fun ⟨_, f⟩ =>
bif decide (0 = List.length ([] : List (D_api_Peer))) then
 bif decide (List.length ([] : List (D_api_Peer)) + List.length c ≤ maxLen ∧ (List.length ([] : List (D_api_Peer)) + List.length c) * 24 ≤ 140737488355328) then
 bif decide (List.length (([] : List (D_api_Peer)) ++ c) = List.length (([] : List (D_api_Peer)) ++ c)) then
 Option.bind (p17 fu (a, (([] : List (D_api_Peer)) ++ c), ())) fun ⟨_, h⟩ =>
 loopO (S := ((Int) × (Unit)) × (Unit)) fu (fun ⟨⟨i, _⟩, _⟩ =>
 bif decide (i < (List.length c : Int)) then
 bif decide ((0 : Int) ≤ i ∧ i < (List.length (([] : List (D_api_Peer)) ++ c) : Int)) then
 bif decide (Int.toNat i < List.length (([] : List (D_api_Peer)) ++ c)) then
 bif decide ((0 : Int) ≤ i ∧ i < (List.length c : Int)) then
 bif decide (Int.toNat i < List.length c) then
 bif !(((List.getD (([] : List (D_api_Peer)) ++ c) (Int.toNat i) (dflt T_api_Peer)).1) == ((List.getD c (Int.toNat i) (dflt T_api_Peer)).1) && ((((List.getD (([] : List (D_api_Peer)) ++ c) (Int.toNat i) (dflt T_api_Peer)).2).1) == (((List.getD c (Int.toNat i) (dflt T_api_Peer)).2).1) && ((((List.getD (([] : List (D_api_Peer)) ++ c) (Int.toNat i) (dflt T_api_Peer)).2).2) == (((List.getD c (Int.toNat i) (dflt T_api_Peer)).2).2) && true))) then
 inrO (some ((), false))
 else
 some (.inl ((IntKind.wrap .i64 (i + (1 : Int)), ()), ()))
 else none
 else none
 else none
 else none
 else
 inrO (bif f then
 Option.bind (p18 fu (a, c, ())) fun ⟨_, j⟩ =>
 some ((), (h == j))
 else
 some ((), false)))
 (((0 : Int), ()), ())
 else none
 else none
else none
def e5 (fu : Nat) : Ent := ⟨5, (.cons (.hole (.sl (.int .i64))) (.cons (.hole (.sl T_api_Peer)) .nil)), .nil, (.hole .bool), p5 fu⟩
def d5 (fu : Nat) : DC := (.seq (.region [opD 4 (.mov (.const vB))] [[]] false) (.seq (.region [oqD 9 (.call 10 []) (.ent (e10 fu)), mvD 5 9] [[], [0, 0, 0]] false) (.seq (.region [oqD 10 (.bslice 34 3 0 [vI, vU, vU] []) (.ty T_api_Peer), mvD 11 1, oqD 12 (.app 34 3 [vI, vU, vU] 24 (tD 10) (tD 11)) (.ty T_api_Peer), mvD 6 12] [[], [], [0, 1], [2, 2, 0, 1, 2]] false) (.seq (.region [mvD 13 0, mvD 14 6, oqD 15 (.call 17 [(tD 13), (tD 14)]) (.ent (e17 fu)), mvD 7 15] [[], [], [0, 1], [2, 2, 0, 1, 2]] false) (.seq (.seq (.region [opD 8 (.mov (cD 0))] [[]] false) (.block 0 (.loop ⟨[8], (.cons (.hole (.int .i64)) .nil), [], .nil, [0, 1, 5, 6, 7], [48]⟩
 (.seq (.seq (.region [mvD 16 8, mvD 17 1, opD 18 (.len false (tD 17)), opD 19 (.bin .lss (tD 16) (tD 18))] [[], [], [1], [0, 2]] false) (.cond (.tmp 19) .skip (.exit 0))) (.seq (.block 1 (.seq (.region [mvD 22 6, mvD 23 8, opD 24 (.iaddr 3 (tD 22) (tD 23)), opD 25 (.load true 3 (tD 24)), mvD 26 1, mvD 27 8, opD 28 (.iaddr 3 (tD 26) (tD 27)), opD 29 (.load true 3 (tD 28)), opD 30 (.seq true [.int, .int, .int] (tD 25) (tD 29))] [[], [], [0, 1], [2], [], [], [4, 5], [6], [3, 7]] true) (.cond (.tmp 30) (.seq (.region [opD 4 (.mov (.const vB))] [[]] false) .ret) .skip))) (.region [mvD 20 8, opD 21 (.bin .add (tD 20) (cD 1)), mvD 8 21] [[], [0], [1, 0, 1]] false)))))) (.seq (.region [mvD 31 5, mvD 32 31, ogD 33 32 true (.mov (tD 7)), ogD 34 32 true (.mov (tD 0)), ogD 35 32 true (.mov (tD 1)), (⟨(some 36), (some (32, true)), (.call 18 [(tD 34), (tD 35)])⟩, (.ent (e18 fu))), ogD 37 32 true (.bin .eql (tD 33) (tD 36)), opD 38 (.pick (tD 32) (tD 37) (.const vB)), mvD 4 38] [[], [0], [1], [1], [1], [3, 4, 1, 1], [2, 5, 1], [1, 6], [7, 5, 0, 1, 2, 3, 4, 5, 6, 7]] false) .ret))))))
set_option maxRecDepth 1000000 in
theorem v5 (fu : Nat) : evF fu (d5 fu) rs5 39 (e5 fu).ash (e5 fu).osh (e5 fu).vsh = p5 fu := by kernel_rfl
set_option maxRecDepth 1000000 in
theorem b5 (fu : Nat) : BodyD Try.prog 5 39 (d5 fu).erase rs5 := bodyD_mk Try.func5 (by kernel_rfl) (by kernel_rfl) (by kernel_rfl) (by kernel_rfl)
theorem g5 (fu : Nat) : (e5 fu).Good Try.prog := good_by orders (b5 fu) (l := [e10 fu, e17 fu, e18 fu]) (by kernel_rfl) ⟨g10 fu, g17 fu, g18 fu, trivial⟩ (by kernel_rfl) (v5 fu)
def rs8 : List RVx := [(.tmp 8)]
/-- gazette/gazettelaw07.QuorumGrows -/
def p8 (fu : Nat) : (List (Int)) × ((List (D_api_Peer)) × ((Int) × ((Int) × (Unit)))) → Option ((Unit) × (Bool)) := fun ⟨a, c, f, h, _⟩ =>
Option.bind (p10 fu ()) fun ⟨_, i⟩ =>
bif !i then
 some ((), i)
else
 bif decide (f < (0 : Int)) then
 some ((), i)
 else
 bif decide (f ≥ (List.length c : Int)) then
 some ((), i)
 else
 bif decide ((0 : Int) ≤ f ∧ f < (List.length c : Int)) then
 bif decide (Int.toNat f < List.length c) then
 bif decide (h < (((List.getD c (Int.toNat f) (dflt T_api_Peer)).2).2)) then
 some ((), i)
 else
 Option.bind (p17 fu (a, c, ())) fun ⟨_, j⟩ =>
 bif decide (0 = List.length ([] : List (D_api_Peer))) then
 bif decide (List.length ([] : List (D_api_Peer)) + List.length c ≤ maxLen ∧ (List.length ([] : List (D_api_Peer)) + List.length c) * 24 ≤ 140737488355328) then
 bif decide ((0 : Int) ≤ f ∧ f < (List.length (([] : List (D_api_Peer)) ++ c) : Int)) then
 bif decide (Int.toNat f < List.length (([] : List (D_api_Peer)) ++ c)) then
 bif decide (List.length (([] : List (D_api_Peer)) ++ c) = List.length (List.set (([] : List (D_api_Peer)) ++ c) (Int.toNat f) ((List.getD (([] : List (D_api_Peer)) ++ c) (Int.toNat f) (dflt T_api_Peer)).1, (((List.getD (([] : List (D_api_Peer)) ++ c) (Int.toNat f) (dflt T_api_Peer)).2).1, h)))) then
 Option.bind (p17 fu (a, (List.set (([] : List (D_api_Peer)) ++ c) (Int.toNat f) ((List.getD (([] : List (D_api_Peer)) ++ c) (Int.toNat f) (dflt T_api_Peer)).1, (((List.getD (([] : List (D_api_Peer)) ++ c) (Int.toNat f) (dflt T_api_Peer)).2).1, h))), ())) fun ⟨_, k⟩ =>
 some ((), decide (k ≥ j))
 else none
 else none
 else none
 else none
 else none
 else none
 else none
def e8 (fu : Nat) : Ent := ⟨8, (.cons (.hole (.sl (.int .i64))) (.cons (.hole (.sl T_api_Peer)) (.cons (.hole (.int .i64)) (.cons (.hole (.int .u64)) .nil)))), .nil, (.hole .bool), p8 fu⟩
def d8 (fu : Nat) : DC := (.seq (.region [opD 8 (.mov (.const vB))] [[]] false) (.seq (.region [oqD 12 (.call 10 []) (.ent (e10 fu)), mvD 9 12] [[], [0, 0, 0]] false) (.seq (.seq (.region [mvD 13 9, opD 14 (.not (tD 13)), mvD 15 14, ogD 16 15 false (.mov (tD 2)), ogD 17 15 false (.bin .lss (tD 16) (cD 0)), opD 18 (.pick (tD 15) (.const (.bool true)) (tD 17)), mvD 19 18, ogD 20 19 false (.mov (tD 2)), ogD 21 19 false (.mov (tD 1)), ogD 22 19 false (.len false (tD 21)), ogD 23 19 false (.bin .geq (tD 20) (tD 22)), opD 24 (.pick (tD 19) (.const (.bool true)) (tD 23)), mvD 25 24, ogD 26 25 false (.mov (tD 3)), ogD 27 25 false (.mov (tD 1)), ogD 28 25 false (.mov (tD 2)), ogD 29 25 false (.iaddr 3 (tD 27) (tD 28)), ogD 30 25 false (.faddr 2 (tD 29)), ogD 31 25 false (.load false 1 (tD 30)), ogD 32 25 false (.bin .lss (tD 26) (tD 31)), opD 33 (.pick (tD 25) (.const (.bool true)) (tD 32))] [[], [0], [1], [2], [3, 2], [2, 4], [5, 2], [6], [6], [8, 6], [7, 9, 6], [6, 10], [11, 6], [12], [12], [12], [14, 15, 12], [16, 12], [17, 12], [13, 18, 12], [12, 19]] false) (.cond (.tmp 33) (.seq (.region [mvD 34 9, mvD 8 34] [[], [0, 0]] false) .ret) .skip)) (.seq (.region [mvD 35 0, mvD 36 1, oqD 37 (.call 17 [(tD 35), (tD 36)]) (.ent (e17 fu)), mvD 10 37] [[], [], [0, 1], [2, 2, 0, 1, 2]] false) (.seq (.region [oqD 38 (.bslice 34 3 0 [vI, vU, vU] []) (.ty T_api_Peer), mvD 39 1, oqD 40 (.app 34 3 [vI, vU, vU] 24 (tD 38) (tD 39)) (.ty T_api_Peer), mvD 11 40] [[], [], [0, 1], [2, 2, 0, 1, 2]] false) (.seq (.region [mvD 41 11, mvD 42 2, mvD 43 3, opD 44 (.iaddr 3 (tD 41) (tD 42)), opD 45 (.faddr 2 (tD 44)), onD (.store 1 (tD 45) (tD 43))] [[], [], [], [0, 1, 0, 1, 2], [3, 0, 1, 2], [4, 2, 0, 1, 2]] false) (.seq (.region [mvD 46 0, mvD 47 11, oqD 48 (.call 17 [(tD 46), (tD 47)]) (.ent (e17 fu)), mvD 49 10, opD 50 (.bin .geq (tD 48) (tD 49)), mvD 8 50] [[], [], [0, 1], [], [2, 3], [4, 2, 0, 1, 2, 3, 4]] false) .ret)))))))
set_option maxRecDepth 1000000 in
theorem v8 (fu : Nat) : evF fu (d8 fu) rs8 51 (e8 fu).ash (e8 fu).osh (e8 fu).vsh = p8 fu := by kernel_rfl
set_option maxRecDepth 1000000 in
theorem b8 (fu : Nat) : BodyD Try.prog 8 51 (d8 fu).erase rs8 := bodyD_mk Try.func8 (by kernel_rfl) (by kernel_rfl) (by kernel_rfl) (by kernel_rfl)
theorem g8 (fu : Nat) : (e8 fu).Good Try.prog := good_by orders (b8 fu) (l := [e10 fu, e17 fu, e17 fu]) (by kernel_rfl) ⟨g10 fu, g17 fu, g17 fu, trivial⟩ (by kernel_rfl) (v8 fu)
def rs9 : List RVx := [(.tmp 6)]
/-- gazette/gazettelaw07.QuorumOrder -/
def p9 (fu : Nat) : (List (Int)) × ((List (Int)) × ((List (D_api_Peer)) × (Unit))) → Option ((Unit) × (Bool)) := fun ⟨a, c, f, _⟩ =>
Option.bind (p10 fu ()) fun ⟨_, h⟩ =>
loopO (S := ((List (Int)) × ((Int) × (Unit))) × (Unit)) fu (fun ⟨⟨i, j, _⟩, _⟩ =>
 bif decide (j ≥ (0 : Int)) then
 bif decide ((0 : Int) ≤ j ∧ j < (List.length a : Int)) then
 bif decide (Int.toNat j < List.length a) then
 bif decide (List.length i = List.length i) then
 bif decide (List.length i + List.length ([(List.getD a (Int.toNat j) (dflt (.int .i64)))]) ≤ maxLen ∧ (List.length i + List.length ([(List.getD a (Int.toNat j) (dflt (.int .i64)))])) * 8 ≤ 140737488355328) then
 bif decide (List.length (i ++ [(List.getD a (Int.toNat j) (dflt (.int .i64)))]) = List.length (i ++ [(List.getD a (Int.toNat j) (dflt (.int .i64)))])) then
 some (.inl (((i ++ [(List.getD a (Int.toNat j) (dflt (.int .i64)))]), IntKind.wrap .i64 (j - (1 : Int)), ()), ()))
 else none
 else none
 else none
 else none
 else none
 else
 inrO (loopO (S := ((List (Int)) × ((Int) × (Unit))) × (Unit)) fu (fun ⟨⟨k, l, _⟩, _⟩ =>
 bif decide (l ≥ (0 : Int)) then
 bif decide ((0 : Int) ≤ l ∧ l < (List.length c : Int)) then
 bif decide (Int.toNat l < List.length c) then
 bif decide (List.length k = List.length k) then
 bif decide (List.length k + List.length ([(List.getD c (Int.toNat l) (dflt (.int .i64)))]) ≤ maxLen ∧ (List.length k + List.length ([(List.getD c (Int.toNat l) (dflt (.int .i64)))])) * 8 ≤ 140737488355328) then
 bif decide (List.length (k ++ [(List.getD c (Int.toNat l) (dflt (.int .i64)))]) = List.length (k ++ [(List.getD c (Int.toNat l) (dflt (.int .i64)))])) then
 some (.inl (((k ++ [(List.getD c (Int.toNat l) (dflt (.int .i64)))]), IntKind.wrap .i64 (l - (1 : Int)), ()), ()))
 else none
 else none
 else none
 else none
 else none
 else
 inrO (loopO (S := ((List (D_api_Peer)) × ((Int) × (Unit))) × (Unit)) fu (fun ⟨⟨m, n, _⟩, _⟩ =>
 bif decide (n ≥ (0 : Int)) then
 bif decide ((0 : Int) ≤ n ∧ n < (List.length f : Int)) then
 bif decide (Int.toNat n < List.length f) then
 bif decide (List.length m = List.length m) then
 bif decide (List.length m + List.length ([((List.getD f (Int.toNat n) (dflt T_api_Peer)).1, ((List.getD f (Int.toNat n) (dflt T_api_Peer)).2).1, ((List.getD f (Int.toNat n) (dflt T_api_Peer)).2).2)]) ≤ maxLen ∧ (List.length m + List.length ([((List.getD f (Int.toNat n) (dflt T_api_Peer)).1, ((List.getD f (Int.toNat n) (dflt T_api_Peer)).2).1, ((List.getD f (Int.toNat n) (dflt T_api_Peer)).2).2)])) * 24 ≤ 140737488355328) then
 bif decide (List.length (m ++ [((List.getD f (Int.toNat n) (dflt T_api_Peer)).1, ((List.getD f (Int.toNat n) (dflt T_api_Peer)).2).1, ((List.getD f (Int.toNat n) (dflt T_api_Peer)).2).2)]) = List.length (m ++ [((List.getD f (Int.toNat n) (dflt T_api_Peer)).1, ((List.getD f (Int.toNat n) (dflt T_api_Peer)).2).1, ((List.getD f (Int.toNat n) (dflt T_api_Peer)).2).2)])) then
 some (.inl (((m ++ [((List.getD f (Int.toNat n) (dflt T_api_Peer)).1, ((List.getD f (Int.toNat n) (dflt T_api_Peer)).2).1, ((List.getD f (Int.toNat n) (dflt T_api_Peer)).2).2)]), IntKind.wrap .i64 (n - (1 : Int)), ()), ()))
 else none
 else none
 else none
 else none
 else none
 else
 inrO (bif h then
 bif decide (List.length i = List.length i) then
 bif decide (List.length k = List.length k) then
 Option.bind (p11 fu (i, k, ())) fun ⟨_, o⟩ =>
 Option.bind (p11 fu (a, c, ())) fun ⟨_, q⟩ =>
 bif o == q then
 bif decide (List.length i = List.length i) then
 bif decide (List.length m = List.length m) then
 Option.bind (p17 fu (i, m, ())) fun ⟨_, s⟩ =>
 Option.bind (p17 fu (a, f, ())) fun ⟨_, t⟩ =>
 some ((), (s == t))
 else none
 else none
 else
 some ((), false)
 else none
 else none
 else
 some ((), false)))
 (([], IntKind.wrap .i64 ((List.length f : Int) - (1 : Int)), ()), ())))
 (([], IntKind.wrap .i64 ((List.length c : Int) - (1 : Int)), ()), ())))
 (([], IntKind.wrap .i64 ((List.length a : Int) - (1 : Int)), ()), ())
def e9 (fu : Nat) : Ent := ⟨9, (.cons (.hole (.sl (.int .i64))) (.cons (.hole (.sl (.int .i64))) (.cons (.hole (.sl T_api_Peer)) .nil))), .nil, (.hole .bool), p9 fu⟩
def d9 (fu : Nat) : DC := (.seq (.region [opD 6 (.mov (.const vB))] [[]] false) (.seq (.region [oqD 14 (.call 10 []) (.ent (e10 fu)), mvD 7 14] [[], [0, 0, 0]] false) (.seq (.region [opD 8 (.mov (.const vS))] [[]] false) (.seq (.region [opD 9 (.mov (.const vS))] [[]] false) (.seq (.region [opD 10 (.mov (.const vS))] [[]] false) (.seq (.seq (.region [mvD 15 0, opD 16 (.len false (tD 15)), opD 17 (.bin .sub (tD 16) (cD 1)), mvD 11 17] [[], [0], [1], [2, 0, 1, 2]] false) (.block 0 (.loop ⟨[8, 11], (.cons (.own .own 3 (.int .i64)) (.cons (.hole (.int .i64)) .nil)), [], .nil, [0, 1, 2, 7, 9, 10], []⟩
 (.seq (.seq (.region [mvD 18 11, opD 19 (.bin .geq (tD 18) (cD 0))] [[], [0]] false) (.cond (.tmp 19) .skip (.exit 0))) (.seq (.block 1 (.region [mvD 22 8, mvD 23 0, mvD 24 11, opD 25 (.iaddr 1 (tD 23) (tD 24)), opD 26 (.load false 1 (tD 25)), oqD 27 (.bslice 3 1 1 [vI] [(0, (tD 26))]) (.ty (.int .i64)), oqD 28 (.app 3 1 [vI] 8 (tD 22) (tD 27)) (.ty (.int .i64)), mvD 8 28] [[], [], [], [1, 2], [3], [4], [0, 5], [6, 6, 0, 1, 2, 3, 4, 5, 6]] false)) (.region [mvD 20 11, opD 21 (.bin .sub (tD 20) (cD 1)), mvD 11 21] [[], [0], [1, 0, 1]] false)))))) (.seq (.seq (.region [mvD 29 1, opD 30 (.len false (tD 29)), opD 31 (.bin .sub (tD 30) (cD 1)), mvD 12 31] [[], [0], [1], [2, 0, 1, 2]] false) (.block 2 (.loop ⟨[9, 12], (.cons (.own .own 3 (.int .i64)) (.cons (.hole (.int .i64)) .nil)), [], .nil, [0, 1, 2, 7, 8, 10], [160]⟩
 (.seq (.seq (.region [mvD 32 12, opD 33 (.bin .geq (tD 32) (cD 0))] [[], [0]] false) (.cond (.tmp 33) .skip (.exit 2))) (.seq (.block 3 (.region [mvD 36 9, mvD 37 1, mvD 38 12, opD 39 (.iaddr 1 (tD 37) (tD 38)), opD 40 (.load false 1 (tD 39)), oqD 41 (.bslice 3 1 1 [vI] [(0, (tD 40))]) (.ty (.int .i64)), oqD 42 (.app 3 1 [vI] 8 (tD 36) (tD 41)) (.ty (.int .i64)), mvD 9 42] [[], [], [], [1, 2], [3], [4], [0, 5], [6, 6, 0, 1, 2, 3, 4, 5, 6]] false)) (.region [mvD 34 12, opD 35 (.bin .sub (tD 34) (cD 1)), mvD 12 35] [[], [0], [1, 0, 1]] false)))))) (.seq (.seq (.region [mvD 43 2, opD 44 (.len false (tD 43)), opD 45 (.bin .sub (tD 44) (cD 1)), mvD 13 45] [[], [0], [1], [2, 0, 1, 2]] false) (.block 4 (.loop ⟨[10, 13], (.cons (.own .own 34 T_api_Peer) (.cons (.hole (.int .i64)) .nil)), [], .nil, [0, 1, 2, 7, 8, 9], [160, 257]⟩
 (.seq (.seq (.region [mvD 46 13, opD 47 (.bin .geq (tD 46) (cD 0))] [[], [0]] false) (.cond (.tmp 47) .skip (.exit 4))) (.seq (.block 5 (.region [mvD 50 10, mvD 51 2, mvD 52 13, opD 53 (.iaddr 3 (tD 51) (tD 52)), opD 54 (.load true 3 (tD 53)), oqD 55 (.bslice 34 3 1 [vI, vU, vU] [(0, (tD 54))]) (.ty T_api_Peer), oqD 56 (.app 34 3 [vI, vU, vU] 24 (tD 50) (tD 55)) (.ty T_api_Peer), mvD 10 56] [[], [], [], [1, 2], [3], [4], [0, 5], [6, 6, 0, 1, 2, 3, 4, 5, 6]] false)) (.region [mvD 48 13, opD 49 (.bin .sub (tD 48) (cD 1)), mvD 13 49] [[], [0], [1, 0, 1]] false)))))) (.seq (.region [mvD 57 7, mvD 58 57, ogD 59 58 true (.mov (tD 8)), ogD 60 58 true (.mov (tD 9)), (⟨(some 61), (some (58, true)), (.call 11 [(tD 59), (tD 60)])⟩, (.ent (e11 fu))), ogD 62 58 true (.mov (tD 0)), ogD 63 58 true (.mov (tD 1)), (⟨(some 64), (some (58, true)), (.call 11 [(tD 62), (tD 63)])⟩, (.ent (e11 fu))), ogD 65 58 true (.beq false (tD 61) (tD 64)), opD 66 (.pick (tD 58) (tD 65) (.const vB)), mvD 67 66, ogD 68 67 true (.mov (tD 8)), ogD 69 67 true (.mov (tD 10)), (⟨(some 70), (some (67, true)), (.call 17 [(tD 68), (tD 69)])⟩, (.ent (e17 fu))), ogD 71 67 true (.mov (tD 0)), ogD 72 67 true (.mov (tD 2)), (⟨(some 73), (some (67, true)), (.call 17 [(tD 71), (tD 72)])⟩, (.ent (e17 fu))), ogD 74 67 true (.bin .eql (tD 70) (tD 73)), opD 75 (.pick (tD 67) (tD 74) (.const vB)), mvD 6 75] [[], [0], [1], [1], [2, 3, 1, 1], [1], [1], [5, 6, 4, 1], [4, 7, 1], [1, 8], [9, 7], [10], [10], [11, 12, 10, 10], [10], [10], [14, 15, 13, 10], [13, 16, 10], [10, 17], [18, 16, 0, 1, 2, 3, 4, 5, 6, 7, 8, 9, 10, 11, 12, 13, 14, 15, 16, 17, 18]] false) .ret)))))))))
set_option maxRecDepth 1000000 in
theorem v9 (fu : Nat) : evF fu (d9 fu) rs9 76 (e9 fu).ash (e9 fu).osh (e9 fu).vsh = p9 fu := by kernel_rfl
set_option maxRecDepth 1000000 in
theorem b9 (fu : Nat) : BodyD Try.prog 9 76 (d9 fu).erase rs9 := bodyD_mk Try.func9 (by kernel_rfl) (by kernel_rfl) (by kernel_rfl) (by kernel_rfl)
theorem g9 (fu : Nat) : (e9 fu).Good Try.prog := good_by orders (b9 fu) (l := [e10 fu, e11 fu, e11 fu, e17 fu, e17 fu]) (by kernel_rfl) ⟨g10 fu, g11 fu, g11 fu, g17 fu, g17 fu, trivial⟩ (by kernel_rfl) (v9 fu)
end Go.Proofs.Ytlglifgnklngfaa
