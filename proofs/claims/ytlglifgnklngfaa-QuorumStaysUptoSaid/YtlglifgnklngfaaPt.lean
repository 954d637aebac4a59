/-
  The functions, typed.
-/
import Derived.Test.YtlglifgnklngfaaCmL
import Derived.Test.YtlglifgnklngfaaDaL
import Derived.Test.YtlglifgnklngfaaRows
namespace Go.Proofs.Ytlglifgnklngfaa
open Go.RowKit
abbrev T_runtime_errorAddressString : Tp := (.pair .str (.int .u64))
abbrev D_runtime_errorAddressString := (ByteArray) × (Int)
abbrev T_api_Ballot : Tp := (.pair (.int .i64) .bool)
abbrev D_api_Ballot := (Int) × (Bool)
abbrev T_api_Peer : Tp := (.pair (.int .i64) (.pair (.int .u64) (.int .u64)))
abbrev D_api_Peer := (Int) × ((Int) × (Int))
abbrev T_runtime_boundsError : Tp := (.pair (.int .i64) (.pair (.int .i64) (.pair .bool (.int .u8))))
abbrev D_runtime_boundsError := (Int) × ((Int) × ((Bool) × (Int)))
theorem orders : Try.prog.follows .mixedOrders = true := by kernel_rfl

def rs13 : List RVx := [(.tmp 2)]
/-- gazette/quorum.Most -/
def p13 (_ : Nat) : (Int) × (Unit) → Option ((Unit) × (Int)) := fun ⟨a, _⟩ =>
bif decide (a < (1 : Int)) then
 some ((), (0 : Int))
else
 some ((), IntKind.wrap .i64 ((IntKind.wrap .i64 (Int.tdiv a (2 : Int))) + (1 : Int)))
def e13 (fu : Nat) : Ent := ⟨13, (.cons (.hole (.int .i64)) .nil), .nil, (.hole (.int .i64)), p13 fu⟩
def d13 (_ : Nat) : DC := (.seq (.region [opD 2 (.mov (cD 0))] [[]] false) (.seq (.seq (.region [mvD 3 0, opD 4 (.bin .lss (tD 3) (cD 1))] [[], [0]] false) (.cond (.tmp 4) (.seq (.region [opD 2 (.mov (cD 0))] [[]] false) .ret) .skip)) (.seq (.region [mvD 5 0, opD 6 (.bin .quo (tD 5) (cD 2)), opD 7 (.bin .add (tD 6) (cD 1)), mvD 2 7] [[], [0], [1], [2, 0, 1, 2]] false) .ret)))
set_option maxRecDepth 1000000 in
theorem v13 (fu : Nat) : evF fu (d13 fu) rs13 8 (e13 fu).ash (e13 fu).osh (e13 fu).vsh = p13 fu := by kernel_rfl
set_option maxRecDepth 1000000 in
theorem b13 (fu : Nat) : BodyD Try.prog 13 8 (d13 fu).erase rs13 := bodyD_mk Try.func13 (by kernel_rfl) (by kernel_rfl) (by kernel_rfl) (by kernel_rfl)
theorem g13 (fu : Nat) : (e13 fu).Good Try.prog := good_by orders (b13 fu) (l := []) (by kernel_rfl) trivial (by kernel_rfl) (v13 fu)
def rs33 : List RVx := [(.tmp 2)]
/-- slices.Clone[[]int,int] -/
def p33 (_ : Nat) : (List (Int)) × (Unit) → Option ((Unit) × (List (Int))) := fun ⟨a, _⟩ =>
bif decide (0 < List.length a) then
 bif decide (0 = List.length ([] : List (Int))) then
 bif decide (List.length ([] : List (Int)) + List.length a ≤ maxLen ∧ (List.length ([] : List (Int)) + List.length a) * 8 ≤ 140737488355328) then
 bif decide (List.length (([] : List (Int)) ++ a) = List.length (([] : List (Int)) ++ a)) then
 some ((), (([] : List (Int)) ++ a))
 else none
 else none
 else none
else
 both (prodQ (denQ .unit) (denQ (.sl (.int .i64))))
 (some ((), []))
 (bif decide (0 = List.length ([] : List (Int))) then
 bif decide (List.length ([] : List (Int)) + List.length a ≤ maxLen ∧ (List.length ([] : List (Int)) + List.length a) * 8 ≤ 140737488355328) then
 bif decide (List.length (([] : List (Int)) ++ a) = List.length (([] : List (Int)) ++ a)) then
 some ((), (([] : List (Int)) ++ a))
 else none
 else none
 else none)
def e33 (fu : Nat) : Ent := ⟨33, (.cons (.hole (.sl (.int .i64))) .nil), .nil, (.own .own 3 (.int .i64)), p33 fu⟩
def d33 (_ : Nat) : DC := (.seq (.region [opD 2 (.mov (.const vS))] [[]] false) (.seq (.seq (.region [mvD 3 0, opD 4 (.pure (.nilq 3 false) [(tD 3)])] [[], [0]] false) (.cond (.tmp 4) (.seq (.region [opD 2 (.mov (.const vS))] [[]] false) .ret) .skip)) (.seq (.region [oqD 5 (.bslice 3 1 0 [vI] []) (.ty (.int .i64)), mvD 6 0, oqD 7 (.app 3 1 [vI] 8 (tD 5) (tD 6)) (.ty (.int .i64)), mvD 2 7] [[], [], [0, 1], [2, 2, 0, 1, 2]] false) .ret)))
set_option maxRecDepth 1000000 in
theorem v33 (fu : Nat) : evF fu (d33 fu) rs33 8 (e33 fu).ash (e33 fu).osh (e33 fu).vsh = p33 fu := by kernel_rfl
set_option maxRecDepth 1000000 in
theorem b33 (fu : Nat) : BodyD Try.prog 33 8 (d33 fu).erase rs33 := bodyD_mk Try.func33 (by kernel_rfl) (by kernel_rfl) (by kernel_rfl) (by kernel_rfl)
theorem g33 (fu : Nat) : (e33 fu).Good Try.prog := good_by orders (b33 fu) (l := []) (by kernel_rfl) trivial (by kernel_rfl) (v33 fu)
def rs19 : List RVx := [(.tmp 2)]
/-- gazette/quorum.distinct -/
def p19 (fu : Nat) : (List (Int)) × (Unit) → Option ((Unit) × (List (Int))) := fun ⟨a, _⟩ =>
Option.bind (p33 fu (a, ())) fun ⟨_, c⟩ =>
bif decide (List.length c = List.length c) then
 Option.bind (pSort fu (c, ())) fun ⟨⟨f, _⟩, _⟩ =>
 bif decide (List.length c = List.length f) then
 Option.bind (pCompact fu (f, ())) fun ⟨⟨_, _⟩, h⟩ =>
 bif decide (List.length h = List.length h) then
 some ((), h)
 else none
 else none
else none
def e19 (fu : Nat) : Ent := ⟨19, (.cons (.hole (.sl (.int .i64))) .nil), .nil, (.own .own 3 (.int .i64)), p19 fu⟩
def d19 (fu : Nat) : DC := (.seq (.region [opD 2 (.mov (.const vS))] [[]] false) (.seq (.region [mvD 4 0, oqD 5 (.call 33 [(tD 4)]) (.ent (e33 fu)), mvD 3 5] [[], [0], [1, 1, 0, 1]] false) (.seq (.region [mvD 6 3, oqD 7 (.call 34 [(tD 6)]) (.ent (eSort fu))] [[], [0]] false) (.seq (.region [mvD 8 3, oqD 9 (.call 35 [(tD 8)]) (.ent (eCompact fu)), mvD 2 9] [[], [0], [1, 1, 0, 1]] false) .ret))))
set_option maxRecDepth 1000000 in
theorem v19 (fu : Nat) : evF fu (d19 fu) rs19 10 (e19 fu).ash (e19 fu).osh (e19 fu).vsh = p19 fu := by kernel_rfl
set_option maxRecDepth 1000000 in
theorem b19 (fu : Nat) : BodyD Try.prog 19 10 (d19 fu).erase rs19 := bodyD_mk Try.func19 (by kernel_rfl) (by kernel_rfl) (by kernel_rfl) (by kernel_rfl)
theorem g19 (fu : Nat) : (e19 fu).Good Try.prog := good_by orders (b19 fu) (l := [e33 fu, eSort fu, eCompact fu]) (by kernel_rfl) ⟨g33 fu, gSort fu, gCompact fu, trivial⟩ (by kernel_rfl) (v19 fu)
def rs21 : List RVx := [(.tmp 2)]
/-- gazette/quorum.Has$1 -/
def p21 (_ : Nat) : (Int) × (Unit) → Option ((Unit) × (Int)) := fun ⟨a, _⟩ =>
some ((), a)
def e21 (fu : Nat) : Ent := ⟨21, (.cons (.hole (.int .i64)) .nil), .nil, (.hole (.int .i64)), p21 fu⟩
def d21 (_ : Nat) : DC := (.seq (.region [opD 2 (.mov (cD 0))] [[]] false) (.seq (.region [mvD 3 0, mvD 2 3] [[], [0, 0]] false) .ret))
set_option maxRecDepth 1000000 in
theorem v21 (fu : Nat) : evF fu (d21 fu) rs21 4 (e21 fu).ash (e21 fu).osh (e21 fu).vsh = p21 fu := by kernel_rfl
set_option maxRecDepth 1000000 in
theorem b21 (fu : Nat) : BodyD Try.prog 21 4 (d21 fu).erase rs21 := bodyD_mk Try.func21 (by kernel_rfl) (by kernel_rfl) (by kernel_rfl) (by kernel_rfl)
theorem g21 (fu : Nat) : (e21 fu).Good Try.prog := good_by orders (b21 fu) (l := []) (by kernel_rfl) trivial (by kernel_rfl) (v21 fu)
def rs22 : List RVx := [(.tmp 4)]
/-- gazette/quorum.first[int] -/
def p22 (_ : Nat) : (Int) × ((Int) × (Unit)) → Option ((Unit) × (Int)) := fun ⟨a, _, _⟩ =>
some ((), a)
def e22 (fu : Nat) : Ent := ⟨22, (.cons (.hole (.int .i64)) (.cons (.hole (.int .i64)) .nil)), .nil, (.hole (.int .i64)), p22 fu⟩
def d22 (_ : Nat) : DC := (.seq (.region [opD 4 (.mov (cD 0))] [[]] false) (.seq (.region [mvD 5 0, mvD 4 5] [[], [0, 0]] false) .ret))
set_option maxRecDepth 1000000 in
theorem v22 (fu : Nat) : evF fu (d22 fu) rs22 6 (e22 fu).ash (e22 fu).osh (e22 fu).vsh = p22 fu := by kernel_rfl
set_option maxRecDepth 1000000 in
theorem b22 (fu : Nat) : BodyD Try.prog 22 6 (d22 fu).erase rs22 := bodyD_mk Try.func22 (by kernel_rfl) (by kernel_rfl) (by kernel_rfl) (by kernel_rfl)
theorem g22 (fu : Nat) : (e22 fu).Good Try.prog := good_by orders (b22 fu) (l := []) (by kernel_rfl) trivial (by kernel_rfl) (v22 fu)
def rs20 : List RVx := [(.tmp 6)]
/-- gazette/quorum.byNode[int] -/
def p20 (fu : Nat) : (List (Int)) × (((Unit) × (Unit)) × (((Unit) × (Unit)) × (Unit))) → Option ((Unit) × (List ((Int) × (Int)))) := fun ⟨a, ⟨_, _⟩, ⟨_, _⟩, _⟩ =>
loopO (S := ((List ((Int) × (Int))) × ((Int) × (Unit))) × (Unit)) fu (fun ⟨⟨c, f, _⟩, _⟩ =>
 bif decide (f < (List.length a : Int)) then
 bif decide ((0 : Int) ≤ f ∧ f < (List.length a : Int)) then
 bif decide (Int.toNat f < List.length a) then
 Option.bind (p21 fu ((List.getD a (Int.toNat f) (dflt (.int .i64))), ())) fun ⟨_, h⟩ =>
 orK (E := ((Int) × (Unit)) × (Unit))
 (bif hasM (.int .i64) c h then
 Option.bind (p22 fu ((Option.getD (lookM (.int .i64) c h) (0 : Int)), (List.getD a (Int.toNat f) (dflt (.int .i64))), ())) fun ⟨_, i⟩ =>
 some (.inl ((i, ()), ()))
 else
 some (.inl (((List.getD a (Int.toNat f) (dflt (.int .i64))), ()), ())))
 fun ⟨⟨j, _⟩, _⟩ =>
 some (.inl (((setM (.int .i64) c h j), IntKind.wrap .i64 (f + (1 : Int)), ()), ()))
 else none
 else none
 else
 inrO (some ((), c)))
 ((([] : List (Int × Int)), (0 : Int), ()), ())
def e20 (fu : Nat) : Ent := ⟨20, (.cons (.hole (.sl (.int .i64))) (.cons (.clo 21 0 .nil 0 .nil) (.cons (.clo 22 0 .nil 0 .nil) .nil))), .nil, (.mown false (.int .i64) (.int .i64)), p20 fu⟩
def d20 (fu : Nat) : DC := (.seq (.region [opD 6 (.mov (.const (.map none)))] [[]] false) (.seq (.region [mvD 13 0, opD 14 (.len false (tD 13)), oqD 15 (.mkmap 43 false 1 (some (tD 14))) (.ty (.pair (.int .i64) (.int .i64))), mvD 7 15] [[], [0], [1], [2, 0, 1, 2]] false) (.seq (.seq (.region [mvD 16 0, opD 17 (.len false (tD 16)), opD 18 (.mov (cD 0))] [[], [0], []] false) (.block 0 (.loop ⟨[7, 18], (.cons (.mown false (.int .i64) (.int .i64)) (.cons (.hole (.int .i64)) .nil)), [], .nil, [1, 2, 16, 17], []⟩
 (.seq (.region [opD 19 (.bin .lss (tD 18) (tD 17))] [[]] false) (.seq (.cond (.tmp 19) .skip (.exit 0)) (.seq (.block 1 (.seq (.region [opD 20 (.iaddr 1 (tD 16) (tD 18)), opD 21 (.load false 1 (tD 20)), mvD 9 21] [[], [0], [1, 0, 1]] false) (.seq (.region [mvD 22 1, mvD 23 9, oqD 24 (.callv (tD 22) [(tD 23)]) (.ent (e21 fu)), mvD 10 24] [[], [], [0, 1], [2, 2, 0, 1, 2]] false) (.join ⟨[9], (.cons (.hole (.int .i64)) .nil), [], .nil, [1, 2, 7, 10, 16, 17, 18], [128]⟩
 (.seq (.region [mvD 26 7, mvD 27 10, opD 28 (.mlook (.int .i64) true false 1 [vI] (tD 26) (tD 27)), mvD 25 28, opD 29 (.ext (tD 25) 0), opD 30 (.ext (tD 25) 1), mvD 11 29, mvD 12 30] [[], [], [0, 1], [2], [3], [3], [4, 0, 1, 2, 3, 4], [5, 6, 0, 1, 2, 3, 4, 5, 6]] false) (.seq (.region [mvD 31 12] [[]] false) (.cond (.tmp 31) (.region [mvD 32 2, mvD 33 11, mvD 34 9, oqD 35 (.callv (tD 32) [(tD 33), (tD 34)]) (.ent (e22 fu)), mvD 9 35] [[], [], [], [0, 1, 2], [3, 3, 0, 1, 2, 3]] false) .skip)))
 (.region [mvD 36 7, mvD 37 10, mvD 38 9, onD (.mset (.int .i64) false 1 (tD 36) (tD 37) (tD 38))] [[], [], [], [0, 1, 2, 0, 1, 2]] false))))) (.region [opD 39 (.bin .add (tD 18) (cD 1)), mvD 18 39] [[], [0]] false))))))) (.seq (.region [mvD 40 7, mvD 6 40] [[], [0, 0]] false) .ret))))
set_option maxRecDepth 1000000 in
theorem v20 (fu : Nat) : evF fu (d20 fu) rs20 41 (e20 fu).ash (e20 fu).osh (e20 fu).vsh = p20 fu := by kernel_rfl
set_option maxRecDepth 1000000 in
theorem b20 (fu : Nat) : BodyD Try.prog 20 41 (d20 fu).erase rs20 := bodyD_mk Try.func20 (by kernel_rfl) (by kernel_rfl) (by kernel_rfl) (by kernel_rfl)
theorem g20 (fu : Nat) : (e20 fu).Good Try.prog := good_by orders (b20 fu) (l := [e21 fu, e22 fu]) (by kernel_rfl) ⟨g21 fu, g22 fu, trivial⟩ (by kernel_rfl) (v20 fu)
def rs11 : List RVx := [(.tmp 4)]
/-- gazette/quorum.Has -/
def p11 (fu : Nat) : (List (Int)) × ((List (Int)) × (Unit)) → Option ((Unit) × (Bool)) := fun ⟨a, c, _⟩ =>
Option.bind (p19 fu (a, ())) fun ⟨_, f⟩ =>
Option.bind (p20 fu (c, ((), ()), ((), ()), ())) fun ⟨_, h⟩ =>
loopO (S := ((Int) × ((Int) × (Unit))) × (Unit)) fu (fun ⟨⟨i, j, _⟩, _⟩ =>
 bif decide (j < ((List.length f) : Int)) then
 bif decide ((0 : Int) ≤ j ∧ j < (List.length f : Int)) then
 bif decide (Int.toNat j < List.length f) then
 bif hasM (.int .i64) h (List.getD f (Int.toNat j) (dflt (.int .i64))) then
 some (.inl ((IntKind.wrap .i64 (i + (1 : Int)), IntKind.wrap .i64 (j + (1 : Int)), ()), ()))
 else
 some (.inl ((i, IntKind.wrap .i64 (j + (1 : Int)), ()), ()))
 else none
 else none
 else
 inrO (bif decide (((List.length f) : Int) > (0 : Int)) then
 Option.bind (p13 fu (((List.length f) : Int), ())) fun ⟨_, k⟩ =>
 some ((), decide (i ≥ k))
 else
 some ((), false)))
 (((0 : Int), (0 : Int), ()), ())
def e11 (fu : Nat) : Ent := ⟨11, (.cons (.hole (.sl (.int .i64))) (.cons (.hole (.sl (.int .i64))) .nil)), .nil, (.hole .bool), p11 fu⟩
def d11 (fu : Nat) : DC := (.seq (.region [opD 4 (.mov (.const vB))] [[]] false) (.seq (.region [mvD 12 0, oqD 13 (.call 19 [(tD 12)]) (.ent (e19 fu)), mvD 5 13] [[], [0], [1, 1, 0, 1]] false) (.seq (.region [mvD 14 1, oqD 15 (.call 20 [(tD 14), (.func 21), (.func 22)]) (.ent (e20 fu)), mvD 6 15] [[], [0], [1, 1, 0, 1]] false) (.seq (.region [opD 7 (.mov (cD 0))] [[]] false) (.seq (.seq (.region [mvD 16 5, opD 17 (.len false (tD 16)), opD 18 (.mov (cD 0))] [[], [0], []] false) (.block 0 (.loop ⟨[7, 18], (.cons (.hole (.int .i64)) (.cons (.hole (.int .i64)) .nil)), [], .nil, [5, 6, 16, 17], [32, 80]⟩
 (.seq (.region [opD 19 (.bin .lss (tD 18) (tD 17))] [[]] false) (.seq (.cond (.tmp 19) .skip (.exit 0)) (.seq (.block 1 (.seq (.region [opD 20 (.iaddr 1 (tD 16) (tD 18)), opD 21 (.load false 1 (tD 20)), mvD 9 21] [[], [0], [1, 0, 1]] false) (.seq (.region [mvD 23 6, mvD 24 9, opD 25 (.mlook (.int .i64) true false 1 [vI] (tD 23) (tD 24)), mvD 22 25, opD 26 (.ext (tD 22) 0), opD 27 (.ext (tD 22) 1), mvD 10 26, mvD 11 27] [[], [], [0, 1], [2], [3], [3], [4, 0, 1, 2, 3, 4], [5, 6, 0, 1, 2, 3, 4, 5, 6]] false) (.seq (.region [mvD 28 11] [[]] false) (.cond (.tmp 28) (.region [mvD 29 7, opD 30 (.bin .add (tD 29) (cD 1)), mvD 7 30] [[], [0], [1, 0, 1]] false) .skip))))) (.region [opD 31 (.bin .add (tD 18) (cD 1)), mvD 18 31] [[], [0]] false))))))) (.seq (.region [mvD 32 5, opD 33 (.len false (tD 32)), opD 34 (.bin .gtr (tD 33) (cD 0)), mvD 35 34, ogD 36 35 true (.mov (tD 7)), ogD 37 35 true (.mov (tD 5)), ogD 38 35 true (.len false (tD 37)), (⟨(some 39), (some (35, true)), (.call 13 [(tD 38)])⟩, (.ent (e13 fu))), ogD 40 35 true (.bin .geq (tD 36) (tD 39)), opD 41 (.pick (tD 35) (tD 40) (.const vB)), mvD 4 41] [[], [0], [1], [2], [3], [3], [5, 3], [6, 3, 3], [4, 7, 3], [3, 8], [9, 7, 0, 1, 2, 3, 4, 5, 6, 7, 8, 9]] false) .ret))))))
set_option maxRecDepth 1000000 in
theorem v11 (fu : Nat) : evF fu (d11 fu) rs11 42 (e11 fu).ash (e11 fu).osh (e11 fu).vsh = p11 fu := by kernel_rfl
set_option maxRecDepth 1000000 in
theorem b11 (fu : Nat) : BodyD Try.prog 11 42 (d11 fu).erase rs11 := bodyD_mk Try.func11 (by kernel_rfl) (by kernel_rfl) (by kernel_rfl) (by kernel_rfl)
theorem g11 (fu : Nat) : (e11 fu).Good Try.prog := good_by orders (b11 fu) (l := [e19 fu, e20 fu, e13 fu]) (by kernel_rfl) ⟨g19 fu, g20 fu, g13 fu, trivial⟩ (by kernel_rfl) (v11 fu)
def rs24 : List RVx := [(.tmp 2)]
/-- gazette/quorum.Tally$1 -/
def p24 (_ : Nat) : ((Int) × ((Bool) × (Unit))) × (Unit) → Option ((Unit) × (Int)) := fun ⟨⟨a, _, _⟩, _⟩ =>
some ((), a)
def e24 (fu : Nat) : Ent := ⟨24, (.cons (.agg 2 (.cons (.hole (.int .i64)) (.cons (.hole .bool) .nil))) .nil), .nil, (.hole (.int .i64)), p24 fu⟩
def d24 (_ : Nat) : DC := (.seq (.region [opD 1 (.box 41 2 (tD 0)), opD 2 (.mov (cD 0))] [[], []] false) (.seq (.region [opD 3 (.faddr 0 (tD 1)), opD 4 (.load false 1 (tD 3)), mvD 2 4] [[], [0], [1, 0, 1]] false) .ret))
set_option maxRecDepth 1000000 in
theorem v24 (fu : Nat) : evF fu (d24 fu) rs24 5 (e24 fu).ash (e24 fu).osh (e24 fu).vsh = p24 fu := by kernel_rfl
set_option maxRecDepth 1000000 in
theorem b24 (fu : Nat) : BodyD Try.prog 24 5 (d24 fu).erase rs24 := bodyD_mk Try.func24 (by kernel_rfl) (by kernel_rfl) (by kernel_rfl) (by kernel_rfl)
theorem g24 (fu : Nat) : (e24 fu).Good Try.prog := good_by orders (b24 fu) (l := []) (by kernel_rfl) trivial (by kernel_rfl) (v24 fu)
def rs25 : List RVx := [(.cell 4 true 2)]
/-- gazette/quorum.first[gazette/api.Ballot] -/
def p25 (_ : Nat) : ((Int) × ((Bool) × (Unit))) × (((Int) × ((Bool) × (Unit))) × (Unit)) → Option ((Unit) × ((Int) × ((Bool) × (Unit)))) := fun ⟨⟨a, c, _⟩, ⟨_, _, _⟩, _⟩ =>
some ((), (a, c, ()))
def e25 (fu : Nat) : Ent := ⟨25, (.cons (.agg 2 (.cons (.hole (.int .i64)) (.cons (.hole .bool) .nil))) (.cons (.agg 2 (.cons (.hole (.int .i64)) (.cons (.hole .bool) .nil))) .nil)), .nil, (.agg 2 (.cons (.hole (.int .i64)) (.cons (.hole .bool) .nil))), p25 fu⟩
def d25 (_ : Nat) : DC := (.seq (.region [opD 2 (.box 41 2 (tD 0)), opD 3 (.box 41 2 (tD 1)), opD 4 (.alloc 41 2 [vI, vB])] [[], [], []] false) (.seq (.region [opD 5 (.load true 2 (tD 2)), onD (.store 2 (tD 4) (tD 5))] [[], [0, 0]] false) .ret))
set_option maxRecDepth 1000000 in
theorem v25 (fu : Nat) : evF fu (d25 fu) rs25 6 (e25 fu).ash (e25 fu).osh (e25 fu).vsh = p25 fu := by kernel_rfl
set_option maxRecDepth 1000000 in
theorem b25 (fu : Nat) : BodyD Try.prog 25 6 (d25 fu).erase rs25 := bodyD_mk Try.func25 (by kernel_rfl) (by kernel_rfl) (by kernel_rfl) (by kernel_rfl)
theorem g25 (fu : Nat) : (e25 fu).Good Try.prog := good_by orders (b25 fu) (l := []) (by kernel_rfl) trivial (by kernel_rfl) (v25 fu)
def rs23 : List RVx := [(.tmp 6)]
/-- gazette/quorum.byNode[gazette/api.Ballot] -/
def p23 (fu : Nat) : (List (D_api_Ballot)) × (((Unit) × (Unit)) × (((Unit) × (Unit)) × (Unit))) → Option ((Unit) × (List ((Int) × (D_api_Ballot)))) := fun ⟨a, ⟨_, _⟩, ⟨_, _⟩, _⟩ =>
loopO (S := ((List ((Int) × (D_api_Ballot))) × ((Int) × (Unit))) × (Unit)) fu (fun ⟨⟨c, f, _⟩, _⟩ =>
 bif decide (f < (List.length a : Int)) then
 bif decide ((0 : Int) ≤ f ∧ f < (List.length a : Int)) then
 bif decide (Int.toNat f < List.length a) then
 Option.bind (p24 fu (((List.getD a (Int.toNat f) (dflt T_api_Ballot)).1, (List.getD a (Int.toNat f) (dflt T_api_Ballot)).2, ()), ())) fun ⟨_, h⟩ =>
 orK (E := (Unit) × (((Int) × ((Bool) × (Unit))) × (Unit)))
 (bif hasM (.int .i64) c h then
 Option.bind (p25 fu (((Option.getD (lookM (.int .i64) c h) ((0 : Int), false)).1, (Option.getD (lookM (.int .i64) c h) ((0 : Int), false)).2, ()), ((List.getD a (Int.toNat f) (dflt T_api_Ballot)).1, (List.getD a (Int.toNat f) (dflt T_api_Ballot)).2, ()), ())) fun ⟨_, ⟨i, j, _⟩⟩ =>
 some (.inl ((), ((i, j, ()), ())))
 else
 some (.inl ((), (((List.getD a (Int.toNat f) (dflt T_api_Ballot)).1, (List.getD a (Int.toNat f) (dflt T_api_Ballot)).2, ()), ()))))
 fun ⟨_, ⟨⟨k, l, _⟩, _⟩⟩ =>
 some (.inl (((setM (.int .i64) c h (k, l)), IntKind.wrap .i64 (f + (1 : Int)), ()), ()))
 else none
 else none
 else
 inrO (some ((), c)))
 ((([] : List (Int × D_api_Ballot)), (0 : Int), ()), ())
def e23 (fu : Nat) : Ent := ⟨23, (.cons (.hole (.sl T_api_Ballot)) (.cons (.clo 24 0 .nil 0 .nil) (.cons (.clo 25 0 .nil 0 .nil) .nil))), .nil, (.mown true (.int .i64) T_api_Ballot), p23 fu⟩
def d23 (fu : Nat) : DC := (.seq (.region [opD 6 (.mov (.const (.map none)))] [[]] false) (.seq (.region [mvD 13 0, opD 14 (.len false (tD 13)), oqD 15 (.mkmap 47 true 2 (some (tD 14))) (.ty (.pair (.int .i64) T_api_Ballot)), mvD 7 15] [[], [0], [1], [2, 0, 1, 2]] false) (.seq (.seq (.region [mvD 16 0, opD 17 (.len false (tD 16)), opD 18 (.mov (cD 0))] [[], [0], []] false) (.block 0 (.loop ⟨[7, 18], (.cons (.mown true (.int .i64) T_api_Ballot) (.cons (.hole (.int .i64)) .nil)), [], .nil, [1, 2, 16, 17], []⟩
 (.seq (.region [opD 19 (.bin .lss (tD 18) (tD 17))] [[]] false) (.seq (.cond (.tmp 19) .skip (.exit 0)) (.seq (.block 1 (.seq (.region [opD 20 (.iaddr 2 (tD 16) (tD 18)), opD 21 (.load true 2 (tD 20)), opD 9 (.alloc 41 2 [vI, vB]), onD (.store 2 (tD 9) (tD 21))] [[], [0], [], [2, 1, 0, 1, 2]] false) (.seq (.region [mvD 22 1, opD 23 (.load true 2 (tD 9)), oqD 24 (.callv (tD 22) [(tD 23)]) (.ent (e24 fu)), mvD 10 24] [[], [], [0, 1], [2, 2, 0, 1, 2]] false) (.join ⟨[], .nil, [(177, 41, 2)], (.cons (.agg 2 (.cons (.hole (.int .i64)) (.cons (.hole .bool) .nil))) .nil), [1, 2, 7, 9, 10, 16, 17, 18], [128]⟩
 (.seq (.region [mvD 26 7, mvD 27 10, opD 28 (.mlook (.int .i64) true true 2 [vI, vB] (tD 26) (tD 27)), mvD 25 28, opD 29 (.ext (tD 25) 0), opD 30 (.ext (tD 25) 1), opD 11 (.alloc 41 2 [vI, vB]), onD (.store 2 (tD 11) (tD 29)), mvD 12 30] [[], [], [0, 1], [2], [3], [3], [], [6, 4, 0, 1, 2, 3, 4, 6], [5, 7, 0, 1, 2, 3, 4, 5, 6, 7]] false) (.seq (.region [mvD 31 12] [[]] false) (.cond (.tmp 31) (.region [mvD 32 2, opD 33 (.load true 2 (tD 11)), opD 34 (.load true 2 (tD 9)), oqD 35 (.callv (tD 32) [(tD 33), (tD 34)]) (.ent (e25 fu)), onD (.store 2 (tD 9) (tD 35))] [[], [], [], [0, 1, 2], [3, 3, 0, 1, 2, 3]] false) .skip)))
 (.region [mvD 36 7, mvD 37 10, opD 38 (.load true 2 (tD 9)), onD (.mset (.int .i64) true 2 (tD 36) (tD 37) (tD 38))] [[], [], [], [0, 1, 2, 0, 1, 2]] false))))) (.region [opD 39 (.bin .add (tD 18) (cD 1)), mvD 18 39] [[], [0]] false))))))) (.seq (.region [mvD 40 7, mvD 6 40] [[], [0, 0]] false) .ret))))
set_option maxRecDepth 1000000 in
theorem v23 (fu : Nat) : evF fu (d23 fu) rs23 41 (e23 fu).ash (e23 fu).osh (e23 fu).vsh = p23 fu := by kernel_rfl
set_option maxRecDepth 1000000 in
theorem b23 (fu : Nat) : BodyD Try.prog 23 41 (d23 fu).erase rs23 := bodyD_mk Try.func23 (by kernel_rfl) (by kernel_rfl) (by kernel_rfl) (by kernel_rfl)
theorem g23 (fu : Nat) : (e23 fu).Good Try.prog := good_by orders (b23 fu) (l := [e24 fu, e25 fu]) (by kernel_rfl) ⟨g24 fu, g25 fu, trivial⟩ (by kernel_rfl) (v23 fu)
def rs12 : List RVx := [(.tmp 4)]
/-- gazette/quorum.Tally -/
def p12 (fu : Nat) : (List (Int)) × ((List (D_api_Ballot)) × (Unit)) → Option ((Unit) × (Int)) := fun ⟨a, c, _⟩ =>
Option.bind (p19 fu (a, ())) fun ⟨_, f⟩ =>
Option.bind (p23 fu (c, ((), ()), ((), ()), ())) fun ⟨_, h⟩ =>
loopO (S := ((Int) × ((Int) × ((Int) × (Unit)))) × (Unit)) fu (fun ⟨⟨i, j, k, _⟩, _⟩ =>
 bif decide (k < ((List.length f) : Int)) then
 bif decide ((0 : Int) ≤ k ∧ k < (List.length f : Int)) then
 bif decide (Int.toNat k < List.length f) then
 orK (E := ((Bool) × (Unit)) × (Unit))
 (bif hasM (.int .i64) h (List.getD f (Int.toNat k) (dflt (.int .i64))) then
 some (.inl (((Option.getD (lookM (.int .i64) h (List.getD f (Int.toNat k) (dflt (.int .i64)))) ((0 : Int), false)).2, ()), ()))
 else
 some (.inl ((false, ()), ())))
 fun ⟨⟨l, _⟩, _⟩ =>
 bif l then
 some (.inl ((IntKind.wrap .i64 (i + (1 : Int)), j, IntKind.wrap .i64 (k + (1 : Int)), ()), ()))
 else
 bif hasM (.int .i64) h (List.getD f (Int.toNat k) (dflt (.int .i64))) then
 some (.inl ((i, IntKind.wrap .i64 (j + (1 : Int)), IntKind.wrap .i64 (k + (1 : Int)), ()), ()))
 else
 some (.inl ((i, j, IntKind.wrap .i64 (k + (1 : Int)), ()), ()))
 else none
 else none
 else
 inrO (Option.bind (p13 fu (((List.length f) : Int), ())) fun ⟨_, m⟩ =>
 bif (((List.length f) : Int) == (0 : Int)) then
 some ((), (0 : Int))
 else
 bif decide (i ≥ m) then
 some ((), (1 : Int))
 else
 bif decide ((IntKind.wrap .i64 (((List.length f) : Int) - j)) < m) then
 some ((), ((-1) : Int))
 else
 some ((), (0 : Int))))
 (((0 : Int), (0 : Int), (0 : Int), ()), ())
def e12 (fu : Nat) : Ent := ⟨12, (.cons (.hole (.sl (.int .i64))) (.cons (.hole (.sl T_api_Ballot)) .nil)), .nil, (.hole (.int .i64)), p12 fu⟩
def d12 (fu : Nat) : DC := (.seq (.region [opD 4 (.mov (cD 0))] [[]] false) (.seq (.region [mvD 14 0, oqD 15 (.call 19 [(tD 14)]) (.ent (e19 fu)), mvD 5 15] [[], [0], [1, 1, 0, 1]] false) (.seq (.region [mvD 16 1, oqD 17 (.call 23 [(tD 16), (.func 24), (.func 25)]) (.ent (e23 fu)), mvD 6 17] [[], [0], [1, 1, 0, 1]] false) (.seq (.region [opD 7 (.mov (cD 0)), opD 8 (.mov (cD 0))] [[], [0, 0]] false) (.seq (.seq (.region [mvD 18 5, opD 19 (.len false (tD 18)), opD 20 (.mov (cD 0))] [[], [0], []] false) (.block 0 (.loop ⟨[7, 8, 20], (.cons (.hole (.int .i64)) (.cons (.hole (.int .i64)) (.cons (.hole (.int .i64)) .nil))), [], .nil, [5, 6, 18, 19], [32, 80]⟩
 (.seq (.region [opD 21 (.bin .lss (tD 20) (tD 19))] [[]] false) (.seq (.cond (.tmp 21) .skip (.exit 0)) (.seq (.block 1 (.seq (.region [opD 22 (.iaddr 1 (tD 18) (tD 20)), opD 23 (.load false 1 (tD 22)), mvD 10 23] [[], [0], [1, 0, 1]] false) (.seq (.region [mvD 25 6, mvD 26 10, opD 27 (.mlook (.int .i64) true true 2 [vI, vB] (tD 25) (tD 26)), mvD 24 27, opD 28 (.ext (tD 24) 0), opD 29 (.ext (tD 24) 1), opD 11 (.alloc 41 2 [vI, vB]), onD (.store 2 (tD 11) (tD 28)), mvD 12 29] [[], [], [0, 1], [2], [3], [3], [], [6, 4, 0, 1, 2, 3, 4, 6], [5, 7, 0, 1, 2, 3, 4, 5, 6, 7]] false) (.block 2 (.join ⟨[30], (.cons (.hole .bool) .nil), [], .nil, [5, 6, 7, 8, 12, 18, 19, 20], [32, 80]⟩
 (.region [mvD 31 12, mvD 32 31, ogD 33 32 true (.faddr 1 (tD 11)), ogD 34 32 true (.load false 1 (tD 33)), opD 35 (.pick (tD 32) (tD 34) (.const vB)), mvD 30 35] [[], [0], [1], [2, 1], [1, 3], [4, 1]] false)
 (.cond (.tmp 30) (.region [mvD 36 7, opD 37 (.bin .add (tD 36) (cD 1)), mvD 7 37] [[], [0], [1, 0, 1]] false) (.seq (.region [mvD 39 12, mvD 38 39] [[], [0]] false) (.cond (.tmp 38) (.region [mvD 40 8, opD 41 (.bin .add (tD 40) (cD 1)), mvD 8 41] [[], [0], [1, 0, 1]] false) .skip)))))))) (.region [opD 42 (.bin .add (tD 20) (cD 1)), mvD 20 42] [[], [0]] false))))))) (.seq (.seq (.region [mvD 43 5, opD 44 (.len false (tD 43)), oqD 45 (.call 13 [(tD 44)]) (.ent (e13 fu)), mvD 13 45] [[], [0], [1], [2, 2, 0, 1, 2]] false) (.block 3 (.seq (.region [mvD 47 5, opD 48 (.len false (tD 47)), opD 49 (.bin .eql (tD 48) (cD 0)), mvD 46 49] [[], [0], [1], [2]] false) (.cond (.tmp 46) (.seq (.region [opD 4 (.mov (cD 0))] [[]] false) .ret) (.seq (.region [mvD 51 7, mvD 52 13, opD 53 (.bin .geq (tD 51) (tD 52)), mvD 50 53] [[], [], [0, 1], [2]] false) (.cond (.tmp 50) (.seq (.region [opD 4 (.mov (cD 1))] [[]] false) .ret) (.seq (.region [mvD 55 5, opD 56 (.len false (tD 55)), mvD 57 8, opD 58 (.bin .sub (tD 56) (tD 57)), mvD 59 13, opD 60 (.bin .lss (tD 58) (tD 59)), mvD 54 60] [[], [0], [], [1, 2], [], [3, 4], [5]] false) (.cond (.tmp 54) (.seq (.region [opD 4 (.mov (.const (.int .i64 (-1))))] [[]] false) .ret) .skip)))))))) (.seq (.region [opD 4 (.mov (cD 0))] [[]] false) .ret)))))))
set_option maxRecDepth 1000000 in
theorem v12 (fu : Nat) : evF fu (d12 fu) rs12 61 (e12 fu).ash (e12 fu).osh (e12 fu).vsh = p12 fu := by kernel_rfl
set_option maxRecDepth 1000000 in
theorem b12 (fu : Nat) : BodyD Try.prog 12 61 (d12 fu).erase rs12 := bodyD_mk Try.func12 (by kernel_rfl) (by kernel_rfl) (by kernel_rfl) (by kernel_rfl)
theorem g12 (fu : Nat) : (e12 fu).Good Try.prog := good_by orders (b12 fu) (l := [e19 fu, e23 fu, e13 fu]) (by kernel_rfl) ⟨g19 fu, g23 fu, g13 fu, trivial⟩ (by kernel_rfl) (v12 fu)
def rs10 : List RVx := [(.tmp 0)]
/-- gazette/gazettelaw07.head -/
def p10 (fu : Nat) : Unit → Option ((Unit) × (Bool)) := fun _ =>
Option.bind (p13 fu ((4 : Int), ())) fun ⟨_, a⟩ =>
bif (a == (3 : Int)) then
 Option.bind (p11 fu ([(1 : Int), (2 : Int), (3 : Int)], [(3 : Int), (1 : Int)], ())) fun ⟨_, c⟩ =>
 bif c then
 Option.bind (p12 fu ([(1 : Int), (2 : Int), (3 : Int)], [((1 : Int), true), ((3 : Int), true)], ())) fun ⟨_, f⟩ =>
 some ((), (f == (1 : Int)))
 else
 some ((), false)
else
 some ((), false)
def e10 (fu : Nat) : Ent := ⟨10, .nil, .nil, (.hole .bool), p10 fu⟩
def d10 (fu : Nat) : DC := (.seq (.region [opD 0 (.mov (.const vB))] [[]] false) (.seq (.region [oqD 1 (.call 13 [(cD 4)]) (.ent (e13 fu)), opD 2 (.bin .eql (tD 1) (cD 3)), mvD 3 2, (⟨(some 4), (some (3, true)), (.bslice 3 1 3 [vI] [(0, (cD 1)), (1, (cD 2)), (2, (cD 3))])⟩, (.ty (.int .i64))), (⟨(some 5), (some (3, true)), (.bslice 3 1 2 [vI] [(0, (cD 3)), (1, (cD 1))])⟩, (.ty (.int .i64))), (⟨(some 6), (some (3, true)), (.call 11 [(tD 4), (tD 5)])⟩, (.ent (e11 fu))), opD 7 (.pick (tD 3) (tD 6) (.const vB)), mvD 8 7, (⟨(some 9), (some (8, true)), (.bslice 3 1 3 [vI] [(0, (cD 1)), (1, (cD 2)), (2, (cD 3))])⟩, (.ty (.int .i64))), ogD 10 8 true (.build 2 [vI, vB] [(0, (1, (cD 1))), (1, (1, (.const (.bool true))))]), ogD 11 8 true (.build 2 [vI, vB] [(0, (1, (cD 3))), (1, (1, (.const (.bool true))))]), (⟨(some 12), (some (8, true)), (.bslice 41 2 2 [vI, vB] [(0, (tD 10)), (1, (tD 11))])⟩, (.ty T_api_Ballot)), (⟨(some 13), (some (8, true)), (.call 12 [(tD 9), (tD 12)])⟩, (.ent (e12 fu))), ogD 14 8 true (.bin .eql (tD 13) (cD 1)), opD 15 (.pick (tD 8) (tD 14) (.const vB)), mvD 0 15] [[], [0], [1, 0], [2], [2], [3, 4, 2, 2], [2, 5], [6, 5], [7], [7], [7], [9, 10, 7], [8, 11, 7, 7], [12, 7], [7, 13], [14, 12, 0, 1, 2, 3, 4, 5, 6, 7, 8, 9, 10, 11, 12, 13, 14]] false) .ret))
set_option maxRecDepth 1000000 in
theorem v10 (fu : Nat) : evF fu (d10 fu) rs10 16 (e10 fu).ash (e10 fu).osh (e10 fu).vsh = p10 fu := by kernel_rfl
set_option maxRecDepth 1000000 in
theorem b10 (fu : Nat) : BodyD Try.prog 10 16 (d10 fu).erase rs10 := bodyD_mk Try.func10 (by kernel_rfl) (by kernel_rfl) (by kernel_rfl) (by kernel_rfl)
theorem g10 (fu : Nat) : (e10 fu).Good Try.prog := good_by orders (b10 fu) (l := [e13 fu, e11 fu, e12 fu]) (by kernel_rfl) ⟨g13 fu, g11 fu, g12 fu, trivial⟩ (by kernel_rfl) (v10 fu)
def rs14 : List RVx := [(.tmp 2)]
/-- gazette/gazetteref07.Most -/
def p14 (_ : Nat) : (Int) × (Unit) → Option ((Unit) × (Int)) := fun ⟨a, _⟩ =>
bif decide (a < (1 : Int)) then
 some ((), (0 : Int))
else
 some ((), IntKind.wrap .i64 ((IntKind.wrap .i64 (Int.tdiv a (2 : Int))) + (1 : Int)))
def e14 (fu : Nat) : Ent := ⟨14, (.cons (.hole (.int .i64)) .nil), .nil, (.hole (.int .i64)), p14 fu⟩
def d14 (_ : Nat) : DC := (.seq (.region [opD 2 (.mov (cD 0))] [[]] false) (.seq (.seq (.region [mvD 3 0, opD 4 (.bin .lss (tD 3) (cD 1))] [[], [0]] false) (.cond (.tmp 4) (.seq (.region [opD 2 (.mov (cD 0))] [[]] false) .ret) .skip)) (.seq (.region [mvD 5 0, opD 6 (.bin .quo (tD 5) (cD 2)), opD 7 (.bin .add (tD 6) (cD 1)), mvD 2 7] [[], [0], [1], [2, 0, 1, 2]] false) .ret)))
set_option maxRecDepth 1000000 in
theorem v14 (fu : Nat) : evF fu (d14 fu) rs14 8 (e14 fu).ash (e14 fu).osh (e14 fu).vsh = p14 fu := by kernel_rfl
set_option maxRecDepth 1000000 in
theorem b14 (fu : Nat) : BodyD Try.prog 14 8 (d14 fu).erase rs14 := bodyD_mk Try.func14 (by kernel_rfl) (by kernel_rfl) (by kernel_rfl) (by kernel_rfl)
theorem g14 (fu : Nat) : (e14 fu).Good Try.prog := good_by orders (b14 fu) (l := []) (by kernel_rfl) trivial (by kernel_rfl) (v14 fu)
def rs27 : List RVx := [(.tmp 4)]
/-- gazette/gazetteref07.has -/
def p27 (fu : Nat) : (List (Int)) × ((Int) × (Unit)) → Option ((Unit) × (Bool)) := fun ⟨a, c, _⟩ =>
loopO (S := ((Int) × (Unit)) × (Unit)) fu (fun ⟨⟨f, _⟩, _⟩ =>
 bif decide (f < (List.length a : Int)) then
 bif decide ((0 : Int) ≤ f ∧ f < (List.length a : Int)) then
 bif decide (Int.toNat f < List.length a) then
 bif ((List.getD a (Int.toNat f) (dflt (.int .i64))) == c) then
 inrO (some ((), true))
 else
 some (.inl ((IntKind.wrap .i64 (f + (1 : Int)), ()), ()))
 else none
 else none
 else
 inrO (some ((), false)))
 (((0 : Int), ()), ())
def e27 (fu : Nat) : Ent := ⟨27, (.cons (.hole (.sl (.int .i64))) (.cons (.hole (.int .i64)) .nil)), .nil, (.hole .bool), p27 fu⟩
def d27 (_ : Nat) : DC := (.seq (.region [opD 4 (.mov (.const vB))] [[]] false) (.seq (.seq (.region [opD 5 (.mov (cD 0))] [[]] false) (.block 0 (.loop ⟨[5], (.cons (.hole (.int .i64)) .nil), [], .nil, [0, 1], []⟩
 (.seq (.seq (.region [mvD 6 5, mvD 7 0, opD 8 (.len false (tD 7)), opD 9 (.bin .lss (tD 6) (tD 8))] [[], [], [1], [0, 2]] false) (.cond (.tmp 9) .skip (.exit 0))) (.seq (.block 1 (.seq (.region [mvD 12 0, mvD 13 5, opD 14 (.iaddr 1 (tD 12) (tD 13)), opD 15 (.load false 1 (tD 14)), mvD 16 1, opD 17 (.bin .eql (tD 15) (tD 16))] [[], [], [0, 1], [2], [], [3, 4]] false) (.cond (.tmp 17) (.seq (.region [opD 4 (.mov (.const (.bool true)))] [[]] false) .ret) .skip))) (.region [mvD 10 5, opD 11 (.bin .add (tD 10) (cD 1)), mvD 5 11] [[], [0], [1, 0, 1]] false)))))) (.seq (.region [opD 4 (.mov (.const vB))] [[]] false) .ret)))
set_option maxRecDepth 1000000 in
theorem v27 (fu : Nat) : evF fu (d27 fu) rs27 18 (e27 fu).ash (e27 fu).osh (e27 fu).vsh = p27 fu := by kernel_rfl
set_option maxRecDepth 1000000 in
theorem b27 (fu : Nat) : BodyD Try.prog 27 18 (d27 fu).erase rs27 := bodyD_mk Try.func27 (by kernel_rfl) (by kernel_rfl) (by kernel_rfl) (by kernel_rfl)
theorem g27 (fu : Nat) : (e27 fu).Good Try.prog := good_by orders (b27 fu) (l := []) (by kernel_rfl) trivial (by kernel_rfl) (v27 fu)
def rs26 : List RVx := [(.tmp 2)]
/-- gazette/gazetteref07.once -/
def p26 (fu : Nat) : (List (Int)) × (Unit) → Option ((Unit) × (List (Int))) := fun ⟨a, _⟩ =>
loopO (S := ((List (Int)) × ((Int) × (Unit))) × (Unit)) fu (fun ⟨⟨c, f, _⟩, _⟩ =>
 bif decide (f < (List.length a : Int)) then
 bif decide ((0 : Int) ≤ f ∧ f < (List.length a : Int)) then
 bif decide (Int.toNat f < List.length a) then
 bif decide (List.length c = List.length c) then
 Option.bind (p27 fu (c, (List.getD a (Int.toNat f) (dflt (.int .i64))), ())) fun ⟨_, h⟩ =>
 bif !h then
 bif decide ((0 : Int) ≤ f ∧ f < (List.length a : Int)) then
 bif decide (Int.toNat f < List.length a) then
 bif decide (List.length c = List.length c) then
 bif decide (List.length c + List.length ([(List.getD a (Int.toNat f) (dflt (.int .i64)))]) ≤ maxLen ∧ (List.length c + List.length ([(List.getD a (Int.toNat f) (dflt (.int .i64)))])) * 8 ≤ 140737488355328) then
 bif decide (List.length (c ++ [(List.getD a (Int.toNat f) (dflt (.int .i64)))]) = List.length (c ++ [(List.getD a (Int.toNat f) (dflt (.int .i64)))])) then
 some (.inl (((c ++ [(List.getD a (Int.toNat f) (dflt (.int .i64)))]), IntKind.wrap .i64 (f + (1 : Int)), ()), ()))
 else none
 else none
 else none
 else none
 else none
 else
 bif decide (List.length c = List.length c) then
 some (.inl ((c, IntKind.wrap .i64 (f + (1 : Int)), ()), ()))
 else none
 else none
 else none
 else none
 else
 inrO (bif decide (List.length c = List.length c) then
 some ((), c)
 else none))
 (([], (0 : Int), ()), ())
def e26 (fu : Nat) : Ent := ⟨26, (.cons (.hole (.sl (.int .i64))) .nil), .nil, (.own .own 3 (.int .i64)), p26 fu⟩
def d26 (fu : Nat) : DC := (.seq (.region [opD 2 (.mov (.const vS))] [[]] false) (.seq (.region [opD 3 (.mov (.const vS))] [[]] false) (.seq (.seq (.region [opD 4 (.mov (cD 0))] [[]] false) (.block 0 (.loop ⟨[3, 4], (.cons (.own .own 3 (.int .i64)) (.cons (.hole (.int .i64)) .nil)), [], .nil, [0], []⟩
 (.seq (.seq (.region [mvD 6 4, mvD 7 0, opD 8 (.len false (tD 7)), opD 9 (.bin .lss (tD 6) (tD 8))] [[], [], [1], [0, 2]] false) (.cond (.tmp 9) .skip (.exit 0))) (.seq (.block 1 (.seq (.region [mvD 12 3, mvD 13 0, mvD 14 4, opD 15 (.iaddr 1 (tD 13) (tD 14)), opD 16 (.load false 1 (tD 15)), oqD 17 (.call 27 [(tD 12), (tD 16)]) (.ent (e27 fu)), mvD 5 17] [[], [], [], [1, 2], [3], [0, 4], [5, 5, 0, 1, 2, 3, 4, 5]] false) (.seq (.region [mvD 18 5, opD 19 (.not (tD 18))] [[], [0]] false) (.cond (.tmp 19) (.region [mvD 20 3, mvD 21 0, mvD 22 4, opD 23 (.iaddr 1 (tD 21) (tD 22)), opD 24 (.load false 1 (tD 23)), oqD 25 (.bslice 3 1 1 [vI] [(0, (tD 24))]) (.ty (.int .i64)), oqD 26 (.app 3 1 [vI] 8 (tD 20) (tD 25)) (.ty (.int .i64)), mvD 3 26] [[], [], [], [1, 2], [3], [4], [0, 5], [6, 6, 0, 1, 2, 3, 4, 5, 6]] false) .skip)))) (.region [mvD 10 4, opD 11 (.bin .add (tD 10) (cD 1)), mvD 4 11] [[], [0], [1, 0, 1]] false)))))) (.seq (.region [mvD 27 3, mvD 2 27] [[], [0, 0]] false) .ret))))
set_option maxRecDepth 1000000 in
theorem v26 (fu : Nat) : evF fu (d26 fu) rs26 28 (e26 fu).ash (e26 fu).osh (e26 fu).vsh = p26 fu := by kernel_rfl
set_option maxRecDepth 1000000 in
theorem b26 (fu : Nat) : BodyD Try.prog 26 28 (d26 fu).erase rs26 := bodyD_mk Try.func26 (by kernel_rfl) (by kernel_rfl) (by kernel_rfl) (by kernel_rfl)
theorem g26 (fu : Nat) : (e26 fu).Good Try.prog := good_by orders (b26 fu) (l := [e27 fu]) (by kernel_rfl) ⟨g27 fu, trivial⟩ (by kernel_rfl) (v26 fu)
def rs15 : List RVx := [(.tmp 4)]
/-- gazette/gazetteref07.Has -/
def p15 (fu : Nat) : (List (Int)) × ((List (Int)) × (Unit)) → Option ((Unit) × (Bool)) := fun ⟨a, c, _⟩ =>
Option.bind (p26 fu (a, ())) fun ⟨_, f⟩ =>
loopO (S := ((Int) × ((Int) × (Unit))) × (Unit)) fu (fun ⟨⟨h, i, _⟩, _⟩ =>
 bif decide (i < ((List.length f) : Int)) then
 bif decide ((0 : Int) ≤ i ∧ i < (List.length f : Int)) then
 bif decide (Int.toNat i < List.length f) then
 Option.bind (p27 fu (c, (List.getD f (Int.toNat i) (dflt (.int .i64))), ())) fun ⟨_, j⟩ =>
 bif j then
 some (.inl ((IntKind.wrap .i64 (h + (1 : Int)), IntKind.wrap .i64 (i + (1 : Int)), ()), ()))
 else
 some (.inl ((h, IntKind.wrap .i64 (i + (1 : Int)), ()), ()))
 else none
 else none
 else
 inrO (bif decide (((List.length f) : Int) > (0 : Int)) then
 Option.bind (p14 fu (((List.length f) : Int), ())) fun ⟨_, k⟩ =>
 some ((), decide (h ≥ k))
 else
 some ((), false)))
 (((0 : Int), (0 : Int), ()), ())
def e15 (fu : Nat) : Ent := ⟨15, (.cons (.hole (.sl (.int .i64))) (.cons (.hole (.sl (.int .i64))) .nil)), .nil, (.hole .bool), p15 fu⟩
def d15 (fu : Nat) : DC := (.seq (.region [opD 4 (.mov (.const vB))] [[]] false) (.seq (.region [mvD 9 0, oqD 10 (.call 26 [(tD 9)]) (.ent (e26 fu)), mvD 5 10] [[], [0], [1, 1, 0, 1]] false) (.seq (.region [opD 6 (.mov (cD 0))] [[]] false) (.seq (.seq (.region [opD 7 (.mov (cD 0))] [[]] false) (.block 0 (.loop ⟨[6, 7], (.cons (.hole (.int .i64)) (.cons (.hole (.int .i64)) .nil)), [], .nil, [1, 5], [32]⟩
 (.seq (.seq (.region [mvD 11 7, mvD 12 5, opD 13 (.len false (tD 12)), opD 14 (.bin .lss (tD 11) (tD 13))] [[], [], [1], [0, 2]] false) (.cond (.tmp 14) .skip (.exit 0))) (.seq (.block 1 (.seq (.region [mvD 17 1, mvD 18 5, mvD 19 7, opD 20 (.iaddr 1 (tD 18) (tD 19)), opD 21 (.load false 1 (tD 20)), oqD 22 (.call 27 [(tD 17), (tD 21)]) (.ent (e27 fu)), mvD 8 22] [[], [], [], [1, 2], [3], [0, 4], [5, 5, 0, 1, 2, 3, 4, 5]] false) (.seq (.region [mvD 23 8] [[]] false) (.cond (.tmp 23) (.region [mvD 24 6, opD 25 (.bin .add (tD 24) (cD 1)), mvD 6 25] [[], [0], [1, 0, 1]] false) .skip)))) (.region [mvD 15 7, opD 16 (.bin .add (tD 15) (cD 1)), mvD 7 16] [[], [0], [1, 0, 1]] false)))))) (.seq (.region [mvD 26 5, opD 27 (.len false (tD 26)), opD 28 (.bin .gtr (tD 27) (cD 0)), mvD 29 28, ogD 30 29 true (.mov (tD 6)), ogD 31 29 true (.mov (tD 5)), ogD 32 29 true (.len false (tD 31)), (⟨(some 33), (some (29, true)), (.call 14 [(tD 32)])⟩, (.ent (e14 fu))), ogD 34 29 true (.bin .geq (tD 30) (tD 33)), opD 35 (.pick (tD 29) (tD 34) (.const vB)), mvD 4 35] [[], [0], [1], [2], [3], [3], [5, 3], [6, 3, 3], [4, 7, 3], [3, 8], [9, 7, 0, 1, 2, 3, 4, 5, 6, 7, 8, 9]] false) .ret)))))
set_option maxRecDepth 1000000 in
theorem v15 (fu : Nat) : evF fu (d15 fu) rs15 36 (e15 fu).ash (e15 fu).osh (e15 fu).vsh = p15 fu := by kernel_rfl
set_option maxRecDepth 1000000 in
theorem b15 (fu : Nat) : BodyD Try.prog 15 36 (d15 fu).erase rs15 := bodyD_mk Try.func15 (by kernel_rfl) (by kernel_rfl) (by kernel_rfl) (by kernel_rfl)
theorem g15 (fu : Nat) : (e15 fu).Good Try.prog := good_by orders (b15 fu) (l := [e26 fu, e27 fu, e14 fu]) (by kernel_rfl) ⟨g26 fu, g27 fu, g14 fu, trivial⟩ (by kernel_rfl) (v15 fu)
def rs16 : List RVx := [(.tmp 4)]
/-- gazette/gazetteref07.Tally -/
def p16 (fu : Nat) : (List (Int)) × ((List (D_api_Ballot)) × (Unit)) → Option ((Unit) × (Int)) := fun ⟨a, c, _⟩ =>
Option.bind (p26 fu (a, ())) fun ⟨_, f⟩ =>
loopO (S := ((Int) × ((Int) × ((Int) × (Unit)))) × (Unit)) fu (fun ⟨⟨h, i, j, _⟩, _⟩ =>
 bif decide (j < ((List.length f) : Int)) then
 loopO (S := ((Int) × ((Int) × ((Int) × (Unit)))) × (Unit)) fu (fun ⟨⟨h, i, k, _⟩, _⟩ =>
 bif decide (k < (List.length c : Int)) then
 bif decide ((0 : Int) ≤ k ∧ k < (List.length c : Int)) then
 bif decide (Int.toNat k < List.length c) then
 bif decide ((0 : Int) ≤ j ∧ j < (List.length f : Int)) then
 bif decide (Int.toNat j < List.length f) then
 bif (((List.getD c (Int.toNat k) (dflt T_api_Ballot)).1) != (List.getD f (Int.toNat j) (dflt (.int .i64)))) then
 some (.inl ((h, i, IntKind.wrap .i64 (k + (1 : Int)), ()), ()))
 else
 bif decide ((0 : Int) ≤ k ∧ k < (List.length c : Int)) then
 bif decide (Int.toNat k < List.length c) then
 bif (List.getD c (Int.toNat k) (dflt T_api_Ballot)).2 then
 inrO (some (.inl ((IntKind.wrap .i64 (h + (1 : Int)), i, IntKind.wrap .i64 (j + (1 : Int)), ()), ())))
 else
 inrO (some (.inl ((h, IntKind.wrap .i64 (i + (1 : Int)), IntKind.wrap .i64 (j + (1 : Int)), ()), ())))
 else none
 else none
 else none
 else none
 else none
 else none
 else
 inrO (some (.inl ((h, i, IntKind.wrap .i64 (j + (1 : Int)), ()), ()))))
 ((h, i, (0 : Int), ()), ())
 else
 inrO (bif (((List.length f) : Int) == (0 : Int)) then
 some ((), (0 : Int))
 else
 Option.bind (p14 fu (((List.length f) : Int), ())) fun ⟨_, l⟩ =>
 bif decide (h ≥ l) then
 some ((), (1 : Int))
 else
 Option.bind (p14 fu (((List.length f) : Int), ())) fun ⟨_, m⟩ =>
 bif decide ((IntKind.wrap .i64 (((List.length f) : Int) - i)) < m) then
 some ((), ((-1) : Int))
 else
 some ((), (0 : Int))))
 (((0 : Int), (0 : Int), (0 : Int), ()), ())
def e16 (fu : Nat) : Ent := ⟨16, (.cons (.hole (.sl (.int .i64))) (.cons (.hole (.sl T_api_Ballot)) .nil)), .nil, (.hole (.int .i64)), p16 fu⟩
def d16 (fu : Nat) : DC := (.seq (.region [opD 4 (.mov (cD 0))] [[]] false) (.seq (.region [mvD 10 0, oqD 11 (.call 26 [(tD 10)]) (.ent (e26 fu)), mvD 5 11] [[], [0], [1, 1, 0, 1]] false) (.seq (.region [opD 6 (.mov (cD 0))] [[]] false) (.seq (.region [opD 7 (.mov (cD 0))] [[]] false) (.seq (.seq (.region [opD 8 (.mov (cD 0))] [[]] false) (.block 0 (.loop ⟨[6, 7, 8], (.cons (.hole (.int .i64)) (.cons (.hole (.int .i64)) (.cons (.hole (.int .i64)) .nil))), [], .nil, [1, 5], [32]⟩
 (.seq (.seq (.region [mvD 12 8, mvD 13 5, opD 14 (.len false (tD 13)), opD 15 (.bin .lss (tD 12) (tD 14))] [[], [], [1], [0, 2]] false) (.cond (.tmp 15) .skip (.exit 0))) (.seq (.block 1 (.seq (.region [opD 9 (.mov (cD 0))] [[]] false) (.block 2 (.loop ⟨[6, 7, 9], (.cons (.hole (.int .i64)) (.cons (.hole (.int .i64)) (.cons (.hole (.int .i64)) .nil))), [], .nil, [1, 5, 8], [32]⟩
 (.seq (.seq (.region [mvD 18 9, mvD 19 1, opD 20 (.len false (tD 19)), opD 21 (.bin .lss (tD 18) (tD 20))] [[], [], [1], [0, 2]] false) (.cond (.tmp 21) .skip (.exit 2))) (.seq (.block 3 (.seq (.seq (.region [mvD 24 1, mvD 25 9, opD 26 (.iaddr 2 (tD 24) (tD 25)), opD 27 (.faddr 0 (tD 26)), opD 28 (.load false 1 (tD 27)), mvD 29 5, mvD 30 8, opD 31 (.iaddr 1 (tD 29) (tD 30)), opD 32 (.load false 1 (tD 31)), opD 33 (.bin .neq (tD 28) (tD 32))] [[], [], [0, 1], [2], [3], [], [], [5, 6], [7], [4, 8]] true) (.cond (.tmp 33) (.exit 3) .skip)) (.seq (.seq (.region [mvD 34 1, mvD 35 9, opD 36 (.iaddr 2 (tD 34) (tD 35)), opD 37 (.faddr 1 (tD 36)), opD 38 (.load false 1 (tD 37))] [[], [], [0, 1], [2], [3]] false) (.cond (.tmp 38) (.region [mvD 39 6, opD 40 (.bin .add (tD 39) (cD 1)), mvD 6 40] [[], [0], [1, 0, 1]] false) (.region [mvD 41 7, opD 42 (.bin .add (tD 41) (cD 1)), mvD 7 42] [[], [0], [1, 0, 1]] false))) (.exit 2)))) (.region [mvD 22 9, opD 23 (.bin .add (tD 22) (cD 1)), mvD 9 23] [[], [0], [1, 0, 1]] false))))))) (.region [mvD 16 8, opD 17 (.bin .add (tD 16) (cD 1)), mvD 8 17] [[], [0], [1, 0, 1]] false)))))) (.seq (.block 4 (.seq (.region [mvD 44 5, opD 45 (.len false (tD 44)), opD 46 (.bin .eql (tD 45) (cD 0)), mvD 43 46] [[], [0], [1], [2]] false) (.cond (.tmp 43) (.seq (.region [opD 4 (.mov (cD 0))] [[]] false) .ret) (.seq (.region [mvD 48 6, mvD 49 5, opD 50 (.len false (tD 49)), oqD 51 (.call 14 [(tD 50)]) (.ent (e14 fu)), opD 52 (.bin .geq (tD 48) (tD 51)), mvD 47 52] [[], [], [1], [2], [0, 3], [4, 3]] false) (.cond (.tmp 47) (.seq (.region [opD 4 (.mov (cD 1))] [[]] false) .ret) (.seq (.region [mvD 54 5, opD 55 (.len false (tD 54)), mvD 56 7, opD 57 (.bin .sub (tD 55) (tD 56)), mvD 58 5, opD 59 (.len false (tD 58)), oqD 60 (.call 14 [(tD 59)]) (.ent (e14 fu)), opD 61 (.bin .lss (tD 57) (tD 60)), mvD 53 61] [[], [0], [], [1, 2], [], [4], [5], [3, 6], [7, 6]] false) (.cond (.tmp 53) (.seq (.region [opD 4 (.mov (.const (.int .i64 (-1))))] [[]] false) .ret) .skip))))))) (.seq (.region [opD 4 (.mov (cD 0))] [[]] false) .ret)))))))
set_option maxRecDepth 1000000 in
theorem v16 (fu : Nat) : evF fu (d16 fu) rs16 62 (e16 fu).ash (e16 fu).osh (e16 fu).vsh = p16 fu := by kernel_rfl
set_option maxRecDepth 1000000 in
theorem b16 (fu : Nat) : BodyD Try.prog 16 62 (d16 fu).erase rs16 := bodyD_mk Try.func16 (by kernel_rfl) (by kernel_rfl) (by kernel_rfl) (by kernel_rfl)
theorem g16 (fu : Nat) : (e16 fu).Good Try.prog := good_by orders (b16 fu) (l := [e26 fu, e14 fu, e14 fu]) (by kernel_rfl) ⟨g26 fu, g14 fu, g14 fu, trivial⟩ (by kernel_rfl) (v16 fu)
def rs3 : List RVx := [(.tmp 6)]
/-- gazette/gazettelaw07.QuorumTells -/
def p3 (fu : Nat) : (List (Int)) × ((List (Int)) × ((List (D_api_Ballot)) × (Unit))) → Option ((Unit) × (Bool)) := fun ⟨a, c, f, _⟩ =>
Option.bind (p10 fu ()) fun ⟨_, h⟩ =>
bif decide (0 = List.length ([] : List (Int))) then
 bif decide (List.length ([] : List (Int)) + List.length a ≤ maxLen ∧ (List.length ([] : List (Int)) + List.length a) * 8 ≤ 140737488355328) then
 bif decide (List.length (([] : List (Int)) ++ a) = List.length (([] : List (Int)) ++ a)) then
 bif decide (List.length (([] : List (Int)) ++ a) + List.length ([(77 : Int)]) ≤ maxLen ∧ (List.length (([] : List (Int)) ++ a) + List.length ([(77 : Int)])) * 8 ≤ 140737488355328) then
 bif decide ((0 : Int) ≤ (List.length a : Int)) then
 bif decide (0 ≤ Int.toNat (List.length a : Int) ∧ 0 + (Int.toNat (List.length a : Int)) ≤ List.length ((([] : List (Int)) ++ a) ++ [(77 : Int)])) then
 bif decide (0 + (Int.toNat (List.length a : Int)) ≤ List.length ((([] : List (Int)) ++ a) ++ [(77 : Int)])) then
 Option.bind (p11 fu (List.take (Int.toNat (List.length a : Int)) ((([] : List (Int)) ++ a) ++ [(77 : Int)]), c, ())) fun ⟨_, i⟩ =>
 bif decide (0 + (Int.toNat (List.length a : Int)) ≤ List.length ((([] : List (Int)) ++ a) ++ [(77 : Int)])) then
 Option.bind (p12 fu (List.take (Int.toNat (List.length a : Int)) ((([] : List (Int)) ++ a) ++ [(77 : Int)]), f, ())) fun ⟨_, j⟩ =>
 Option.bind (p13 fu ((List.length a : Int), ())) fun ⟨_, k⟩ =>
 Option.bind (p14 fu ((List.length a : Int), ())) fun ⟨_, l⟩ =>
 loopO (S := ((Int) × (Unit)) × (Unit)) fu (fun ⟨⟨m, _⟩, _⟩ =>
 bif decide (m < (List.length a : Int)) then
 bif decide ((0 : Int) ≤ m ∧ m < (Int.toNat (List.length a : Int) : Int)) then
 bif decide (Int.toNat m < List.length ((([] : List (Int)) ++ a) ++ [(77 : Int)])) then
 bif decide ((0 : Int) ≤ m ∧ m < (List.length a : Int)) then
 bif decide (Int.toNat m < List.length a) then
 bif ((List.getD ((([] : List (Int)) ++ a) ++ [(77 : Int)]) (Int.toNat m) (dflt (.int .i64))) != (List.getD a (Int.toNat m) (dflt (.int .i64)))) then
 inrO (some ((), false))
 else
 some (.inl ((IntKind.wrap .i64 (m + (1 : Int)), ()), ()))
 else none
 else none
 else none
 else none
 else
 inrO (bif h then
 bif (k == l) then
 Option.bind (p15 fu (a, c, ())) fun ⟨_, n⟩ =>
 bif i == n then
 Option.bind (p16 fu (a, f, ())) fun ⟨_, o⟩ =>
 bif (j == o) then
 bif decide ((0 : Int) ≤ IntKind.wrap .i64 ((List.length a : Int) + (1 : Int))) then
 bif decide (0 ≤ Int.toNat (IntKind.wrap .i64 ((List.length a : Int) + (1 : Int))) ∧ 0 + (Int.toNat (IntKind.wrap .i64 ((List.length a : Int) + (1 : Int)))) ≤ List.length ((([] : List (Int)) ++ a) ++ [(77 : Int)])) then
 bif decide ((0 : Int) ≤ (List.length a : Int) ∧ (List.length a : Int) < (Int.toNat (IntKind.wrap .i64 ((List.length a : Int) + (1 : Int))) : Int)) then
 bif decide (Int.toNat (List.length a : Int) < List.length ((([] : List (Int)) ++ a) ++ [(77 : Int)])) then
 some ((), ((List.getD ((([] : List (Int)) ++ a) ++ [(77 : Int)]) (Int.toNat (List.length a : Int)) (dflt (.int .i64))) == (77 : Int)))
 else none
 else none
 else none
 else none
 else
 some ((), false)
 else
 some ((), false)
 else
 some ((), false)
 else
 some ((), false)))
 (((0 : Int), ()), ())
 else none
 else none
 else none
 else none
 else none
 else none
 else none
else none
def e3 (fu : Nat) : Ent := ⟨3, (.cons (.hole (.sl (.int .i64))) (.cons (.hole (.sl (.int .i64))) (.cons (.hole (.sl T_api_Ballot)) .nil))), .nil, (.hole .bool), p3 fu⟩
def d3 (fu : Nat) : DC := (.seq (.region [opD 6 (.mov (.const vB))] [[]] false) (.seq (.region [oqD 13 (.call 10 []) (.ent (e10 fu)), mvD 7 13] [[], [0, 0, 0]] false) (.seq (.region [oqD 14 (.bslice 3 1 0 [vI] []) (.ty (.int .i64)), mvD 15 0, oqD 16 (.app 3 1 [vI] 8 (tD 14) (tD 15)) (.ty (.int .i64)), oqD 17 (.bslice 3 1 1 [vI] [(0, (cD 77))]) (.ty (.int .i64)), oqD 18 (.app 3 1 [vI] 8 (tD 16) (tD 17)) (.ty (.int .i64)), mvD 19 0, opD 20 (.len false (tD 19)), opD 21 (.slc 1 (tD 18) none (some (tD 20))), mvD 8 21] [[], [], [0, 1], [], [2, 3, 2], [], [5], [4, 6], [7, 4, 0, 1, 2, 3, 4, 5, 6, 7]] false) (.seq (.region [mvD 22 8, mvD 23 1, oqD 24 (.call 11 [(tD 22), (tD 23)]) (.ent (e11 fu)), mvD 9 24] [[], [], [0, 1], [2, 2, 0, 1, 2]] false) (.seq (.region [mvD 25 8, mvD 26 2, oqD 27 (.call 12 [(tD 25), (tD 26)]) (.ent (e12 fu)), mvD 10 27] [[], [], [0, 1], [2, 2, 0, 1, 2]] false) (.seq (.region [mvD 28 0, opD 29 (.len false (tD 28)), oqD 30 (.call 13 [(tD 29)]) (.ent (e13 fu)), mvD 31 0, opD 32 (.len false (tD 31)), oqD 33 (.call 14 [(tD 32)]) (.ent (e14 fu)), opD 34 (.bin .eql (tD 30) (tD 33)), mvD 11 34] [[], [0], [1], [], [3], [4, 2], [2, 5], [6, 5, 0, 1, 2, 3, 4, 5, 6]] false) (.seq (.seq (.region [opD 12 (.mov (cD 0))] [[]] false) (.block 0 (.loop ⟨[12], (.cons (.hole (.int .i64)) .nil), [], .nil, [0, 1, 2, 7, 8, 9, 10, 11], [48]⟩
 (.seq (.seq (.region [mvD 35 12, mvD 36 0, opD 37 (.len false (tD 36)), opD 38 (.bin .lss (tD 35) (tD 37))] [[], [], [1], [0, 2]] false) (.cond (.tmp 38) .skip (.exit 0))) (.seq (.block 1 (.seq (.region [mvD 41 8, mvD 42 12, opD 43 (.iaddr 1 (tD 41) (tD 42)), opD 44 (.load false 1 (tD 43)), mvD 45 0, mvD 46 12, opD 47 (.iaddr 1 (tD 45) (tD 46)), opD 48 (.load false 1 (tD 47)), opD 49 (.bin .neq (tD 44) (tD 48))] [[], [], [0, 1], [2], [], [], [4, 5], [6], [3, 7]] true) (.cond (.tmp 49) (.seq (.region [opD 6 (.mov (.const vB))] [[]] false) .ret) .skip))) (.region [mvD 39 12, opD 40 (.bin .add (tD 39) (cD 1)), mvD 12 40] [[], [0], [1, 0, 1]] false)))))) (.seq (.region [mvD 50 7, mvD 51 50, ogD 52 51 true (.mov (tD 11)), opD 53 (.pick (tD 51) (tD 52) (.const vB)), mvD 54 53, ogD 55 54 true (.mov (tD 9)), ogD 56 54 true (.mov (tD 0)), ogD 57 54 true (.mov (tD 1)), (⟨(some 58), (some (54, true)), (.call 15 [(tD 56), (tD 57)])⟩, (.ent (e15 fu))), ogD 59 54 true (.beq false (tD 55) (tD 58)), opD 60 (.pick (tD 54) (tD 59) (.const vB)), mvD 61 60, ogD 62 61 true (.mov (tD 10)), ogD 63 61 true (.mov (tD 0)), ogD 64 61 true (.mov (tD 2)), (⟨(some 65), (some (61, true)), (.call 16 [(tD 63), (tD 64)])⟩, (.ent (e16 fu))), ogD 66 61 true (.bin .eql (tD 62) (tD 65)), opD 67 (.pick (tD 61) (tD 66) (.const vB)), mvD 68 67, ogD 69 68 true (.mov (tD 8)), ogD 70 68 true (.mov (tD 0)), ogD 71 68 true (.len false (tD 70)), ogD 72 68 true (.bin .add (tD 71) (cD 1)), ogD 73 68 true (.slc 1 (tD 69) none (some (tD 72))), ogD 74 68 true (.mov (tD 0)), ogD 75 68 true (.len false (tD 74)), ogD 76 68 true (.iaddr 1 (tD 73) (tD 75)), ogD 77 68 true (.load false 1 (tD 76)), ogD 78 68 true (.bin .eql (tD 77) (cD 77)), opD 79 (.pick (tD 68) (tD 78) (.const vB)), mvD 6 79] [[], [0], [1], [1, 2], [3, 1], [4], [4], [4], [6, 7, 4, 4], [5, 8, 4], [4, 9], [10, 8], [11], [11], [11], [13, 14, 11, 11], [12, 15, 11], [11, 16], [17, 15], [18], [18], [20, 18], [21, 18], [19, 22, 18], [18], [24, 18], [23, 25, 18], [26, 18], [27, 18], [18, 28], [29, 18, 0, 1, 2, 3, 4, 5, 6, 7, 8, 9, 10, 11, 12, 13, 14, 15, 16, 17, 18, 19, 20, 21, 22, 23, 24, 25, 26, 27, 28, 29]] false) .ret))))))))
set_option maxRecDepth 1000000 in
theorem v3 (fu : Nat) : evF fu (d3 fu) rs3 80 (e3 fu).ash (e3 fu).osh (e3 fu).vsh = p3 fu := by kernel_rfl
set_option maxRecDepth 1000000 in
theorem b3 (fu : Nat) : BodyD Try.prog 3 80 (d3 fu).erase rs3 := bodyD_mk Try.func3 (by kernel_rfl) (by kernel_rfl) (by kernel_rfl) (by kernel_rfl)
theorem g3 (fu : Nat) : (e3 fu).Good Try.prog := good_by orders (b3 fu) (l := [e10 fu, e11 fu, e12 fu, e13 fu, e14 fu, e15 fu, e16 fu]) (by kernel_rfl) ⟨g10 fu, g11 fu, g12 fu, g13 fu, g14 fu, g15 fu, g16 fu, trivial⟩ (by kernel_rfl) (v3 fu)
def rs4 : List RVx := [(.tmp 2)]
/-- gazette/gazettelaw07.QuorumMost -/
def p4 (fu : Nat) : (Int) × (Unit) → Option ((Unit) × (Bool)) := fun ⟨a, _⟩ =>
Option.bind (p10 fu ()) fun ⟨_, c⟩ =>
bif c then
 Option.bind (p13 fu (a, ())) fun ⟨_, f⟩ =>
 Option.bind (p14 fu (a, ())) fun ⟨_, h⟩ =>
 some ((), (f == h))
else
 some ((), false)
def e4 (fu : Nat) : Ent := ⟨4, (.cons (.hole (.int .i64)) .nil), .nil, (.hole .bool), p4 fu⟩
def d4 (fu : Nat) : DC := (.seq (.region [opD 2 (.mov (.const vB))] [[]] false) (.seq (.region [oqD 4 (.call 10 []) (.ent (e10 fu)), mvD 3 4] [[], [0, 0, 0]] false) (.seq (.region [mvD 5 3, mvD 6 5, ogD 7 6 true (.mov (tD 0)), (⟨(some 8), (some (6, true)), (.call 13 [(tD 7)])⟩, (.ent (e13 fu))), ogD 9 6 true (.mov (tD 0)), (⟨(some 10), (some (6, true)), (.call 14 [(tD 9)])⟩, (.ent (e14 fu))), ogD 11 6 true (.bin .eql (tD 8) (tD 10)), opD 12 (.pick (tD 6) (tD 11) (.const vB)), mvD 2 12] [[], [0], [1], [2, 1, 1], [1], [4, 3, 1], [3, 5, 1], [1, 6], [7, 5, 0, 1, 2, 3, 4, 5, 6, 7]] false) .ret)))
set_option maxRecDepth 1000000 in
theorem v4 (fu : Nat) : evF fu (d4 fu) rs4 13 (e4 fu).ash (e4 fu).osh (e4 fu).vsh = p4 fu := by kernel_rfl
set_option maxRecDepth 1000000 in
theorem b4 (fu : Nat) : BodyD Try.prog 4 13 (d4 fu).erase rs4 := bodyD_mk Try.func4 (by kernel_rfl) (by kernel_rfl) (by kernel_rfl) (by kernel_rfl)
theorem g4 (fu : Nat) : (e4 fu).Good Try.prog := good_by orders (b4 fu) (l := [e10 fu, e13 fu, e14 fu]) (by kernel_rfl) ⟨g10 fu, g13 fu, g14 fu, trivial⟩ (by kernel_rfl) (v4 fu)
def rs6 : List RVx := [(.tmp 8)]
/-- gazette/gazettelaw07.QuorumMeets -/
def p6 (fu : Nat) : (List (Int)) × ((Int) × ((List (Int)) × ((List (Int)) × (Unit)))) → Option ((Unit) × (Bool)) := fun ⟨a, c, f, h, _⟩ =>
Option.bind (p10 fu ()) fun ⟨_, i⟩ =>
Option.bind (p11 fu (a, f, ())) fun ⟨_, j⟩ =>
Option.bind (p11 fu (a, h, ())) fun ⟨_, k⟩ =>
bif decide (0 = List.length ([] : List (Int))) then
 bif decide (List.length ([] : List (Int)) + List.length a ≤ maxLen ∧ (List.length ([] : List (Int)) + List.length a) * 8 ≤ 140737488355328) then
 bif decide (List.length (([] : List (Int)) ++ a) = List.length (([] : List (Int)) ++ a)) then
 bif decide (List.length (([] : List (Int)) ++ a) + List.length ([c]) ≤ maxLen ∧ (List.length (([] : List (Int)) ++ a) + List.length ([c])) * 8 ≤ 140737488355328) then
 bif decide (List.length ((([] : List (Int)) ++ a) ++ [c]) = List.length ((([] : List (Int)) ++ a) ++ [c])) then
 Option.bind (p11 fu (((([] : List (Int)) ++ a) ++ [c]), h, ())) fun ⟨_, l⟩ =>
 orK (E := (Unit) × (Unit))
 (bif !i then
 inrO (some ((), i))
 else
 bif !j then
 inrO (some ((), i))
 else
 bif !k then
 bif !l then
 inrO (some ((), i))
 else
 some (.inl ((), ()))
 else
 some (.inl ((), ())))
 fun ⟨_, _⟩ =>
 loopO (S := ((Int) × (Unit)) × (Unit)) fu (fun ⟨⟨m, _⟩, _⟩ =>
 bif decide (m < (List.length f : Int)) then
 loopO (S := ((Int) × (Unit)) × (Unit)) fu (fun ⟨⟨n, _⟩, _⟩ =>
 bif decide (n < (List.length h : Int)) then
 bif decide ((0 : Int) ≤ m ∧ m < (List.length f : Int)) then
 bif decide (Int.toNat m < List.length f) then
 bif decide ((0 : Int) ≤ n ∧ n < (List.length h : Int)) then
 bif decide (Int.toNat n < List.length h) then
 bif ((List.getD f (Int.toNat m) (dflt (.int .i64))) == (List.getD h (Int.toNat n) (dflt (.int .i64)))) then
 inrO (inrO (some ((), true)))
 else
 some (.inl ((IntKind.wrap .i64 (n + (1 : Int)), ()), ()))
 else none
 else none
 else none
 else none
 else
 inrO (some (.inl ((IntKind.wrap .i64 (m + (1 : Int)), ()), ()))))
 (((0 : Int), ()), ())
 else
 inrO (some ((), false)))
 (((0 : Int), ()), ())
 else none
 else none
 else none
 else none
else none
def e6 (fu : Nat) : Ent := ⟨6, (.cons (.hole (.sl (.int .i64))) (.cons (.hole (.int .i64)) (.cons (.hole (.sl (.int .i64))) (.cons (.hole (.sl (.int .i64))) .nil)))), .nil, (.hole .bool), p6 fu⟩
def d6 (fu : Nat) : DC := (.seq (.region [opD 8 (.mov (.const vB))] [[]] false) (.seq (.region [oqD 15 (.call 10 []) (.ent (e10 fu)), mvD 9 15] [[], [0, 0, 0]] false) (.seq (.region [mvD 16 0, mvD 17 2, oqD 18 (.call 11 [(tD 16), (tD 17)]) (.ent (e11 fu)), mvD 10 18] [[], [], [0, 1], [2, 2, 0, 1, 2]] false) (.seq (.region [mvD 19 0, mvD 20 3, oqD 21 (.call 11 [(tD 19), (tD 20)]) (.ent (e11 fu)), mvD 11 21] [[], [], [0, 1], [2, 2, 0, 1, 2]] false) (.seq (.region [oqD 22 (.bslice 3 1 0 [vI] []) (.ty (.int .i64)), mvD 23 0, oqD 24 (.app 3 1 [vI] 8 (tD 22) (tD 23)) (.ty (.int .i64)), mvD 25 1, oqD 26 (.bslice 3 1 1 [vI] [(0, (tD 25))]) (.ty (.int .i64)), oqD 27 (.app 3 1 [vI] 8 (tD 24) (tD 26)) (.ty (.int .i64)), mvD 28 3, oqD 29 (.call 11 [(tD 27), (tD 28)]) (.ent (e11 fu)), mvD 12 29] [[], [], [0, 1], [], [3], [2, 4, 2], [], [5, 6, 5], [7, 7, 0, 1, 2, 3, 4, 5, 6, 7]] false) (.join ⟨[], .nil, [], .nil, [2, 3], []⟩
 (.seq (.region [mvD 30 9, opD 31 (.not (tD 30)), mvD 32 31, ogD 33 32 false (.mov (tD 10)), ogD 34 32 false (.not (tD 33)), opD 35 (.pick (tD 32) (.const (.bool true)) (tD 34)), mvD 36 35, ogD 37 36 false (.mov (tD 11)), ogD 38 36 false (.not (tD 37)), ogD 39 36 false (.mov (tD 38)), ogD 40 39 true (.mov (tD 12)), ogD 41 39 true (.not (tD 40)), ogD 42 36 false (.pick (tD 39) (tD 41) (.const vB)), opD 43 (.pick (tD 36) (.const (.bool true)) (tD 42))] [[], [0], [1], [2], [3, 2], [2, 4], [5, 2], [6], [7, 6], [8, 6, 6], [9], [10, 9], [9, 11, 6], [6, 12]] false) (.cond (.tmp 43) (.seq (.region [mvD 44 9, mvD 8 44] [[], [0, 0]] false) .ret) .skip))
 (.seq (.seq (.region [opD 13 (.mov (cD 0))] [[]] false) (.block 0 (.loop ⟨[13], (.cons (.hole (.int .i64)) .nil), [], .nil, [2, 3], []⟩
 (.seq (.seq (.region [mvD 45 13, mvD 46 2, opD 47 (.len false (tD 46)), opD 48 (.bin .lss (tD 45) (tD 47))] [[], [], [1], [0, 2]] false) (.cond (.tmp 48) .skip (.exit 0))) (.seq (.block 1 (.seq (.region [opD 14 (.mov (cD 0))] [[]] false) (.block 2 (.loop ⟨[14], (.cons (.hole (.int .i64)) .nil), [], .nil, [2, 3, 13], []⟩
 (.seq (.seq (.region [mvD 51 14, mvD 52 3, opD 53 (.len false (tD 52)), opD 54 (.bin .lss (tD 51) (tD 53))] [[], [], [1], [0, 2]] false) (.cond (.tmp 54) .skip (.exit 2))) (.seq (.block 3 (.seq (.region [mvD 57 2, mvD 58 13, opD 59 (.iaddr 1 (tD 57) (tD 58)), opD 60 (.load false 1 (tD 59)), mvD 61 3, mvD 62 14, opD 63 (.iaddr 1 (tD 61) (tD 62)), opD 64 (.load false 1 (tD 63)), opD 65 (.bin .eql (tD 60) (tD 64))] [[], [], [0, 1], [2], [], [], [4, 5], [6], [3, 7]] true) (.cond (.tmp 65) (.seq (.region [opD 8 (.mov (.const (.bool true)))] [[]] false) .ret) .skip))) (.region [mvD 55 14, opD 56 (.bin .add (tD 55) (cD 1)), mvD 14 56] [[], [0], [1, 0, 1]] false))))))) (.region [mvD 49 13, opD 50 (.bin .add (tD 49) (cD 1)), mvD 13 50] [[], [0], [1, 0, 1]] false)))))) (.seq (.region [opD 8 (.mov (.const vB))] [[]] false) .ret))))))))
set_option maxRecDepth 1000000 in
theorem v6 (fu : Nat) : evF fu (d6 fu) rs6 66 (e6 fu).ash (e6 fu).osh (e6 fu).vsh = p6 fu := by kernel_rfl
set_option maxRecDepth 1000000 in
theorem b6 (fu : Nat) : BodyD Try.prog 6 66 (d6 fu).erase rs6 := bodyD_mk Try.func6 (by kernel_rfl) (by kernel_rfl) (by kernel_rfl) (by kernel_rfl)
theorem g6 (fu : Nat) : (e6 fu).Good Try.prog := good_by orders (b6 fu) (l := [e10 fu, e11 fu, e11 fu, e11 fu]) (by kernel_rfl) ⟨g10 fu, g11 fu, g11 fu, g11 fu, trivial⟩ (by kernel_rfl) (v6 fu)
def rs7 : List RVx := [(.tmp 6)]
/-- gazette/gazettelaw07.QuorumStays -/
def p7 (fu : Nat) : (List (Int)) × ((List (D_api_Ballot)) × ((List (D_api_Ballot)) × (Unit))) → Option ((Unit) × (Bool)) := fun ⟨a, c, f, _⟩ =>
Option.bind (p10 fu ()) fun ⟨_, h⟩ =>
Option.bind (p12 fu (a, c, ())) fun ⟨_, i⟩ =>
bif decide (0 = List.length ([] : List (D_api_Ballot))) then
 bif decide (List.length ([] : List (D_api_Ballot)) + List.length c ≤ maxLen ∧ (List.length ([] : List (D_api_Ballot)) + List.length c) * 16 ≤ 140737488355328) then
 bif decide (List.length (([] : List (D_api_Ballot)) ++ c) = List.length (([] : List (D_api_Ballot)) ++ c)) then
 bif decide (List.length (([] : List (D_api_Ballot)) ++ c) + List.length f ≤ maxLen ∧ (List.length (([] : List (D_api_Ballot)) ++ c) + List.length f) * 16 ≤ 140737488355328) then
 bif h then
 bif (i == (0 : Int)) then
 some ((), true)
 else
 bif decide (List.length ((([] : List (D_api_Ballot)) ++ c) ++ f) = List.length ((([] : List (D_api_Ballot)) ++ c) ++ f)) then
 Option.bind (p12 fu (a, ((([] : List (D_api_Ballot)) ++ c) ++ f), ())) fun ⟨_, j⟩ =>
 some ((), (j == i))
 else none
 else
 some ((), false)
 else none
 else none
 else none
else none
def e7 (fu : Nat) : Ent := ⟨7, (.cons (.hole (.sl (.int .i64))) (.cons (.hole (.sl T_api_Ballot)) (.cons (.hole (.sl T_api_Ballot)) .nil))), .nil, (.hole .bool), p7 fu⟩
def d7 (fu : Nat) : DC := (.seq (.region [opD 6 (.mov (.const vB))] [[]] false) (.seq (.region [oqD 10 (.call 10 []) (.ent (e10 fu)), mvD 7 10] [[], [0, 0, 0]] false) (.seq (.region [mvD 11 0, mvD 12 1, oqD 13 (.call 12 [(tD 11), (tD 12)]) (.ent (e12 fu)), mvD 8 13] [[], [], [0, 1], [2, 2, 0, 1, 2]] false) (.seq (.region [oqD 14 (.bslice 41 2 0 [vI, vB] []) (.ty T_api_Ballot), mvD 15 1, oqD 16 (.app 41 2 [vI, vB] 16 (tD 14) (tD 15)) (.ty T_api_Ballot), mvD 17 2, oqD 18 (.app 41 2 [vI, vB] 16 (tD 16) (tD 17)) (.ty T_api_Ballot), mvD 9 18] [[], [], [0, 1], [], [2, 3, 2], [4, 4, 0, 1, 2, 3, 4]] false) (.seq (.region [mvD 19 7, mvD 20 19, ogD 21 20 true (.mov (tD 8)), ogD 22 20 true (.bin .eql (tD 21) (cD 0)), ogD 23 20 true (.mov (tD 22)), ogD 24 23 false (.mov (tD 0)), ogD 25 23 false (.mov (tD 9)), (⟨(some 26), (some (23, false)), (.call 12 [(tD 24), (tD 25)])⟩, (.ent (e12 fu))), ogD 27 23 false (.mov (tD 8)), ogD 28 23 false (.bin .eql (tD 26) (tD 27)), ogD 29 20 true (.pick (tD 23) (.const (.bool true)) (tD 28)), opD 30 (.pick (tD 20) (tD 29) (.const vB)), mvD 6 30] [[], [0], [1], [2, 1], [3, 1, 1], [4], [4], [5, 6, 4, 4], [4], [7, 8, 4], [4, 9, 1], [1, 10], [11, 7, 0, 1, 2, 3, 4, 5, 6, 7, 8, 9, 10, 11]] false) .ret)))))
set_option maxRecDepth 1000000 in
theorem v7 (fu : Nat) : evF fu (d7 fu) rs7 31 (e7 fu).ash (e7 fu).osh (e7 fu).vsh = p7 fu := by kernel_rfl
set_option maxRecDepth 1000000 in
theorem b7 (fu : Nat) : BodyD Try.prog 7 31 (d7 fu).erase rs7 := bodyD_mk Try.func7 (by kernel_rfl) (by kernel_rfl) (by kernel_rfl) (by kernel_rfl)
theorem g7 (fu : Nat) : (e7 fu).Good Try.prog := good_by orders (b7 fu) (l := [e10 fu, e12 fu, e12 fu]) (by kernel_rfl) ⟨g10 fu, g12 fu, g12 fu, trivial⟩ (by kernel_rfl) (v7 fu)
end Go.Proofs.Ytlglifgnklngfaa
