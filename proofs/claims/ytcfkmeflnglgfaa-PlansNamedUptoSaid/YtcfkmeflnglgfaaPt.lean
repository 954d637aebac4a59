/-
  The functions, typed.
-/
import Derived.Test.YtcfkmeflnglgfaaInU
import Derived.Test.YtcfkmeflnglgfaaDaL
import Derived.Test.YtcfkmeflnglgfaaRows
namespace Go.Proofs.Ytcfkmeflnglgfaa
open Go.RowKit
abbrev T_runtime_errorAddressString : Tp := (.pair .str (.int .u64))
abbrev D_runtime_errorAddressString := (ByteArray) × (Int)
abbrev T_api_Site : Tp := (.pair (.int .u64) (.int .i64))
abbrev D_api_Site := (Int) × (Int)
abbrev T_api_Change : Tp := (.pair (.int .i64) (.int .i64))
abbrev D_api_Change := (Int) × (Int)
abbrev T_api_Conf : Tp := (.pair (.sl (.int .i64)) (.sl (.int .i64)))
abbrev D_api_Conf := (List (Int)) × (List (Int))
abbrev T_runtime_boundsError : Tp := (.pair (.int .i64) (.pair (.int .i64) (.pair .bool (.int .u8))))
abbrev D_runtime_boundsError := (Int) × ((Int) × ((Bool) × (Int)))
abbrev T_api_Action : Tp := (.pair (.int .i64) (.pair (.int .u64) (.pair (.int .i64) (.pair (.int .i64) T_api_Change))))
abbrev D_api_Action := (Int) × ((Int) × ((Int) × ((Int) × (D_api_Change))))
abbrev T_api_Seen : Tp := (.pair (.sl (.int .u64)) (.pair (.sl T_api_Site) (.pair (.sl T_api_Site) (.pair T_api_Conf (.pair (.int .i64) .bool)))))
abbrev D_api_Seen := (List (Int)) × ((List (D_api_Site)) × ((List (D_api_Site)) × ((D_api_Conf) × ((Int) × (Bool)))))
abbrev T_api_Plan : Tp := (.pair (.int .u64) (.pair (.int .i64) (.pair .str (.pair (.int .u64) (.pair (.int .u64) (.pair .str (.pair (.sl (.int .u64)) (.pair (.sl (.int .i64)) (.pair (.int .i64) T_api_Change)))))))))
abbrev D_api_Plan := (Int) × ((Int) × ((ByteArray) × ((Int) × ((Int) × ((ByteArray) × ((List (Int)) × ((List (Int)) × ((Int) × (D_api_Change)))))))))
abbrev T_plans_view : Tp := (.pair T_api_Plan T_api_Seen)
abbrev D_plans_view := (D_api_Plan) × (D_api_Seen)
theorem orders : Try.prog.follows .mixedOrders = true := by kernel_rfl
abbrev Z0 : Type := (List (Int)) × ((List (D_api_Site)) × ((List (D_api_Site)) × ((List (Int)) × ((List (Int)) × ((Int) × ((Bool) × (Unit)))))))
abbrev Z1 : Type := (Int) × ((Int) × ((ByteArray) × ((Int) × ((Int) × ((ByteArray) × ((List (Int)) × ((List (Int)) × ((Int) × ((Int) × ((Int) × (Unit)))))))))))
abbrev Z2 : Type := (List (Int)) × ((List (D_api_Site)) × ((Unit) × ((List (Int)) × ((List (Int)) × ((Int) × ((Bool) × (Unit)))))))
abbrev Z3 : Type := (List (Int)) × ((Unit) × ((Unit) × ((List (Int)) × ((List (Int)) × ((Int) × ((Bool) × (Unit)))))))
abbrev Y4 : Sh := (.agg 11 (.cons (.hole (.int .u64)) (.cons (.hole (.int .i64)) (.cons (.hole .str) (.cons (.hole (.int .u64)) (.cons (.hole (.int .u64)) (.cons (.hole .str) (.cons (.own .own 27 (.int .u64)) (.cons (.own .own 3 (.int .i64)) (.cons (.hole (.int .i64)) (.cons (.hole (.int .i64)) (.cons (.hole (.int .i64)) .nil))))))))))))
abbrev Y5 : Sh := (.agg 11 (.cons (.hole (.int .u64)) (.cons (.hole (.int .i64)) (.cons (.hole .str) (.cons (.hole (.int .u64)) (.cons (.hole (.int .u64)) (.cons (.hole .str) (.cons (.hole (.sl (.int .u64))) (.cons (.hole (.sl (.int .i64))) (.cons (.hole (.int .i64)) (.cons (.hole (.int .i64)) (.cons (.hole (.int .i64)) .nil))))))))))))
abbrev Z6 : Type := (Int) × ((Int) × ((ByteArray) × ((Int) × ((Int) × ((ByteArray) × ((List (Int)) × ((List (Int)) × ((Int) × ((Int) × ((Int) × ((List (Int)) × ((List (D_api_Site)) × ((List (D_api_Site)) × ((List (Int)) × ((List (Int)) × ((Int) × ((Bool) × (Unit))))))))))))))))))
abbrev Y7 : Sh := (.agg 18 (.cons (.hole (.int .u64)) (.cons (.hole (.int .i64)) (.cons (.hole .str) (.cons (.hole (.int .u64)) (.cons (.hole (.int .u64)) (.cons (.hole .str) (.cons (.hole (.sl (.int .u64))) (.cons (.hole (.sl (.int .i64))) (.cons (.hole (.int .i64)) (.cons (.hole (.int .i64)) (.cons (.hole (.int .i64)) (.cons (.hole (.sl (.int .u64))) (.cons (.hole (.sl T_api_Site)) (.cons (.hole (.sl T_api_Site)) (.cons (.hole (.sl (.int .i64))) (.cons (.hole (.sl (.int .i64))) (.cons (.hole (.int .i64)) (.cons (.hole .bool) .nil)))))))))))))))))))
abbrev Y8 : Sh := (.agg 15 (.cons (.clo 25 0 .nil 1 (.cons (.look (.cons (.hole (.int .u64)) (.cons (.hole (.int .i64)) (.cons (.hole .str) (.cons (.hole (.int .u64)) (.cons (.hole (.int .u64)) (.cons (.hole .str) (.cons (.hole (.sl (.int .u64))) (.cons (.hole (.sl (.int .i64))) (.cons (.hole (.int .i64)) (.cons (.hole (.int .i64)) (.cons (.hole (.int .i64)) (.cons (.hole (.sl (.int .u64))) (.cons (.hole (.sl T_api_Site)) (.cons (.hole (.sl T_api_Site)) (.cons (.hole (.sl (.int .i64))) (.cons (.hole (.sl (.int .i64))) (.cons (.hole (.int .i64)) (.cons (.hole .bool) .nil))))))))))))))))))) .nil)) (.cons (.clo 27 1 (.cons Y7 .nil) 0 .nil) (.cons (.clo 23 0 .nil 1 (.cons (.look (.cons (.hole (.int .u64)) (.cons (.hole (.int .i64)) (.cons (.hole .str) (.cons (.hole (.int .u64)) (.cons (.hole (.int .u64)) (.cons (.hole .str) (.cons (.hole (.sl (.int .u64))) (.cons (.hole (.sl (.int .i64))) (.cons (.hole (.int .i64)) (.cons (.hole (.int .i64)) (.cons (.hole (.int .i64)) (.cons (.hole (.sl (.int .u64))) (.cons (.hole (.sl T_api_Site)) (.cons (.hole (.sl T_api_Site)) (.cons (.hole (.sl (.int .i64))) (.cons (.hole (.sl (.int .i64))) (.cons (.hole (.int .i64)) (.cons (.hole .bool) .nil))))))))))))))))))) .nil)) (.cons (.clo 28 1 (.cons Y7 .nil) 0 .nil) (.cons (.nilv 2) (.cons (.clo 25 0 .nil 1 (.cons (.look (.cons (.hole (.int .u64)) (.cons (.hole (.int .i64)) (.cons (.hole .str) (.cons (.hole (.int .u64)) (.cons (.hole (.int .u64)) (.cons (.hole .str) (.cons (.hole (.sl (.int .u64))) (.cons (.hole (.sl (.int .i64))) (.cons (.hole (.int .i64)) (.cons (.hole (.int .i64)) (.cons (.hole (.int .i64)) (.cons (.hole (.sl (.int .u64))) (.cons (.hole (.sl T_api_Site)) (.cons (.hole (.sl T_api_Site)) (.cons (.hole (.sl (.int .i64))) (.cons (.hole (.sl (.int .i64))) (.cons (.hole (.int .i64)) (.cons (.hole .bool) .nil))))))))))))))))))) .nil)) (.cons (.clo 29 0 .nil 1 (.cons (.look (.cons (.hole (.int .u64)) (.cons (.hole (.int .i64)) (.cons (.hole .str) (.cons (.hole (.int .u64)) (.cons (.hole (.int .u64)) (.cons (.hole .str) (.cons (.hole (.sl (.int .u64))) (.cons (.hole (.sl (.int .i64))) (.cons (.hole (.int .i64)) (.cons (.hole (.int .i64)) (.cons (.hole (.int .i64)) (.cons (.hole (.sl (.int .u64))) (.cons (.hole (.sl T_api_Site)) (.cons (.hole (.sl T_api_Site)) (.cons (.hole (.sl (.int .i64))) (.cons (.hole (.sl (.int .i64))) (.cons (.hole (.int .i64)) (.cons (.hole .bool) .nil))))))))))))))))))) .nil)) (.cons (.clo 27 1 (.cons Y7 .nil) 0 .nil) (.cons (.clo 23 0 .nil 1 (.cons (.look (.cons (.hole (.int .u64)) (.cons (.hole (.int .i64)) (.cons (.hole .str) (.cons (.hole (.int .u64)) (.cons (.hole (.int .u64)) (.cons (.hole .str) (.cons (.hole (.sl (.int .u64))) (.cons (.hole (.sl (.int .i64))) (.cons (.hole (.int .i64)) (.cons (.hole (.int .i64)) (.cons (.hole (.int .i64)) (.cons (.hole (.sl (.int .u64))) (.cons (.hole (.sl T_api_Site)) (.cons (.hole (.sl T_api_Site)) (.cons (.hole (.sl (.int .i64))) (.cons (.hole (.sl (.int .i64))) (.cons (.hole (.int .i64)) (.cons (.hole .bool) .nil))))))))))))))))))) .nil)) (.cons (.clo 28 1 (.cons Y7 .nil) 0 .nil) (.cons (.clo 30 1 (.cons Y7 .nil) 0 .nil) (.cons (.clo 31 1 (.cons Y7 .nil) 0 .nil) (.cons (.clo 32 1 (.cons Y7 .nil) 0 .nil) (.cons (.clo 23 0 .nil 1 (.cons (.look (.cons (.hole (.int .u64)) (.cons (.hole (.int .i64)) (.cons (.hole .str) (.cons (.hole (.int .u64)) (.cons (.hole (.int .u64)) (.cons (.hole .str) (.cons (.hole (.sl (.int .u64))) (.cons (.hole (.sl (.int .i64))) (.cons (.hole (.int .i64)) (.cons (.hole (.int .i64)) (.cons (.hole (.int .i64)) (.cons (.hole (.sl (.int .u64))) (.cons (.hole (.sl T_api_Site)) (.cons (.hole (.sl T_api_Site)) (.cons (.hole (.sl (.int .i64))) (.cons (.hole (.sl (.int .i64))) (.cons (.hole (.int .i64)) (.cons (.hole .bool) .nil))))))))))))))))))) .nil)) (.cons (.clo 33 1 (.cons Y7 .nil) 0 .nil) .nil))))))))))))))))
abbrev Y9 : Sh := (.agg 7 (.cons (.hole (.sl (.int .u64))) (.cons (.hole (.sl T_api_Site)) (.cons (.hole (.sl T_api_Site)) (.cons (.hole (.sl (.int .i64))) (.cons (.hole (.sl (.int .i64))) (.cons (.hole (.int .i64)) (.cons (.hole .bool) .nil))))))))
abbrev Z10 : Type := (Int) × ((Int) × ((Int) × ((Int) × ((Int) × ((Int) × (Unit))))))
abbrev Y11 : Sh := (.agg 6 (.cons (.hole (.int .i64)) (.cons (.hole (.int .u64)) (.cons (.hole (.int .i64)) (.cons (.hole (.int .i64)) (.cons (.hole (.int .i64)) (.cons (.hole (.int .i64)) .nil)))))))
abbrev Y12 : Sh := (.agg 7 (.cons (.own .own 27 (.int .u64)) (.cons .nils (.cons .nils (.cons (.hole (.sl (.int .i64))) (.cons (.hole (.sl (.int .i64))) (.cons (.hole (.int .i64)) (.cons (.hole .bool) .nil))))))))
abbrev Y13 : Sh := (.agg 7 (.cons (.own .own 27 (.int .u64)) (.cons (.own .own 40 T_api_Site) (.cons .nils (.cons (.hole (.sl (.int .i64))) (.cons (.hole (.sl (.int .i64))) (.cons (.hole (.int .i64)) (.cons (.hole .bool) .nil))))))))
abbrev Y14 : Sh := (.agg 7 (.cons (.own .own 27 (.int .u64)) (.cons (.own .own 40 T_api_Site) (.cons (.own .own 40 T_api_Site) (.cons (.hole (.sl (.int .i64))) (.cons (.hole (.sl (.int .i64))) (.cons (.hole (.int .i64)) (.cons (.hole .bool) .nil))))))))
def rs10 : List RVx := [(.cell 2 true 11)]
/-- gazette/gazettelaw19.split -/
def p10 (_ : Nat) : (Int) × (Unit) → Option ((Unit) × ((Int) × ((Int) × ((ByteArray) × ((Int) × ((Int) × ((ByteArray) × ((List (Int)) × ((List (Int)) × ((Int) × ((Int) × ((Int) × (Unit))))))))))))) := fun ⟨a, _⟩ =>
some ((), ((1 : Int), (1 : Int), (⟨#[]⟩ : ByteArray), (1 : Int), (0 : Int), (⟨#[]⟩ : ByteArray), [(2 : Int), (3 : Int)], [(1 : Int), (2 : Int), (3 : Int)], (0 : Int), (0 : Int), a, ()))
def e10 (fu : Nat) : Ent := ⟨10, (.cons (.hole (.int .i64)) .nil), .nil, Y4, p10 fu⟩
def d10 (_ : Nat) : DC := (.seq (.region [opD 2 (.alloc 32 11 [vU, vI, vT, vU, vU, vT, vS, vS, vI, vI, vI])] [[]] false) (.seq (.region [oqD 3 (.bslice 27 1 2 [vU] [(0, (.const (.int .u64 2))), (1, (.const (.int .u64 3)))]) (.ty (.int .u64)), oqD 4 (.bslice 3 1 3 [vI] [(0, (cD 1)), (1, (cD 2)), (2, (cD 3))]) (.ty (.int .i64)), mvD 5 0, opD 6 (.build 11 [vU, vI, vT, vU, vU, vT, vS, vS, vI, vI, vI] [(0, (1, (.const (.int .u64 1)))), (1, (1, (cD 1))), (3, (1, (.const (.int .u64 1)))), (6, (1, (tD 3))), (7, (1, (tD 4))), (10, (1, (tD 5)))]), onD (.store 11 (tD 2) (tD 6))] [[], [], [], [0, 1, 2], [3, 0, 1, 2, 3]] false) .ret))
set_option maxRecDepth 1000000 in
theorem v10 (fu : Nat) : evF fu (d10 fu) rs10 7 (e10 fu).ash (e10 fu).osh (e10 fu).vsh = p10 fu := by kernel_rfl
set_option maxRecDepth 1000000 in
theorem b10 (fu : Nat) : BodyD Try.prog 10 7 (d10 fu).erase rs10 := bodyD_mk Try.func10 (by kernel_rfl) (by kernel_rfl) (by kernel_rfl) (by kernel_rfl)
theorem g10 (fu : Nat) : (e10 fu).Good Try.prog := good_by orders (b10 fu) (l := []) (by kernel_rfl) trivial (by kernel_rfl) (v10 fu)
def rs12 : List RVx := [(.tmp 2)]
/-- gazette/plans.Steps -/
def p12 (_ : Nat) : (Int) × (Unit) → Option ((Unit) × (Int)) := fun ⟨a, _⟩ =>
bif (a == (1 : Int)) then
 some ((), (4 : Int))
else
 bif (a == (2 : Int)) then
 some ((), (5 : Int))
 else
 bif (a == (3 : Int)) then
 some ((), (5 : Int))
 else
 some ((), (0 : Int))
def e12 (fu : Nat) : Ent := ⟨12, (.cons (.hole (.int .i64)) .nil), .nil, (.hole (.int .i64)), p12 fu⟩
def d12 (_ : Nat) : DC := (.seq (.region [opD 2 (.mov (cD 0))] [[]] false) (.seq (.seq (.region [mvD 3 0] [[]] false) (.block 0 (.seq (.region [opD 5 (.bin .eql (tD 3) (cD 1)), mvD 4 5] [[], [0]] false) (.cond (.tmp 4) (.seq (.region [opD 2 (.mov (cD 4))] [[]] false) .ret) (.seq (.seq (.region [opD 7 (.bin .eql (tD 3) (cD 2)), mvD 6 7] [[], [0]] false) (.cond (.tmp 6) .skip (.region [opD 8 (.bin .eql (tD 3) (cD 3)), mvD 6 8] [[], [0]] false))) (.cond (.tmp 6) (.seq (.region [opD 2 (.mov (cD 5))] [[]] false) .ret) .skip)))))) (.seq (.region [opD 2 (.mov (cD 0))] [[]] false) .ret)))
set_option maxRecDepth 1000000 in
theorem v12 (fu : Nat) : evF fu (d12 fu) rs12 9 (e12 fu).ash (e12 fu).osh (e12 fu).vsh = p12 fu := by kernel_rfl
set_option maxRecDepth 1000000 in
theorem b12 (fu : Nat) : BodyD Try.prog 12 9 (d12 fu).erase rs12 := bodyD_mk Try.func12 (by kernel_rfl) (by kernel_rfl) (by kernel_rfl) (by kernel_rfl)
theorem g12 (fu : Nat) : (e12 fu).Good Try.prog := good_by orders (b12 fu) (l := []) (by kernel_rfl) trivial (by kernel_rfl) (v12 fu)
def rs15 : List RVx := [(.tmp 2)]
/-- gazette/plans.isPlan -/
def p15 (fu : Nat) : (Z1) × (Unit) → Option ((Unit) × (Bool)) := fun ⟨⟨_, a, _, _, _, _, c, f, _, _, h, _⟩, _⟩ =>
bif decide (h < (0 : Int)) then
 some ((), false)
else
 Option.bind (p12 fu (a, ())) fun ⟨_, i⟩ =>
 bif decide (h ≥ i) then
 some ((), false)
 else
 bif decide ((List.length f : Int) < (1 : Int)) then
 some ((), false)
 else
 bif decide ((List.length f : Int) > (7 : Int)) then
 some ((), false)
 else
 loopO (S := ((Int) × (Unit)) × (Unit)) fu (fun ⟨⟨j, _⟩, _⟩ =>
 bif decide (j < (List.length f : Int)) then
 bif decide ((0 : Int) ≤ j ∧ j < (List.length f : Int)) then
 bif decide (Int.toNat j < List.length f) then
 bif decide ((List.getD f (Int.toNat j) (dflt (.int .i64))) < (1 : Int)) then
 inrO (some ((), false))
 else
 bif decide ((List.getD f (Int.toNat j) (dflt (.int .i64))) > (7 : Int)) then
 inrO (some ((), false))
 else
 bif decide (j > (0 : Int)) then
 bif decide ((0 : Int) ≤ IntKind.wrap .i64 (j - (1 : Int)) ∧ IntKind.wrap .i64 (j - (1 : Int)) < (List.length f : Int)) then
 bif decide (Int.toNat (IntKind.wrap .i64 (j - (1 : Int))) < List.length f) then
 bif decide ((List.getD f (Int.toNat (IntKind.wrap .i64 (j - (1 : Int)))) (dflt (.int .i64))) ≥ (List.getD f (Int.toNat j) (dflt (.int .i64)))) then
 inrO (some ((), false))
 else
 some (.inl ((IntKind.wrap .i64 (j + (1 : Int)), ()), ()))
 else none
 else none
 else
 some (.inl ((IntKind.wrap .i64 (j + (1 : Int)), ()), ()))
 else none
 else none
 else
 inrO (some ((), ((List.length c : Int) == (IntKind.wrap .i64 ((3 : Int) - a))))))
 (((0 : Int), ()), ())
def e15 (fu : Nat) : Ent := ⟨15, (.cons Y5 .nil), .nil, (.hole .bool), p15 fu⟩
def d15 (fu : Nat) : DC := (.seq (.region [opD 1 (.box 32 11 (tD 0)), opD 2 (.mov (.const vB))] [[], []] false) (.seq (.seq (.region [opD 5 (.faddr 10 (tD 1)), opD 6 (.load false 1 (tD 5)), opD 7 (.bin .lss (tD 6) (cD 0)), mvD 8 7, ogD 9 8 false (.faddr 10 (tD 1)), ogD 10 8 false (.load false 1 (tD 9)), ogD 11 8 false (.faddr 1 (tD 1)), ogD 12 8 false (.load false 1 (tD 11)), (⟨(some 13), (some (8, false)), (.call 12 [(tD 12)])⟩, (.ent (e12 fu))), ogD 14 8 false (.bin .geq (tD 10) (tD 13)), opD 15 (.pick (tD 8) (.const (.bool true)) (tD 14)), mvD 16 15, ogD 17 16 false (.faddr 7 (tD 1)), ogD 18 16 false (.load false 1 (tD 17)), ogD 19 16 false (.len false (tD 18)), ogD 20 16 false (.bin .lss (tD 19) (cD 1)), opD 21 (.pick (tD 16) (.const (.bool true)) (tD 20)), mvD 22 21, ogD 23 22 false (.faddr 7 (tD 1)), ogD 24 22 false (.load false 1 (tD 23)), ogD 25 22 false (.len false (tD 24)), ogD 26 22 false (.bin .gtr (tD 25) (cD 7)), opD 27 (.pick (tD 22) (.const (.bool true)) (tD 26))] [[], [0], [1], [2], [3], [4, 3], [3], [6, 3], [7, 3, 3], [5, 8, 3], [3, 9], [10, 8], [11], [12, 11], [13, 11], [14, 11], [11, 15], [16, 11], [17], [18, 17], [19, 17], [20, 17], [17, 21]] true) (.cond (.tmp 27) (.seq (.region [opD 2 (.mov (.const vB))] [[]] false) .ret) .skip)) (.seq (.seq (.region [opD 28 (.faddr 7 (tD 1)), opD 29 (.load false 1 (tD 28)), opD 30 (.len false (tD 29)), opD 31 (.mov (cD 0))] [[], [0], [1], []] false) (.block 0 (.loop ⟨[31], (.cons (.hole (.int .i64)) .nil), [], .nil, [1, 29, 30], [0]⟩
 (.seq (.region [opD 32 (.bin .lss (tD 31) (tD 30))] [[]] false) (.seq (.cond (.tmp 32) .skip (.exit 0)) (.seq (.block 1 (.seq (.region [mvD 33 31, opD 34 (.iaddr 1 (tD 29) (tD 31)), opD 35 (.load false 1 (tD 34)), mvD 3 33, mvD 4 35] [[], [], [1], [0, 0, 1, 2], [2, 3, 0, 1, 2, 3]] false) (.seq (.region [mvD 36 4, opD 37 (.bin .lss (tD 36) (cD 1)), mvD 38 37, ogD 39 38 false (.mov (tD 4)), ogD 40 38 false (.bin .gtr (tD 39) (cD 7)), opD 41 (.pick (tD 38) (.const (.bool true)) (tD 40)), mvD 42 41, ogD 43 42 false (.mov (tD 3)), ogD 44 42 false (.bin .gtr (tD 43) (cD 0)), ogD 45 42 false (.mov (tD 44)), ogD 46 45 true (.faddr 7 (tD 1)), ogD 47 45 true (.load false 1 (tD 46)), ogD 48 45 true (.mov (tD 3)), ogD 49 45 true (.bin .sub (tD 48) (cD 1)), ogD 50 45 true (.iaddr 1 (tD 47) (tD 49)), ogD 51 45 true (.load false 1 (tD 50)), ogD 52 45 true (.mov (tD 4)), ogD 53 45 true (.bin .geq (tD 51) (tD 52)), ogD 54 42 false (.pick (tD 45) (tD 53) (.const vB)), opD 55 (.pick (tD 42) (.const (.bool true)) (tD 54))] [[], [0], [1], [2], [3, 2], [2, 4], [5, 2], [6], [7, 6], [8, 6, 6], [9], [10, 9], [9], [12, 9], [11, 13, 9], [14, 9], [9], [15, 16, 9], [9, 17, 6], [6, 18]] false) (.cond (.tmp 55) (.seq (.region [opD 2 (.mov (.const vB))] [[]] false) .ret) .skip)))) (.region [opD 56 (.bin .add (tD 31) (cD 1)), mvD 31 56] [[], [0]] false))))))) (.seq (.region [opD 57 (.faddr 6 (tD 1)), opD 58 (.load false 1 (tD 57)), opD 59 (.len false (tD 58)), opD 60 (.faddr 1 (tD 1)), opD 61 (.load false 1 (tD 60)), opD 62 (.bin .sub (cD 3) (tD 61)), opD 63 (.bin .eql (tD 59) (tD 62)), mvD 2 63] [[], [0], [1], [], [3], [4], [2, 5], [6, 0, 1, 2, 3, 4, 5, 6]] false) .ret))))
set_option maxRecDepth 1000000 in
theorem v15 (fu : Nat) : evF fu (d15 fu) rs15 64 (e15 fu).ash (e15 fu).osh (e15 fu).vsh = p15 fu := by kernel_rfl
set_option maxRecDepth 1000000 in
theorem b15 (fu : Nat) : BodyD Try.prog 15 64 (d15 fu).erase rs15 := bodyD_mk Try.func15 (by kernel_rfl) (by kernel_rfl) (by kernel_rfl) (by kernel_rfl)
theorem g15 (fu : Nat) : (e15 fu).Good Try.prog := good_by orders (b15 fu) (l := [e12 fu]) (by kernel_rfl) ⟨g12 fu, trivial⟩ (by kernel_rfl) (v15 fu)
def rs16 : List RVx := [(.cell 2 true 15)]
/-- (gazette/plans.view).asks -/
def p16 (_ : Nat) : (Z6) × (Unit) → Option ((Unit) × (((Unit) × ((Z6) × (Unit))) × ((((Z6) × (Unit)) × (Unit)) × (((Unit) × ((Z6) × (Unit))) × ((((Z6) × (Unit)) × (Unit)) × ((Unit) × (((Unit) × ((Z6) × (Unit))) × (((Unit) × ((Z6) × (Unit))) × ((((Z6) × (Unit)) × (Unit)) × (((Unit) × ((Z6) × (Unit))) × ((((Z6) × (Unit)) × (Unit)) × ((((Z6) × (Unit)) × (Unit)) × ((((Z6) × (Unit)) × (Unit)) × ((((Z6) × (Unit)) × (Unit)) × (((Unit) × ((Z6) × (Unit))) × ((((Z6) × (Unit)) × (Unit)) × (Unit))))))))))))))))) := fun ⟨⟨a, c, f, h, i, j, k, l, m, n, o, q, s, t, u, w, x, y, _⟩, _⟩ =>
some ((), (((), ((a, c, f, h, i, j, k, l, m, n, o, q, s, t, u, w, x, y, ()), ())), (((a, c, f, h, i, j, k, l, m, n, o, q, s, t, u, w, x, y, ()), ()), ()), ((), ((a, c, f, h, i, j, k, l, m, n, o, q, s, t, u, w, x, y, ()), ())), (((a, c, f, h, i, j, k, l, m, n, o, q, s, t, u, w, x, y, ()), ()), ()), (), ((), ((a, c, f, h, i, j, k, l, m, n, o, q, s, t, u, w, x, y, ()), ())), ((), ((a, c, f, h, i, j, k, l, m, n, o, q, s, t, u, w, x, y, ()), ())), (((a, c, f, h, i, j, k, l, m, n, o, q, s, t, u, w, x, y, ()), ()), ()), ((), ((a, c, f, h, i, j, k, l, m, n, o, q, s, t, u, w, x, y, ()), ())), (((a, c, f, h, i, j, k, l, m, n, o, q, s, t, u, w, x, y, ()), ()), ()), (((a, c, f, h, i, j, k, l, m, n, o, q, s, t, u, w, x, y, ()), ()), ()), (((a, c, f, h, i, j, k, l, m, n, o, q, s, t, u, w, x, y, ()), ()), ()), (((a, c, f, h, i, j, k, l, m, n, o, q, s, t, u, w, x, y, ()), ()), ()), ((), ((a, c, f, h, i, j, k, l, m, n, o, q, s, t, u, w, x, y, ()), ())), (((a, c, f, h, i, j, k, l, m, n, o, q, s, t, u, w, x, y, ()), ()), ()), ()))
def e16 (fu : Nat) : Ent := ⟨16, (.cons Y7 .nil), .nil, Y8, p16 fu⟩
def d16 (_ : Nat) : DC := (.seq (.region [opD 1 (.box 56 18 (tD 0)), opD 2 (.alloc 59 15 [.nilFunc, .nilFunc, .nilFunc, .nilFunc, .nilFunc, .nilFunc, .nilFunc, .nilFunc, .nilFunc, .nilFunc, .nilFunc, .nilFunc, .nilFunc, .nilFunc, .nilFunc])] [[], []] false) (.seq (.region [opD 5 (.fn 23 [] [(tD 1)]), mvD 3 5] [[], [0, 0]] false) (.seq (.region [opD 6 (.fn 25 [] [(tD 1)]), mvD 4 6] [[], [0, 0]] false) (.seq (.region [mvD 7 4, opD 8 (.load true 18 (tD 1)), opD 9 (.fn 27 [(tD 8)] []), mvD 10 3, opD 11 (.load true 18 (tD 1)), opD 12 (.fn 28 [(tD 11)] []), opD 13 (.build 5 [.nilFunc, .nilFunc, .nilFunc, .nilFunc, .nilFunc] [(0, (1, (tD 7))), (1, (1, (tD 9))), (2, (1, (tD 10))), (3, (1, (tD 12)))]), mvD 14 4, opD 15 (.fn 29 [] [(tD 1)]), opD 16 (.load true 18 (tD 1)), opD 17 (.fn 27 [(tD 16)] []), mvD 18 3, opD 19 (.load true 18 (tD 1)), opD 20 (.fn 28 [(tD 19)] []), opD 21 (.build 5 [.nilFunc, .nilFunc, .nilFunc, .nilFunc, .nilFunc] [(0, (1, (tD 14))), (1, (1, (tD 15))), (2, (1, (tD 17))), (3, (1, (tD 18))), (4, (1, (tD 20)))]), opD 22 (.load true 18 (tD 1)), opD 23 (.fn 30 [(tD 22)] []), opD 24 (.load true 18 (tD 1)), opD 25 (.fn 31 [(tD 24)] []), opD 26 (.load true 18 (tD 1)), opD 27 (.fn 32 [(tD 26)] []), mvD 28 3, opD 29 (.load true 18 (tD 1)), opD 30 (.fn 33 [(tD 29)] []), opD 31 (.build 5 [.nilFunc, .nilFunc, .nilFunc, .nilFunc, .nilFunc] [(0, (1, (tD 23))), (1, (1, (tD 25))), (2, (1, (tD 27))), (3, (1, (tD 28))), (4, (1, (tD 30)))]), opD 32 (.build 15 [.nilFunc, .nilFunc, .nilFunc, .nilFunc, .nilFunc, .nilFunc, .nilFunc, .nilFunc, .nilFunc, .nilFunc, .nilFunc, .nilFunc, .nilFunc, .nilFunc, .nilFunc] [(0, (5, (tD 13))), (5, (5, (tD 21))), (10, (5, (tD 31)))]), onD (.store 15 (tD 2) (tD 32))] [[], [], [1], [], [], [4], [0, 2, 3, 5], [], [], [], [9], [], [], [12], [7, 8, 10, 11, 13], [], [15], [], [17], [], [19], [], [], [22], [16, 18, 20, 21, 23], [6, 14, 24], [25, 0, 1, 2, 3, 4, 5, 6, 7, 8, 9, 10, 11, 12, 13, 14, 15, 16, 17, 18, 19, 20, 21, 22, 23, 24, 25]] false) .ret))))
set_option maxRecDepth 1000000 in
theorem v16 (fu : Nat) : evF fu (d16 fu) rs16 33 (e16 fu).ash (e16 fu).osh (e16 fu).vsh = p16 fu := by kernel_rfl
set_option maxRecDepth 1000000 in
theorem b16 (fu : Nat) : BodyD Try.prog 16 33 (d16 fu).erase rs16 := bodyD_mk Try.func16 (by kernel_rfl) (by kernel_rfl) (by kernel_rfl) (by kernel_rfl)
theorem g16 (fu : Nat) : (e16 fu).Good Try.prog := good_by orders (b16 fu) (l := []) (by kernel_rfl) trivial (by kernel_rfl) (v16 fu)
def rs45 : List RVx := [(.tmp 4)]
/-- slices.Index[[]uint64,uint64] -/
def p45 (fu : Nat) : (List (Int)) × ((Int) × (Unit)) → Option ((Unit) × (Int)) := fun ⟨a, c, _⟩ =>
loopO (S := ((Int) × (Unit)) × (Unit)) fu (fun ⟨⟨f, _⟩, _⟩ =>
 bif decide (f < (List.length a : Int)) then
 bif decide ((0 : Int) ≤ f ∧ f < (List.length a : Int)) then
 bif decide (Int.toNat f < List.length a) then
 bif (c == (List.getD a (Int.toNat f) (dflt (.int .u64)))) then
 inrO (some ((), f))
 else
 some (.inl ((IntKind.wrap .i64 (f + (1 : Int)), ()), ()))
 else none
 else none
 else
 inrO (some ((), ((-1) : Int))))
 (((0 : Int), ()), ())
def e45 (fu : Nat) : Ent := ⟨45, (.cons (.hole (.sl (.int .u64))) (.cons (.hole (.int .u64)) .nil)), .nil, (.hole (.int .i64)), p45 fu⟩
def d45 (_ : Nat) : DC := (.seq (.region [opD 4 (.mov (cD 0))] [[]] false) (.seq (.seq (.region [mvD 6 0, opD 7 (.len false (tD 6)), opD 8 (.mov (cD 0))] [[], [0], []] false) (.block 0 (.loop ⟨[8], (.cons (.hole (.int .i64)) .nil), [], .nil, [0, 1, 7], []⟩
 (.seq (.region [opD 9 (.bin .lss (tD 8) (tD 7))] [[]] false) (.seq (.cond (.tmp 9) .skip (.exit 0)) (.seq (.block 1 (.seq (.region [mvD 10 8, mvD 5 10] [[], [0, 0]] false) (.seq (.region [mvD 11 1, mvD 12 0, mvD 13 5, opD 14 (.iaddr 1 (tD 12) (tD 13)), opD 15 (.load false 1 (tD 14)), opD 16 (.bin .eql (tD 11) (tD 15))] [[], [], [], [1, 2], [3], [0, 4]] false) (.cond (.tmp 16) (.seq (.region [mvD 17 5, mvD 4 17] [[], [0, 0]] false) .ret) .skip)))) (.region [opD 18 (.bin .add (tD 8) (cD 1)), mvD 8 18] [[], [0]] false))))))) (.seq (.region [opD 4 (.mov (.const (.int .i64 (-1))))] [[]] false) .ret)))
set_option maxRecDepth 1000000 in
theorem v45 (fu : Nat) : evF fu (d45 fu) rs45 19 (e45 fu).ash (e45 fu).osh (e45 fu).vsh = p45 fu := by kernel_rfl
set_option maxRecDepth 1000000 in
theorem b45 (fu : Nat) : BodyD Try.prog 45 19 (d45 fu).erase rs45 := bodyD_mk Try.func45 (by kernel_rfl) (by kernel_rfl) (by kernel_rfl) (by kernel_rfl)
theorem g45 (fu : Nat) : (e45 fu).Good Try.prog := good_by orders (b45 fu) (l := []) (by kernel_rfl) trivial (by kernel_rfl) (v45 fu)
def rs38 : List RVx := [(.tmp 4)]
/-- slices.Contains[[]uint64,uint64] -/
def p38 (fu : Nat) : (List (Int)) × ((Int) × (Unit)) → Option ((Unit) × (Bool)) := fun ⟨a, c, _⟩ =>
Option.bind (p45 fu (a, c, ())) fun ⟨_, f⟩ =>
some ((), decide (f ≥ (0 : Int)))
def e38 (fu : Nat) : Ent := ⟨38, (.cons (.hole (.sl (.int .u64))) (.cons (.hole (.int .u64)) .nil)), .nil, (.hole .bool), p38 fu⟩
def d38 (fu : Nat) : DC := (.seq (.region [opD 4 (.mov (.const vB))] [[]] false) (.seq (.region [mvD 5 0, mvD 6 1, oqD 7 (.call 45 [(tD 5), (tD 6)]) (.ent (e45 fu)), opD 8 (.bin .geq (tD 7) (cD 0)), mvD 4 8] [[], [], [0, 1], [2], [3, 2, 0, 1, 2, 3]] false) .ret))
set_option maxRecDepth 1000000 in
theorem v38 (fu : Nat) : evF fu (d38 fu) rs38 9 (e38 fu).ash (e38 fu).osh (e38 fu).vsh = p38 fu := by kernel_rfl
set_option maxRecDepth 1000000 in
theorem b38 (fu : Nat) : BodyD Try.prog 38 9 (d38 fu).erase rs38 := bodyD_mk Try.func38 (by kernel_rfl) (by kernel_rfl) (by kernel_rfl) (by kernel_rfl)
theorem g38 (fu : Nat) : (e38 fu).Good Try.prog := good_by orders (b38 fu) (l := [e45 fu]) (by kernel_rfl) ⟨g45 fu, trivial⟩ (by kernel_rfl) (v38 fu)
def rs24 : List RVx := [(.tmp 4)]
/-- (gazette/plans.view).step -/
def p24 (_ : Nat) : (Z6) × ((Bool) × (Unit)) → Option ((Unit) × (List (D_api_Action))) := fun ⟨⟨_, _, _, _, _, _, _, _, _, _, a, _, _, _, _, _, _, _, _⟩, c, _⟩ =>
bif !c then
 some ((), [])
else
 some ((), [((4 : Int), (0 : Int), (0 : Int), a, (0 : Int), (0 : Int))])
def e24 (fu : Nat) : Ent := ⟨24, (.cons Y7 (.cons (.hole .bool) .nil)), .nil, (.own .own 47 T_api_Action), p24 fu⟩
def d24 (_ : Nat) : DC := (.seq (.region [opD 2 (.box 56 18 (tD 0)), opD 4 (.mov (.const vS))] [[], []] false) (.seq (.seq (.region [mvD 5 1, opD 6 (.not (tD 5))] [[], [0]] false) (.cond (.tmp 6) (.seq (.region [opD 4 (.mov (.const vS))] [[]] false) .ret) .skip)) (.seq (.region [opD 7 (.faddr 0 (tD 2)), opD 8 (.faddr 10 (tD 7)), opD 9 (.load false 1 (tD 8)), opD 10 (.build 6 [vI, vU, vI, vI, vI, vI] [(0, (1, (cD 4))), (3, (1, (tD 9)))]), oqD 11 (.bslice 47 6 1 [vI, vU, vI, vI, vI, vI] [(0, (tD 10))]) (.ty T_api_Action), mvD 4 11] [[], [0], [1], [2], [3], [4, 0, 1, 2, 3, 4]] false) .ret)))
set_option maxRecDepth 1000000 in
theorem v24 (fu : Nat) : evF fu (d24 fu) rs24 12 (e24 fu).ash (e24 fu).osh (e24 fu).vsh = p24 fu := by kernel_rfl
set_option maxRecDepth 1000000 in
theorem b24 (fu : Nat) : BodyD Try.prog 24 12 (d24 fu).erase rs24 := bodyD_mk Try.func24 (by kernel_rfl) (by kernel_rfl) (by kernel_rfl) (by kernel_rfl)
theorem g24 (fu : Nat) : (e24 fu).Good Try.prog := good_by orders (b24 fu) (l := []) (by kernel_rfl) trivial (by kernel_rfl) (v24 fu)
def rs26 : List RVx := [(.tmp 4)]
/-- (gazette/plans.view).freeze -/
def p26 (fu : Nat) : (Z6) × ((Int) × (Unit)) → Option ((Unit) × (List (D_api_Action))) := fun ⟨⟨a, c, f, h, i, j, k, l, m, n, o, q, s, t, u, w, x, y, _⟩, z, _⟩ =>
Option.bind (p38 fu (q, z, ())) fun ⟨_, a0⟩ =>
bif a0 then
 Option.bind (p24 fu ((a, c, f, h, i, j, k, l, m, n, o, q, s, t, u, w, x, y, ()), true, ())) fun ⟨_, c0⟩ =>
 bif decide (List.length c0 = List.length c0) then
 some ((), c0)
 else none
else
 some ((), [((2 : Int), z, (0 : Int), (0 : Int), (0 : Int), (0 : Int))])
def e26 (fu : Nat) : Ent := ⟨26, (.cons Y7 (.cons (.hole (.int .u64)) .nil)), .nil, (.own .own 47 T_api_Action), p26 fu⟩
def d26 (fu : Nat) : DC := (.seq (.region [opD 2 (.box 56 18 (tD 0)), opD 4 (.mov (.const vS))] [[], []] false) (.seq (.seq (.region [opD 5 (.faddr 11 (tD 2)), opD 6 (.faddr 0 (tD 5)), opD 7 (.load false 1 (tD 6)), mvD 8 1, oqD 9 (.call 38 [(tD 7), (tD 8)]) (.ent (e38 fu))] [[], [0], [1], [], [2, 3]] false) (.cond (.tmp 9) (.seq (.region [opD 10 (.load true 18 (tD 2)), oqD 11 (.call 24 [(tD 10), (.const (.bool true))]) (.ent (e24 fu)), mvD 4 11] [[], [0], [1, 1, 0, 1]] false) .ret) .skip)) (.seq (.region [mvD 12 1, opD 13 (.build 6 [vI, vU, vI, vI, vI, vI] [(0, (1, (cD 2))), (1, (1, (tD 12)))]), oqD 14 (.bslice 47 6 1 [vI, vU, vI, vI, vI, vI] [(0, (tD 13))]) (.ty T_api_Action), mvD 4 14] [[], [0], [1], [2, 0, 1, 2]] false) .ret)))
set_option maxRecDepth 1000000 in
theorem v26 (fu : Nat) : evF fu (d26 fu) rs26 15 (e26 fu).ash (e26 fu).osh (e26 fu).vsh = p26 fu := by kernel_rfl
set_option maxRecDepth 1000000 in
theorem b26 (fu : Nat) : BodyD Try.prog 26 15 (d26 fu).erase rs26 := bodyD_mk Try.func26 (by kernel_rfl) (by kernel_rfl) (by kernel_rfl) (by kernel_rfl)
theorem g26 (fu : Nat) : (e26 fu).Good Try.prog := good_by orders (b26 fu) (l := [e38 fu, e24 fu]) (by kernel_rfl) ⟨g38 fu, g24 fu, trivial⟩ (by kernel_rfl) (v26 fu)
def rs25 : List RVx := [(.tmp 1)]
/-- (gazette/plans.view).asks$2 -/
def p25 (fu : Nat) : (Z6) × (Unit) → Option ((Unit) × (List (D_api_Action))) := fun ⟨⟨a, c, f, h, i, j, k, l, m, n, o, q, s, t, u, w, x, y, _⟩, _⟩ =>
Option.bind (p26 fu ((a, c, f, h, i, j, k, l, m, n, o, q, s, t, u, w, x, y, ()), h, ())) fun ⟨_, z⟩ =>
bif decide (List.length z = List.length z) then
 some ((), z)
else none
def e25 (fu : Nat) : Ent := ⟨25, (.cons (.look (.cons (.hole (.int .u64)) (.cons (.hole (.int .i64)) (.cons (.hole .str) (.cons (.hole (.int .u64)) (.cons (.hole (.int .u64)) (.cons (.hole .str) (.cons (.hole (.sl (.int .u64))) (.cons (.hole (.sl (.int .i64))) (.cons (.hole (.int .i64)) (.cons (.hole (.int .i64)) (.cons (.hole (.int .i64)) (.cons (.hole (.sl (.int .u64))) (.cons (.hole (.sl T_api_Site)) (.cons (.hole (.sl T_api_Site)) (.cons (.hole (.sl (.int .i64))) (.cons (.hole (.sl (.int .i64))) (.cons (.hole (.int .i64)) (.cons (.hole .bool) .nil))))))))))))))))))) .nil), .nil, (.own .own 47 T_api_Action), p25 fu⟩
def d25 (fu : Nat) : DC := (.seq (.region [opD 1 (.mov (.const vS))] [[]] false) (.seq (.region [opD 2 (.load true 18 (tD 0)), opD 3 (.faddr 0 (tD 0)), opD 4 (.faddr 3 (tD 3)), opD 5 (.load false 1 (tD 4)), oqD 6 (.call 26 [(tD 2), (tD 5)]) (.ent (e26 fu)), mvD 1 6] [[], [], [1], [2], [0, 3], [4, 4, 0, 1, 2, 3, 4]] false) .ret))
set_option maxRecDepth 1000000 in
theorem v25 (fu : Nat) : evF fu (d25 fu) rs25 7 (e25 fu).ash (e25 fu).osh (e25 fu).vsh = p25 fu := by kernel_rfl
set_option maxRecDepth 1000000 in
theorem b25 (fu : Nat) : BodyD Try.prog 25 7 (d25 fu).erase rs25 := bodyD_mk Try.func25 (by kernel_rfl) (by kernel_rfl) (by kernel_rfl) (by kernel_rfl)
theorem g25 (fu : Nat) : (e25 fu).Good Try.prog := good_by orders (b25 fu) (l := [e26 fu]) (by kernel_rfl) ⟨g26 fu, trivial⟩ (by kernel_rfl) (v25 fu)
def rs50 : List RVx := [(.tmp 4)]
/-- slices.Index[[]gazette/api.Site,gazette/api.Site] -/
def p50 (fu : Nat) : (List (D_api_Site)) × (((Int) × ((Int) × (Unit))) × (Unit)) → Option ((Unit) × (Int)) := fun ⟨a, ⟨c, f, _⟩, _⟩ =>
loopO (S := ((Int) × (Unit)) × (Unit)) fu (fun ⟨⟨h, _⟩, _⟩ =>
 bif decide (h < (List.length a : Int)) then
 bif decide ((0 : Int) ≤ h ∧ h < (List.length a : Int)) then
 bif decide (Int.toNat h < List.length a) then
 bif (c == ((List.getD a (Int.toNat h) (dflt T_api_Site)).1) && (f == ((List.getD a (Int.toNat h) (dflt T_api_Site)).2) && true)) then
 inrO (some ((), h))
 else
 some (.inl ((IntKind.wrap .i64 (h + (1 : Int)), ()), ()))
 else none
 else none
 else
 inrO (some ((), ((-1) : Int))))
 (((0 : Int), ()), ())
def e50 (fu : Nat) : Ent := ⟨50, (.cons (.hole (.sl T_api_Site)) (.cons (.agg 2 (.cons (.hole (.int .u64)) (.cons (.hole (.int .i64)) .nil))) .nil)), .nil, (.hole (.int .i64)), p50 fu⟩
def d50 (_ : Nat) : DC := (.seq (.region [opD 3 (.box 40 2 (tD 1)), opD 4 (.mov (cD 0))] [[], []] false) (.seq (.seq (.region [mvD 6 0, opD 7 (.len false (tD 6)), opD 8 (.mov (cD 0))] [[], [0], []] false) (.block 0 (.loop ⟨[8], (.cons (.hole (.int .i64)) .nil), [], .nil, [0, 3, 7], [0]⟩
 (.seq (.region [opD 9 (.bin .lss (tD 8) (tD 7))] [[]] false) (.seq (.cond (.tmp 9) .skip (.exit 0)) (.seq (.block 1 (.seq (.region [mvD 10 8, mvD 5 10] [[], [0, 0]] false) (.seq (.region [opD 11 (.load true 2 (tD 3)), mvD 12 0, mvD 13 5, opD 14 (.iaddr 2 (tD 12) (tD 13)), opD 15 (.load true 2 (tD 14)), opD 16 (.seq false [.int, .int] (tD 11) (tD 15))] [[], [], [], [1, 2], [3], [0, 4]] true) (.cond (.tmp 16) (.seq (.region [mvD 17 5, mvD 4 17] [[], [0, 0]] false) .ret) .skip)))) (.region [opD 18 (.bin .add (tD 8) (cD 1)), mvD 8 18] [[], [0]] false))))))) (.seq (.region [opD 4 (.mov (.const (.int .i64 (-1))))] [[]] false) .ret)))
set_option maxRecDepth 1000000 in
theorem v50 (fu : Nat) : evF fu (d50 fu) rs50 19 (e50 fu).ash (e50 fu).osh (e50 fu).vsh = p50 fu := by kernel_rfl
set_option maxRecDepth 1000000 in
theorem b50 (fu : Nat) : BodyD Try.prog 50 19 (d50 fu).erase rs50 := bodyD_mk Try.func50 (by kernel_rfl) (by kernel_rfl) (by kernel_rfl) (by kernel_rfl)
theorem g50 (fu : Nat) : (e50 fu).Good Try.prog := good_by orders (b50 fu) (l := []) (by kernel_rfl) trivial (by kernel_rfl) (v50 fu)
def rs43 : List RVx := [(.tmp 4)]
/-- slices.Contains[[]gazette/api.Site,gazette/api.Site] -/
def p43 (fu : Nat) : (List (D_api_Site)) × (((Int) × ((Int) × (Unit))) × (Unit)) → Option ((Unit) × (Bool)) := fun ⟨a, ⟨c, f, _⟩, _⟩ =>
Option.bind (p50 fu (a, (c, f, ()), ())) fun ⟨_, h⟩ =>
some ((), decide (h ≥ (0 : Int)))
def e43 (fu : Nat) : Ent := ⟨43, (.cons (.hole (.sl T_api_Site)) (.cons (.agg 2 (.cons (.hole (.int .u64)) (.cons (.hole (.int .i64)) .nil))) .nil)), .nil, (.hole .bool), p43 fu⟩
def d43 (fu : Nat) : DC := (.seq (.region [opD 3 (.box 40 2 (tD 1)), opD 4 (.mov (.const vB))] [[], []] false) (.seq (.region [mvD 5 0, opD 6 (.load true 2 (tD 3)), oqD 7 (.call 50 [(tD 5), (tD 6)]) (.ent (e50 fu)), opD 8 (.bin .geq (tD 7) (cD 0)), mvD 4 8] [[], [], [0, 1], [2], [3, 2, 0, 1, 2, 3]] false) .ret))
set_option maxRecDepth 1000000 in
theorem v43 (fu : Nat) : evF fu (d43 fu) rs43 9 (e43 fu).ash (e43 fu).osh (e43 fu).vsh = p43 fu := by kernel_rfl
set_option maxRecDepth 1000000 in
theorem b43 (fu : Nat) : BodyD Try.prog 43 9 (d43 fu).erase rs43 := bodyD_mk Try.func43 (by kernel_rfl) (by kernel_rfl) (by kernel_rfl) (by kernel_rfl)
theorem g43 (fu : Nat) : (e43 fu).Good Try.prog := good_by orders (b43 fu) (l := [e50 fu]) (by kernel_rfl) ⟨g50 fu, trivial⟩ (by kernel_rfl) (v43 fu)
def rs47 : List RVx := [(.tmp 6)]
/-- (gazette/plans.view).missing -/
def p47 (fu : Nat) : (Z6) × ((List (D_api_Site)) × ((Int) × (Unit))) → Option ((Unit) × (List (Int))) := fun ⟨⟨_, _, _, _, _, _, _, a, _, _, _, _, _, _, _, _, _, _, _⟩, c, f, _⟩ =>
loopO (S := ((List (Int)) × ((Int) × (Unit))) × (Unit)) fu (fun ⟨⟨h, i, _⟩, _⟩ =>
 bif decide (i < (List.length a : Int)) then
 bif decide ((0 : Int) ≤ i ∧ i < (List.length a : Int)) then
 bif decide (Int.toNat i < List.length a) then
 Option.bind (p43 fu (c, (f, (List.getD a (Int.toNat i) (dflt (.int .i64))), ()), ())) fun ⟨_, j⟩ =>
 bif !j then
 bif decide (List.length h = List.length h) then
 bif decide (List.length h + List.length ([(List.getD a (Int.toNat i) (dflt (.int .i64)))]) ≤ maxLen ∧ (List.length h + List.length ([(List.getD a (Int.toNat i) (dflt (.int .i64)))])) * 8 ≤ 140737488355328) then
 bif decide (List.length (h ++ [(List.getD a (Int.toNat i) (dflt (.int .i64)))]) = List.length (h ++ [(List.getD a (Int.toNat i) (dflt (.int .i64)))])) then
 some (.inl (((h ++ [(List.getD a (Int.toNat i) (dflt (.int .i64)))]), IntKind.wrap .i64 (i + (1 : Int)), ()), ()))
 else none
 else none
 else none
 else
 bif decide (List.length h = List.length h) then
 some (.inl ((h, IntKind.wrap .i64 (i + (1 : Int)), ()), ()))
 else none
 else none
 else none
 else
 inrO (bif decide (List.length h = List.length h) then
 some ((), h)
 else none))
 (([], (0 : Int), ()), ())
def e47 (fu : Nat) : Ent := ⟨47, (.cons Y7 (.cons (.hole (.sl T_api_Site)) (.cons (.hole (.int .u64)) .nil))), .nil, (.own .own 3 (.int .i64)), p47 fu⟩
def d47 (fu : Nat) : DC := (.seq (.region [opD 3 (.box 56 18 (tD 0)), opD 6 (.mov (.const vS))] [[], []] false) (.seq (.region [opD 7 (.mov (.const vS))] [[]] false) (.seq (.seq (.region [opD 10 (.faddr 0 (tD 3)), opD 11 (.faddr 7 (tD 10)), opD 12 (.load false 1 (tD 11)), opD 13 (.len false (tD 12)), opD 14 (.mov (cD 0))] [[], [0], [1], [2], []] false) (.block 0 (.loop ⟨[7, 14], (.cons (.own .own 3 (.int .i64)) (.cons (.hole (.int .i64)) .nil)), [], .nil, [1, 2, 12, 13], []⟩
 (.seq (.region [opD 15 (.bin .lss (tD 14) (tD 13))] [[]] false) (.seq (.cond (.tmp 15) .skip (.exit 0)) (.seq (.block 1 (.seq (.region [opD 16 (.iaddr 1 (tD 12) (tD 14)), opD 17 (.load false 1 (tD 16)), mvD 9 17] [[], [0], [1, 0, 1]] false) (.seq (.region [mvD 18 1, mvD 19 2, mvD 20 9, opD 21 (.build 2 [vU, vI] [(0, (1, (tD 19))), (1, (1, (tD 20)))]), oqD 22 (.call 43 [(tD 18), (tD 21)]) (.ent (e43 fu)), opD 23 (.not (tD 22))] [[], [], [], [1, 2], [0, 3], [4]] false) (.cond (.tmp 23) (.region [mvD 24 7, mvD 25 9, oqD 26 (.bslice 3 1 1 [vI] [(0, (tD 25))]) (.ty (.int .i64)), oqD 27 (.app 3 1 [vI] 8 (tD 24) (tD 26)) (.ty (.int .i64)), mvD 7 27] [[], [], [1], [0, 2], [3, 3, 0, 1, 2, 3]] false) .skip)))) (.region [opD 28 (.bin .add (tD 14) (cD 1)), mvD 14 28] [[], [0]] false))))))) (.seq (.region [mvD 29 7, mvD 6 29] [[], [0, 0]] false) .ret))))
set_option maxRecDepth 1000000 in
theorem v47 (fu : Nat) : evF fu (d47 fu) rs47 30 (e47 fu).ash (e47 fu).osh (e47 fu).vsh = p47 fu := by kernel_rfl
set_option maxRecDepth 1000000 in
theorem b47 (fu : Nat) : BodyD Try.prog 47 30 (d47 fu).erase rs47 := bodyD_mk Try.func47 (by kernel_rfl) (by kernel_rfl) (by kernel_rfl) (by kernel_rfl)
theorem g47 (fu : Nat) : (e47 fu).Good Try.prog := good_by orders (b47 fu) (l := [e43 fu]) (by kernel_rfl) ⟨g43 fu, trivial⟩ (by kernel_rfl) (v47 fu)
def rs46 : List RVx := [(.tmp 6)]
/-- (gazette/plans.view).most -/
def p46 (fu : Nat) : (Z6) × ((List (D_api_Site)) × ((Int) × (Unit))) → Option ((Unit) × (Bool)) := fun ⟨⟨a, c, f, h, i, j, k, l, m, n, o, q, s, t, u, w, x, y, _⟩, z, a0, _⟩ =>
Option.bind (p47 fu ((a, c, f, h, i, j, k, l, m, n, o, q, s, t, u, w, x, y, ()), z, a0, ())) fun ⟨_, c0⟩ =>
some ((), decide ((IntKind.wrap .i64 ((2 : Int) * (IntKind.wrap .i64 ((List.length l : Int) - ((List.length c0) : Int))))) > (List.length l : Int)))
def e46 (fu : Nat) : Ent := ⟨46, (.cons Y7 (.cons (.hole (.sl T_api_Site)) (.cons (.hole (.int .u64)) .nil))), .nil, (.hole .bool), p46 fu⟩
def d46 (fu : Nat) : DC := (.seq (.region [opD 3 (.box 56 18 (tD 0)), opD 6 (.mov (.const vB))] [[], []] false) (.seq (.region [opD 7 (.faddr 0 (tD 3)), opD 8 (.faddr 7 (tD 7)), opD 9 (.load false 1 (tD 8)), opD 10 (.len false (tD 9)), opD 11 (.load true 18 (tD 3)), mvD 12 1, mvD 13 2, oqD 14 (.call 47 [(tD 11), (tD 12), (tD 13)]) (.ent (e47 fu)), opD 15 (.len false (tD 14)), opD 16 (.bin .sub (tD 10) (tD 15)), opD 17 (.bin .mul (cD 2) (tD 16)), opD 18 (.faddr 0 (tD 3)), opD 19 (.faddr 7 (tD 18)), opD 20 (.load false 1 (tD 19)), opD 21 (.len false (tD 20)), opD 22 (.bin .gtr (tD 17) (tD 21)), mvD 6 22] [[], [0], [1], [2], [], [], [], [4, 5, 6], [7], [3, 8], [9], [], [11], [12], [13], [10, 14], [15, 7, 0, 1, 2, 3, 4, 5, 6, 7, 8, 9, 10, 11, 12, 13, 14, 15]] true) .ret))
set_option maxRecDepth 1000000 in
theorem v46 (fu : Nat) : evF fu (d46 fu) rs46 23 (e46 fu).ash (e46 fu).osh (e46 fu).vsh = p46 fu := by kernel_rfl
set_option maxRecDepth 1000000 in
theorem b46 (fu : Nat) : BodyD Try.prog 46 23 (d46 fu).erase rs46 := bodyD_mk Try.func46 (by kernel_rfl) (by kernel_rfl) (by kernel_rfl) (by kernel_rfl)
theorem g46 (fu : Nat) : (e46 fu).Good Try.prog := good_by orders (b46 fu) (l := [e47 fu]) (by kernel_rfl) ⟨g47 fu, trivial⟩ (by kernel_rfl) (v46 fu)
def rs39 : List RVx := [(.tmp 8)]
/-- (gazette/plans.view).everywhere -/
def p39 (fu : Nat) : (Z6) × ((Int) × ((List (D_api_Site)) × ((List (Int)) × (Unit)))) → Option ((Unit) × (List (D_api_Action))) := fun ⟨⟨a, c, f, h, i, j, k, l, m, n, o, q, s, t, u, w, x, y, _⟩, z, a0, c0, _⟩ =>
loopO (S := ((Bool) × ((List (D_api_Action)) × ((Int) × (Unit)))) × (Unit)) fu (fun ⟨⟨f0, h0, i0, _⟩, _⟩ =>
 bif decide (i0 < (List.length c0 : Int)) then
 bif decide ((0 : Int) ≤ i0 ∧ i0 < (List.length c0 : Int)) then
 bif decide (Int.toNat i0 < List.length c0) then
 orK (E := ((Bool) × (Unit)) × (Unit))
 (bif f0 then
 Option.bind (p46 fu ((a, c, f, h, i, j, k, l, m, n, o, q, s, t, u, w, x, y, ()), a0, (List.getD c0 (Int.toNat i0) (dflt (.int .u64))), ())) fun ⟨_, j0⟩ =>
 some (.inl ((j0, ()), ()))
 else
 some (.inl ((false, ()), ())))
 fun ⟨⟨f0, _⟩, _⟩ =>
 Option.bind (p47 fu ((a, c, f, h, i, j, k, l, m, n, o, q, s, t, u, w, x, y, ()), a0, (List.getD c0 (Int.toNat i0) (dflt (.int .u64))), ())) fun ⟨_, k0⟩ =>
 bif decide (List.length h0 = List.length h0) then
 loopO (S := ((List (D_api_Action)) × ((Int) × (Unit))) × (Unit)) fu (fun ⟨⟨h0, l0, _⟩, _⟩ =>
 bif decide (l0 < ((List.length k0) : Int)) then
 bif decide ((0 : Int) ≤ l0 ∧ l0 < (List.length k0 : Int)) then
 bif decide (Int.toNat l0 < List.length k0) then
 bif decide (List.length h0 = List.length h0) then
 bif decide (List.length h0 + List.length ([(z, (List.getD c0 (Int.toNat i0) (dflt (.int .u64))), (List.getD k0 (Int.toNat l0) (dflt (.int .i64))), (0 : Int), (0 : Int), (0 : Int))]) ≤ maxLen ∧ (List.length h0 + List.length ([(z, (List.getD c0 (Int.toNat i0) (dflt (.int .u64))), (List.getD k0 (Int.toNat l0) (dflt (.int .i64))), (0 : Int), (0 : Int), (0 : Int))])) * 48 ≤ 140737488355328) then
 bif decide (List.length (h0 ++ [(z, (List.getD c0 (Int.toNat i0) (dflt (.int .u64))), (List.getD k0 (Int.toNat l0) (dflt (.int .i64))), (0 : Int), (0 : Int), (0 : Int))]) = List.length (h0 ++ [(z, (List.getD c0 (Int.toNat i0) (dflt (.int .u64))), (List.getD k0 (Int.toNat l0) (dflt (.int .i64))), (0 : Int), (0 : Int), (0 : Int))])) then
 some (.inl (((h0 ++ [(z, (List.getD c0 (Int.toNat i0) (dflt (.int .u64))), (List.getD k0 (Int.toNat l0) (dflt (.int .i64))), (0 : Int), (0 : Int), (0 : Int))]), IntKind.wrap .i64 (l0 + (1 : Int)), ()), ()))
 else none
 else none
 else none
 else none
 else none
 else
 inrO (bif decide (List.length h0 = List.length h0) then
 some (.inl ((f0, h0, IntKind.wrap .i64 (i0 + (1 : Int)), ()), ()))
 else none))
 ((h0, (0 : Int), ()), ())
 else none
 else none
 else none
 else
 inrO (Option.bind (p24 fu ((a, c, f, h, i, j, k, l, m, n, o, q, s, t, u, w, x, y, ()), f0, ())) fun ⟨_, m0⟩ =>
 bif decide (List.length m0 = List.length m0) then
 bif decide (List.length h0 = List.length h0) then
 bif decide (List.length m0 + List.length h0 ≤ maxLen ∧ (List.length m0 + List.length h0) * 48 ≤ 140737488355328) then
 bif decide (List.length (m0 ++ h0) = List.length (m0 ++ h0)) then
 some ((), (m0 ++ h0))
 else none
 else none
 else none
 else none))
 ((true, [], (0 : Int), ()), ())
def e39 (fu : Nat) : Ent := ⟨39, (.cons Y7 (.cons (.hole (.int .i64)) (.cons (.hole (.sl T_api_Site)) (.cons (.hole (.sl (.int .u64))) .nil)))), .nil, (.own .own 47 T_api_Action), p39 fu⟩
def d39 (fu : Nat) : DC := (.seq (.region [opD 4 (.box 56 18 (tD 0)), opD 8 (.mov (.const vS))] [[], []] false) (.seq (.region [opD 9 (.mov (.const (.bool true)))] [[]] false) (.seq (.region [opD 10 (.mov (.const vS))] [[]] false) (.seq (.seq (.region [mvD 15 3, opD 16 (.len false (tD 15)), opD 17 (.mov (cD 0))] [[], [0], []] false) (.block 0 (.loop ⟨[9, 10, 17], (.cons (.hole .bool) (.cons (.own .own 47 T_api_Action) (.cons (.hole (.int .i64)) .nil))), [], .nil, [1, 2, 4, 15, 16], [0]⟩
 (.seq (.region [opD 18 (.bin .lss (tD 17) (tD 16))] [[]] false) (.seq (.cond (.tmp 18) .skip (.exit 0)) (.seq (.block 1 (.seq (.region [opD 19 (.iaddr 1 (tD 15) (tD 17)), opD 20 (.load false 1 (tD 19)), mvD 12 20] [[], [0], [1, 0, 1]] false) (.join ⟨[9], (.cons (.hole .bool) .nil), [], .nil, [1, 2, 4, 10, 12, 15, 16, 17], [0, 112]⟩
 (.region [mvD 21 9, mvD 22 21, ogD 23 22 true (.load true 18 (tD 4)), ogD 24 22 true (.mov (tD 2)), ogD 25 22 true (.mov (tD 12)), (⟨(some 26), (some (22, true)), (.call 46 [(tD 23), (tD 24), (tD 25)])⟩, (.ent (e46 fu))), opD 27 (.pick (tD 22) (tD 26) (.const vB)), mvD 9 27] [[], [0], [1], [1], [1], [2, 3, 4, 1, 1], [1, 5], [6, 5, 0, 1, 2, 3, 4, 5, 6]] false)
 (.seq (.region [opD 28 (.load true 18 (tD 4)), mvD 29 2, mvD 30 12, oqD 31 (.call 47 [(tD 28), (tD 29), (tD 30)]) (.ent (e47 fu)), opD 32 (.len false (tD 31)), opD 33 (.mov (cD 0))] [[], [], [], [0, 1, 2], [3], []] false) (.block 2 (.loop ⟨[10, 33], (.cons (.own .own 47 T_api_Action) (.cons (.hole (.int .i64)) .nil)), [], .nil, [1, 2, 4, 9, 12, 15, 16, 17, 31, 32], [0, 225]⟩
 (.seq (.region [opD 34 (.bin .lss (tD 33) (tD 32))] [[]] false) (.seq (.cond (.tmp 34) .skip (.exit 2)) (.seq (.block 3 (.seq (.region [opD 35 (.iaddr 1 (tD 31) (tD 33)), opD 36 (.load false 1 (tD 35)), mvD 14 36] [[], [0], [1, 0, 1]] false) (.region [mvD 37 10, mvD 38 1, mvD 39 12, mvD 40 14, opD 41 (.build 6 [vI, vU, vI, vI, vI, vI] [(0, (1, (tD 38))), (1, (1, (tD 39))), (2, (1, (tD 40)))]), oqD 42 (.bslice 47 6 1 [vI, vU, vI, vI, vI, vI] [(0, (tD 41))]) (.ty T_api_Action), oqD 43 (.app 47 6 [vI, vU, vI, vI, vI, vI] 48 (tD 37) (tD 42)) (.ty T_api_Action), mvD 10 43] [[], [], [], [], [1, 2, 3], [4], [0, 5], [6, 6, 0, 1, 2, 3, 4, 5, 6]] false))) (.region [opD 44 (.bin .add (tD 33) (cD 1)), mvD 33 44] [[], [0]] false)))))))))) (.region [opD 45 (.bin .add (tD 17) (cD 1)), mvD 17 45] [[], [0]] false))))))) (.seq (.region [opD 46 (.load true 18 (tD 4)), mvD 47 9, oqD 48 (.call 24 [(tD 46), (tD 47)]) (.ent (e24 fu)), mvD 49 10, oqD 50 (.app 47 6 [vI, vU, vI, vI, vI, vI] 48 (tD 48) (tD 49)) (.ty T_api_Action), mvD 8 50] [[], [], [0, 1], [], [2, 3, 2], [4, 4, 0, 1, 2, 3, 4]] false) .ret)))))
set_option maxRecDepth 1000000 in
theorem v39 (fu : Nat) : evF fu (d39 fu) rs39 51 (e39 fu).ash (e39 fu).osh (e39 fu).vsh = p39 fu := by kernel_rfl
set_option maxRecDepth 1000000 in
theorem b39 (fu : Nat) : BodyD Try.prog 39 51 (d39 fu).erase rs39 := bodyD_mk Try.func39 (by kernel_rfl) (by kernel_rfl) (by kernel_rfl) (by kernel_rfl)
theorem g39 (fu : Nat) : (e39 fu).Good Try.prog := good_by orders (b39 fu) (l := [e46 fu, e47 fu, e24 fu]) (by kernel_rfl) ⟨g46 fu, g47 fu, g24 fu, trivial⟩ (by kernel_rfl) (v39 fu)
def rs27 : List RVx := [(.tmp 2)]
/-- (gazette/plans.view).create -/
def p27 (fu : Nat) : (Z6) × (Unit) → Option ((Unit) × (List (D_api_Action))) := fun ⟨⟨a, c, f, h, i, j, k, l, m, n, o, q, s, t, u, w, x, y, _⟩, _⟩ =>
Option.bind (p39 fu ((a, c, f, h, i, j, k, l, m, n, o, q, s, t, u, w, x, y, ()), (3 : Int), s, k, ())) fun ⟨_, z⟩ =>
bif decide (List.length z = List.length z) then
 some ((), z)
else none
def e27 (fu : Nat) : Ent := ⟨27, (.cons Y7 .nil), .nil, (.own .own 47 T_api_Action), p27 fu⟩
def d27 (fu : Nat) : DC := (.seq (.region [opD 1 (.box 56 18 (tD 0)), opD 2 (.mov (.const vS))] [[], []] false) (.seq (.region [opD 3 (.load true 18 (tD 1)), opD 4 (.faddr 11 (tD 1)), opD 5 (.faddr 1 (tD 4)), opD 6 (.load false 1 (tD 5)), opD 7 (.faddr 0 (tD 1)), opD 8 (.faddr 6 (tD 7)), opD 9 (.load false 1 (tD 8)), oqD 10 (.call 39 [(tD 3), (cD 3), (tD 6), (tD 9)]) (.ent (e39 fu)), mvD 2 10] [[], [], [1], [2], [], [4], [5], [0, 3, 6], [7, 7, 0, 1, 2, 3, 4, 5, 6, 7]] false) .ret))
set_option maxRecDepth 1000000 in
theorem v27 (fu : Nat) : evF fu (d27 fu) rs27 11 (e27 fu).ash (e27 fu).osh (e27 fu).vsh = p27 fu := by kernel_rfl
set_option maxRecDepth 1000000 in
theorem b27 (fu : Nat) : BodyD Try.prog 27 11 (d27 fu).erase rs27 := bodyD_mk Try.func27 (by kernel_rfl) (by kernel_rfl) (by kernel_rfl) (by kernel_rfl)
theorem g27 (fu : Nat) : (e27 fu).Good Try.prog := good_by orders (b27 fu) (l := [e39 fu]) (by kernel_rfl) ⟨g39 fu, trivial⟩ (by kernel_rfl) (v27 fu)
def rs23 : List RVx := [(.tmp 1)]
/-- (gazette/plans.view).asks$1 -/
def p23 (fu : Nat) : (Z6) × (Unit) → Option ((Unit) × (List (D_api_Action))) := fun ⟨⟨a, c, f, h, i, j, k, l, m, n, o, q, s, t, u, w, x, y, _⟩, _⟩ =>
Option.bind (p24 fu ((a, c, f, h, i, j, k, l, m, n, o, q, s, t, u, w, x, y, ()), true, ())) fun ⟨_, z⟩ =>
bif decide (List.length z = List.length z) then
 some ((), z)
else none
def e23 (fu : Nat) : Ent := ⟨23, (.cons (.look (.cons (.hole (.int .u64)) (.cons (.hole (.int .i64)) (.cons (.hole .str) (.cons (.hole (.int .u64)) (.cons (.hole (.int .u64)) (.cons (.hole .str) (.cons (.hole (.sl (.int .u64))) (.cons (.hole (.sl (.int .i64))) (.cons (.hole (.int .i64)) (.cons (.hole (.int .i64)) (.cons (.hole (.int .i64)) (.cons (.hole (.sl (.int .u64))) (.cons (.hole (.sl T_api_Site)) (.cons (.hole (.sl T_api_Site)) (.cons (.hole (.sl (.int .i64))) (.cons (.hole (.sl (.int .i64))) (.cons (.hole (.int .i64)) (.cons (.hole .bool) .nil))))))))))))))))))) .nil), .nil, (.own .own 47 T_api_Action), p23 fu⟩
def d23 (fu : Nat) : DC := (.seq (.region [opD 1 (.mov (.const vS))] [[]] false) (.seq (.region [opD 2 (.load true 18 (tD 0)), oqD 3 (.call 24 [(tD 2), (.const (.bool true))]) (.ent (e24 fu)), mvD 1 3] [[], [0], [1, 1, 0, 1]] false) .ret))
set_option maxRecDepth 1000000 in
theorem v23 (fu : Nat) : evF fu (d23 fu) rs23 4 (e23 fu).ash (e23 fu).osh (e23 fu).vsh = p23 fu := by kernel_rfl
set_option maxRecDepth 1000000 in
theorem b23 (fu : Nat) : BodyD Try.prog 23 4 (d23 fu).erase rs23 := bodyD_mk Try.func23 (by kernel_rfl) (by kernel_rfl) (by kernel_rfl) (by kernel_rfl)
theorem g23 (fu : Nat) : (e23 fu).Good Try.prog := good_by orders (b23 fu) (l := [e24 fu]) (by kernel_rfl) ⟨g24 fu, trivial⟩ (by kernel_rfl) (v23 fu)
def rs40 : List RVx := [(.tmp 2)]
/-- (gazette/plans.view).parents -/
def p40 (fu : Nat) : (Z6) × (Unit) → Option ((Unit) × (List (Int))) := fun ⟨⟨_, a, _, c, f, _, _, _, _, _, _, _, _, _, _, _, _, _, _⟩, _⟩ =>
orK (E := ((List (Int)) × (Unit)) × (Unit))
 (bif (a == (2 : Int)) then
 bif decide (List.length ([f]) ≤ maxLen ∧ List.length ([f]) * 8 ≤ 140737488355328) then
 bif decide (List.length ([f]) = List.length ([f])) then
 some (.inl (([f], ()), ()))
 else none
 else none
 else
 bif (a == (1 : Int)) then
 some (.inl (([], ()), ()))
 else
 inrO (some ((), [])))
 fun ⟨⟨h, _⟩, _⟩ =>
bif decide (List.length h = List.length h) then
 Option.bind (pInsertU fu (h, (0 : Int), [c], ())) fun ⟨⟨_, _, _⟩, i⟩ =>
 bif decide (List.length i = List.length i) then
 some ((), i)
 else none
else none
def e40 (fu : Nat) : Ent := ⟨40, (.cons Y7 .nil), .nil, (.own .own 27 (.int .u64)), p40 fu⟩
def d40 (fu : Nat) : DC := (.seq (.region [opD 1 (.box 56 18 (tD 0)), opD 2 (.mov (.const vS))] [[], []] false) (.seq (.region [opD 3 (.mov (.const vS))] [[]] false) (.seq (.seq (.region [opD 4 (.faddr 0 (tD 1)), opD 5 (.faddr 1 (tD 4)), opD 6 (.load false 1 (tD 5))] [[], [0], [1]] false) (.block 0 (.join ⟨[3], (.cons (.own .own 27 (.int .u64)) .nil), [], .nil, [1], [0]⟩
 (.block 2 (.seq (.block 1 (.seq (.seq (.seq (.region [opD 8 (.bin .eql (tD 6) (cD 2)), mvD 7 8] [[], [0]] false) (.cond (.tmp 7) (.exit 1) .skip)) (.seq (.region [opD 10 (.bin .eql (tD 6) (cD 1)), mvD 9 10] [[], [0]] false) (.cond (.tmp 9) (.exit 2) .skip))) (.exit 0))) (.region [mvD 11 3, opD 12 (.faddr 0 (tD 1)), opD 13 (.faddr 4 (tD 12)), opD 14 (.load false 1 (tD 13)), oqD 15 (.bslice 27 1 1 [vU] [(0, (tD 14))]) (.ty (.int .u64)), oqD 16 (.app 27 1 [vU] 8 (tD 11) (tD 15)) (.ty (.int .u64)), mvD 3 16] [[], [], [1], [2], [3], [0, 4], [5, 5, 0, 1, 2, 3, 4, 5]] false)))
 (.seq (.region [mvD 17 3, opD 18 (.faddr 0 (tD 1)), opD 19 (.faddr 3 (tD 18)), opD 20 (.load false 1 (tD 19)), oqD 21 (.bslice 27 1 1 [vU] [(0, (tD 20))]) (.ty (.int .u64)), oqD 22 (.call 48 [(tD 17), (cD 0), (tD 21)]) (.ent (eInsertU fu)), mvD 3 22] [[], [], [1], [2], [3], [0, 4], [5, 5, 0, 1, 2, 3, 4, 5]] false) (.exit 0))))) (.seq (.region [mvD 23 3, mvD 2 23] [[], [0, 0]] false) .ret))))
set_option maxRecDepth 1000000 in
theorem v40 (fu : Nat) : evF fu (d40 fu) rs40 24 (e40 fu).ash (e40 fu).osh (e40 fu).vsh = p40 fu := by kernel_rfl
set_option maxRecDepth 1000000 in
theorem b40 (fu : Nat) : BodyD Try.prog 40 24 (d40 fu).erase rs40 := bodyD_mk Try.func40 (by kernel_rfl) (by kernel_rfl) (by kernel_rfl) (by kernel_rfl)
theorem g40 (fu : Nat) : (e40 fu).Good Try.prog := good_by orders (b40 fu) (l := [eInsertU fu]) (by kernel_rfl) ⟨gInsertU fu, trivial⟩ (by kernel_rfl) (v40 fu)
def rs28 : List RVx := [(.tmp 2)]
/-- (gazette/plans.view).destroy -/
def p28 (fu : Nat) : (Z6) × (Unit) → Option ((Unit) × (List (D_api_Action))) := fun ⟨⟨a, c, f, h, i, j, k, l, m, n, o, q, s, t, u, w, x, y, _⟩, _⟩ =>
Option.bind (p40 fu ((a, c, f, h, i, j, k, l, m, n, o, q, s, t, u, w, x, y, ()), ())) fun ⟨_, z⟩ =>
bif decide (List.length z = List.length z) then
 Option.bind (p39 fu ((a, c, f, h, i, j, k, l, m, n, o, q, s, t, u, w, x, y, ()), (5 : Int), t, z, ())) fun ⟨_, a0⟩ =>
 bif decide (List.length a0 = List.length a0) then
 some ((), a0)
 else none
else none
def e28 (fu : Nat) : Ent := ⟨28, (.cons Y7 .nil), .nil, (.own .own 47 T_api_Action), p28 fu⟩
def d28 (fu : Nat) : DC := (.seq (.region [opD 1 (.box 56 18 (tD 0)), opD 2 (.mov (.const vS))] [[], []] false) (.seq (.region [opD 3 (.load true 18 (tD 1)), opD 4 (.faddr 11 (tD 1)), opD 5 (.faddr 2 (tD 4)), opD 6 (.load false 1 (tD 5)), opD 7 (.load true 18 (tD 1)), oqD 8 (.call 40 [(tD 7)]) (.ent (e40 fu)), oqD 9 (.call 39 [(tD 3), (cD 5), (tD 6), (tD 8)]) (.ent (e39 fu)), mvD 2 9] [[], [], [1], [2], [], [4], [0, 3, 5, 5], [6, 6, 0, 1, 2, 3, 4, 5, 6]] true) .ret))
set_option maxRecDepth 1000000 in
theorem v28 (fu : Nat) : evF fu (d28 fu) rs28 10 (e28 fu).ash (e28 fu).osh (e28 fu).vsh = p28 fu := by kernel_rfl
set_option maxRecDepth 1000000 in
theorem b28 (fu : Nat) : BodyD Try.prog 28 10 (d28 fu).erase rs28 := bodyD_mk Try.func28 (by kernel_rfl) (by kernel_rfl) (by kernel_rfl) (by kernel_rfl)
theorem g28 (fu : Nat) : (e28 fu).Good Try.prog := good_by orders (b28 fu) (l := [e40 fu, e39 fu]) (by kernel_rfl) ⟨g40 fu, g39 fu, trivial⟩ (by kernel_rfl) (v28 fu)
def rs29 : List RVx := [(.tmp 1)]
/-- (gazette/plans.view).asks$3 -/
def p29 (fu : Nat) : (Z6) × (Unit) → Option ((Unit) × (List (D_api_Action))) := fun ⟨⟨a, c, f, h, i, j, k, l, m, n, o, q, s, t, u, w, x, y, _⟩, _⟩ =>
Option.bind (p26 fu ((a, c, f, h, i, j, k, l, m, n, o, q, s, t, u, w, x, y, ()), i, ())) fun ⟨_, z⟩ =>
bif decide (List.length z = List.length z) then
 some ((), z)
else none
def e29 (fu : Nat) : Ent := ⟨29, (.cons (.look (.cons (.hole (.int .u64)) (.cons (.hole (.int .i64)) (.cons (.hole .str) (.cons (.hole (.int .u64)) (.cons (.hole (.int .u64)) (.cons (.hole .str) (.cons (.hole (.sl (.int .u64))) (.cons (.hole (.sl (.int .i64))) (.cons (.hole (.int .i64)) (.cons (.hole (.int .i64)) (.cons (.hole (.int .i64)) (.cons (.hole (.sl (.int .u64))) (.cons (.hole (.sl T_api_Site)) (.cons (.hole (.sl T_api_Site)) (.cons (.hole (.sl (.int .i64))) (.cons (.hole (.sl (.int .i64))) (.cons (.hole (.int .i64)) (.cons (.hole .bool) .nil))))))))))))))))))) .nil), .nil, (.own .own 47 T_api_Action), p29 fu⟩
def d29 (fu : Nat) : DC := (.seq (.region [opD 1 (.mov (.const vS))] [[]] false) (.seq (.region [opD 2 (.load true 18 (tD 0)), opD 3 (.faddr 0 (tD 0)), opD 4 (.faddr 4 (tD 3)), opD 5 (.load false 1 (tD 4)), oqD 6 (.call 26 [(tD 2), (tD 5)]) (.ent (e26 fu)), mvD 1 6] [[], [], [1], [2], [0, 3], [4, 4, 0, 1, 2, 3, 4]] false) .ret))
set_option maxRecDepth 1000000 in
theorem v29 (fu : Nat) : evF fu (d29 fu) rs29 7 (e29 fu).ash (e29 fu).osh (e29 fu).vsh = p29 fu := by kernel_rfl
set_option maxRecDepth 1000000 in
theorem b29 (fu : Nat) : BodyD Try.prog 29 7 (d29 fu).erase rs29 := bodyD_mk Try.func29 (by kernel_rfl) (by kernel_rfl) (by kernel_rfl) (by kernel_rfl)
theorem g29 (fu : Nat) : (e29 fu).Good Try.prog := good_by orders (b29 fu) (l := [e26 fu]) (by kernel_rfl) ⟨g26 fu, trivial⟩ (by kernel_rfl) (v29 fu)
def rs53 : List RVx := [(.tmp 4)]
/-- slices.Index[[]int,int] -/
def p53 (fu : Nat) : (List (Int)) × ((Int) × (Unit)) → Option ((Unit) × (Int)) := fun ⟨a, c, _⟩ =>
loopO (S := ((Int) × (Unit)) × (Unit)) fu (fun ⟨⟨f, _⟩, _⟩ =>
 bif decide (f < (List.length a : Int)) then
 bif decide ((0 : Int) ≤ f ∧ f < (List.length a : Int)) then
 bif decide (Int.toNat f < List.length a) then
 bif (c == (List.getD a (Int.toNat f) (dflt (.int .i64)))) then
 inrO (some ((), f))
 else
 some (.inl ((IntKind.wrap .i64 (f + (1 : Int)), ()), ()))
 else none
 else none
 else
 inrO (some ((), ((-1) : Int))))
 (((0 : Int), ()), ())
def e53 (fu : Nat) : Ent := ⟨53, (.cons (.hole (.sl (.int .i64))) (.cons (.hole (.int .i64)) .nil)), .nil, (.hole (.int .i64)), p53 fu⟩
def d53 (_ : Nat) : DC := (.seq (.region [opD 4 (.mov (cD 0))] [[]] false) (.seq (.seq (.region [mvD 6 0, opD 7 (.len false (tD 6)), opD 8 (.mov (cD 0))] [[], [0], []] false) (.block 0 (.loop ⟨[8], (.cons (.hole (.int .i64)) .nil), [], .nil, [0, 1, 7], []⟩
 (.seq (.region [opD 9 (.bin .lss (tD 8) (tD 7))] [[]] false) (.seq (.cond (.tmp 9) .skip (.exit 0)) (.seq (.block 1 (.seq (.region [mvD 10 8, mvD 5 10] [[], [0, 0]] false) (.seq (.region [mvD 11 1, mvD 12 0, mvD 13 5, opD 14 (.iaddr 1 (tD 12) (tD 13)), opD 15 (.load false 1 (tD 14)), opD 16 (.bin .eql (tD 11) (tD 15))] [[], [], [], [1, 2], [3], [0, 4]] false) (.cond (.tmp 16) (.seq (.region [mvD 17 5, mvD 4 17] [[], [0, 0]] false) .ret) .skip)))) (.region [opD 18 (.bin .add (tD 8) (cD 1)), mvD 8 18] [[], [0]] false))))))) (.seq (.region [opD 4 (.mov (.const (.int .i64 (-1))))] [[]] false) .ret)))
set_option maxRecDepth 1000000 in
theorem v53 (fu : Nat) : evF fu (d53 fu) rs53 19 (e53 fu).ash (e53 fu).osh (e53 fu).vsh = p53 fu := by kernel_rfl
set_option maxRecDepth 1000000 in
theorem b53 (fu : Nat) : BodyD Try.prog 53 19 (d53 fu).erase rs53 := bodyD_mk Try.func53 (by kernel_rfl) (by kernel_rfl) (by kernel_rfl) (by kernel_rfl)
theorem g53 (fu : Nat) : (e53 fu).Good Try.prog := good_by orders (b53 fu) (l := []) (by kernel_rfl) trivial (by kernel_rfl) (v53 fu)
def rs49 : List RVx := [(.tmp 4)]
/-- slices.Contains[[]int,int] -/
def p49 (fu : Nat) : (List (Int)) × ((Int) × (Unit)) → Option ((Unit) × (Bool)) := fun ⟨a, c, _⟩ =>
Option.bind (p53 fu (a, c, ())) fun ⟨_, f⟩ =>
some ((), decide (f ≥ (0 : Int)))
def e49 (fu : Nat) : Ent := ⟨49, (.cons (.hole (.sl (.int .i64))) (.cons (.hole (.int .i64)) .nil)), .nil, (.hole .bool), p49 fu⟩
def d49 (fu : Nat) : DC := (.seq (.region [opD 4 (.mov (.const vB))] [[]] false) (.seq (.region [mvD 5 0, mvD 6 1, oqD 7 (.call 53 [(tD 5), (tD 6)]) (.ent (e53 fu)), opD 8 (.bin .geq (tD 7) (cD 0)), mvD 4 8] [[], [], [0, 1], [2], [3, 2, 0, 1, 2, 3]] false) .ret))
set_option maxRecDepth 1000000 in
theorem v49 (fu : Nat) : evF fu (d49 fu) rs49 9 (e49 fu).ash (e49 fu).osh (e49 fu).vsh = p49 fu := by kernel_rfl
set_option maxRecDepth 1000000 in
theorem b49 (fu : Nat) : BodyD Try.prog 49 9 (d49 fu).erase rs49 := bodyD_mk Try.func49 (by kernel_rfl) (by kernel_rfl) (by kernel_rfl) (by kernel_rfl)
theorem g49 (fu : Nat) : (e49 fu).Good Try.prog := good_by orders (b49 fu) (l := [e53 fu]) (by kernel_rfl) ⟨g53 fu, trivial⟩ (by kernel_rfl) (v49 fu)
def rs41 : List RVx := [(.tmp 4)]
/-- (gazette/plans.view).votes -/
def p41 (fu : Nat) : (Z6) × ((Int) × (Unit)) → Option ((Unit) × (Bool)) := fun ⟨⟨_, _, _, _, _, _, _, _, _, _, _, _, _, _, a, _, _, _, _⟩, c, _⟩ =>
Option.bind (p49 fu (a, c, ())) fun ⟨_, f⟩ =>
some ((), f)
def e41 (fu : Nat) : Ent := ⟨41, (.cons Y7 (.cons (.hole (.int .i64)) .nil)), .nil, (.hole .bool), p41 fu⟩
def d41 (fu : Nat) : DC := (.seq (.region [opD 2 (.box 56 18 (tD 0)), opD 4 (.mov (.const vB))] [[], []] false) (.seq (.region [opD 5 (.faddr 11 (tD 2)), opD 6 (.faddr 3 (tD 5)), opD 7 (.faddr 0 (tD 6)), opD 8 (.load false 1 (tD 7)), mvD 9 1, oqD 10 (.call 49 [(tD 8), (tD 9)]) (.ent (e49 fu)), mvD 4 10] [[], [0], [1], [2], [], [3, 4], [5, 5, 0, 1, 2, 3, 4, 5]] false) .ret))
set_option maxRecDepth 1000000 in
theorem v41 (fu : Nat) : evF fu (d41 fu) rs41 11 (e41 fu).ash (e41 fu).osh (e41 fu).vsh = p41 fu := by kernel_rfl
set_option maxRecDepth 1000000 in
theorem b41 (fu : Nat) : BodyD Try.prog 41 11 (d41 fu).erase rs41 := bodyD_mk Try.func41 (by kernel_rfl) (by kernel_rfl) (by kernel_rfl) (by kernel_rfl)
theorem g41 (fu : Nat) : (e41 fu).Good Try.prog := good_by orders (b41 fu) (l := [e49 fu]) (by kernel_rfl) ⟨g49 fu, trivial⟩ (by kernel_rfl) (v41 fu)
def rs42 : List RVx := [(.tmp 4)]
/-- (gazette/plans.view).learns -/
def p42 (fu : Nat) : (Z6) × ((Int) × (Unit)) → Option ((Unit) × (Bool)) := fun ⟨⟨_, _, _, _, _, _, _, _, _, _, _, _, _, _, _, a, _, _, _⟩, c, _⟩ =>
Option.bind (p49 fu (a, c, ())) fun ⟨_, f⟩ =>
some ((), f)
def e42 (fu : Nat) : Ent := ⟨42, (.cons Y7 (.cons (.hole (.int .i64)) .nil)), .nil, (.hole .bool), p42 fu⟩
def d42 (fu : Nat) : DC := (.seq (.region [opD 2 (.box 56 18 (tD 0)), opD 4 (.mov (.const vB))] [[], []] false) (.seq (.region [opD 5 (.faddr 11 (tD 2)), opD 6 (.faddr 3 (tD 5)), opD 7 (.faddr 1 (tD 6)), opD 8 (.load false 1 (tD 7)), mvD 9 1, oqD 10 (.call 49 [(tD 8), (tD 9)]) (.ent (e49 fu)), mvD 4 10] [[], [0], [1], [2], [], [3, 4], [5, 5, 0, 1, 2, 3, 4, 5]] false) .ret))
set_option maxRecDepth 1000000 in
theorem v42 (fu : Nat) : evF fu (d42 fu) rs42 11 (e42 fu).ash (e42 fu).osh (e42 fu).vsh = p42 fu := by kernel_rfl
set_option maxRecDepth 1000000 in
theorem b42 (fu : Nat) : BodyD Try.prog 42 11 (d42 fu).erase rs42 := bodyD_mk Try.func42 (by kernel_rfl) (by kernel_rfl) (by kernel_rfl) (by kernel_rfl)
theorem g42 (fu : Nat) : (e42 fu).Good Try.prog := good_by orders (b42 fu) (l := [e49 fu]) (by kernel_rfl) ⟨g49 fu, trivial⟩ (by kernel_rfl) (v42 fu)
def rs44 : List RVx := [(.tmp 6)]
/-- (gazette/plans.view).change -/
def p44 (_ : Nat) : (Z6) × ((Int) × ((Int) × (Unit))) → Option ((Unit) × (List (D_api_Action))) := fun ⟨⟨_, _, _, a, _, _, _, _, _, _, _, _, _, _, _, _, _, _, _⟩, c, f, _⟩ =>
some ((), [((6 : Int), a, (0 : Int), (0 : Int), c, f)])
def e44 (fu : Nat) : Ent := ⟨44, (.cons Y7 (.cons (.hole (.int .i64)) (.cons (.hole (.int .i64)) .nil))), .nil, (.own .own 47 T_api_Action), p44 fu⟩
def d44 (_ : Nat) : DC := (.seq (.region [opD 3 (.box 56 18 (tD 0)), opD 6 (.mov (.const vS))] [[], []] false) (.seq (.region [opD 7 (.faddr 0 (tD 3)), opD 8 (.faddr 3 (tD 7)), opD 9 (.load false 1 (tD 8)), mvD 10 1, mvD 11 2, opD 12 (.build 2 [vI, vI] [(0, (1, (tD 10))), (1, (1, (tD 11)))]), opD 13 (.build 6 [vI, vU, vI, vI, vI, vI] [(0, (1, (cD 6))), (1, (1, (tD 9))), (4, (2, (tD 12)))]), oqD 14 (.bslice 47 6 1 [vI, vU, vI, vI, vI, vI] [(0, (tD 13))]) (.ty T_api_Action), mvD 6 14] [[], [0], [1], [], [], [3, 4], [2, 5], [6], [7, 0, 1, 2, 3, 4, 5, 6, 7]] false) .ret))
set_option maxRecDepth 1000000 in
theorem v44 (fu : Nat) : evF fu (d44 fu) rs44 15 (e44 fu).ash (e44 fu).osh (e44 fu).vsh = p44 fu := by kernel_rfl
set_option maxRecDepth 1000000 in
theorem b44 (fu : Nat) : BodyD Try.prog 44 15 (d44 fu).erase rs44 := bodyD_mk Try.func44 (by kernel_rfl) (by kernel_rfl) (by kernel_rfl) (by kernel_rfl)
theorem g44 (fu : Nat) : (e44 fu).Good Try.prog := good_by orders (b44 fu) (l := []) (by kernel_rfl) trivial (by kernel_rfl) (v44 fu)
def rs30 : List RVx := [(.tmp 2)]
/-- (gazette/plans.view).learn -/
def p30 (fu : Nat) : (Z6) × (Unit) → Option ((Unit) × (List (D_api_Action))) := fun ⟨⟨a, c, f, h, i, j, k, l, m, n, o, q, s, t, u, w, x, y, _⟩, _⟩ =>
orK (E := ((Bool) × (Unit)) × (Unit))
 (Option.bind (p41 fu ((a, c, f, h, i, j, k, l, m, n, o, q, s, t, u, w, x, y, ()), n, ())) fun ⟨_, z⟩ =>
 bif z then
 some (.inl ((true, ()), ()))
 else
 Option.bind (p42 fu ((a, c, f, h, i, j, k, l, m, n, o, q, s, t, u, w, x, y, ()), n, ())) fun ⟨_, a0⟩ =>
 some (.inl ((a0, ()), ())))
 fun ⟨⟨c0, _⟩, _⟩ =>
bif c0 then
 Option.bind (p24 fu ((a, c, f, h, i, j, k, l, m, n, o, q, s, t, u, w, x, y, ()), true, ())) fun ⟨_, f0⟩ =>
 bif decide (List.length f0 = List.length f0) then
 some ((), f0)
 else none
else
 Option.bind (p43 fu (s, (h, n, ()), ())) fun ⟨_, h0⟩ =>
 bif !h0 then
 some ((), [((3 : Int), h, n, (0 : Int), (0 : Int), (0 : Int))])
 else
 Option.bind (p44 fu ((a, c, f, h, i, j, k, l, m, n, o, q, s, t, u, w, x, y, ()), (1 : Int), n, ())) fun ⟨_, i0⟩ =>
 bif decide (List.length i0 = List.length i0) then
 some ((), i0)
 else none
def e30 (fu : Nat) : Ent := ⟨30, (.cons Y7 .nil), .nil, (.own .own 47 T_api_Action), p30 fu⟩
def d30 (fu : Nat) : DC := (.seq (.region [opD 1 (.box 56 18 (tD 0)), opD 2 (.mov (.const vS))] [[], []] false) (.seq (.block 0 (.join ⟨[3], (.cons (.hole .bool) .nil), [], .nil, [1], [0]⟩
 (.region [opD 4 (.load true 18 (tD 1)), opD 5 (.faddr 0 (tD 1)), opD 6 (.faddr 9 (tD 5)), opD 7 (.load false 1 (tD 6)), oqD 8 (.call 41 [(tD 4), (tD 7)]) (.ent (e41 fu)), mvD 9 8, ogD 10 9 false (.load true 18 (tD 1)), ogD 11 9 false (.faddr 0 (tD 1)), ogD 12 9 false (.faddr 9 (tD 11)), ogD 13 9 false (.load false 1 (tD 12)), (⟨(some 14), (some (9, false)), (.call 42 [(tD 10), (tD 13)])⟩, (.ent (e42 fu))), opD 15 (.pick (tD 9) (.const (.bool true)) (tD 14)), mvD 3 15] [[], [], [1], [2], [0, 3], [4, 4], [5], [5], [7, 5], [8, 5], [6, 9, 5, 5], [5, 10], [11, 10]] false)
 (.cond (.tmp 3) (.seq (.region [opD 16 (.load true 18 (tD 1)), oqD 17 (.call 24 [(tD 16), (.const (.bool true))]) (.ent (e24 fu)), mvD 2 17] [[], [0], [1, 1, 0, 1]] false) .ret) (.seq (.region [opD 19 (.faddr 11 (tD 1)), opD 20 (.faddr 1 (tD 19)), opD 21 (.load false 1 (tD 20)), opD 22 (.faddr 0 (tD 1)), opD 23 (.faddr 3 (tD 22)), opD 24 (.load false 1 (tD 23)), opD 25 (.faddr 0 (tD 1)), opD 26 (.faddr 9 (tD 25)), opD 27 (.load false 1 (tD 26)), opD 28 (.build 2 [vU, vI] [(0, (1, (tD 24))), (1, (1, (tD 27)))]), oqD 29 (.call 43 [(tD 21), (tD 28)]) (.ent (e43 fu)), opD 30 (.not (tD 29)), mvD 18 30] [[], [0], [1], [], [3], [4], [], [6], [7], [5, 8], [2, 9], [10], [11, 10]] false) (.cond (.tmp 18) (.seq (.region [opD 31 (.faddr 0 (tD 1)), opD 32 (.faddr 3 (tD 31)), opD 33 (.load false 1 (tD 32)), opD 34 (.faddr 0 (tD 1)), opD 35 (.faddr 9 (tD 34)), opD 36 (.load false 1 (tD 35)), opD 37 (.build 6 [vI, vU, vI, vI, vI, vI] [(0, (1, (cD 3))), (1, (1, (tD 33))), (2, (1, (tD 36)))]), oqD 38 (.bslice 47 6 1 [vI, vU, vI, vI, vI, vI] [(0, (tD 37))]) (.ty T_api_Action), mvD 2 38] [[], [0], [1], [], [3], [4], [2, 5], [6], [7, 0, 1, 2, 3, 4, 5, 6, 7]] false) .ret) .skip))))) (.seq (.region [opD 39 (.load true 18 (tD 1)), opD 40 (.faddr 0 (tD 1)), opD 41 (.faddr 9 (tD 40)), opD 42 (.load false 1 (tD 41)), oqD 43 (.call 44 [(tD 39), (cD 1), (tD 42)]) (.ent (e44 fu)), mvD 2 43] [[], [], [1], [2], [0, 3], [4, 4, 0, 1, 2, 3, 4]] false) .ret)))
set_option maxRecDepth 1000000 in
theorem v30 (fu : Nat) : evF fu (d30 fu) rs30 44 (e30 fu).ash (e30 fu).osh (e30 fu).vsh = p30 fu := by kernel_rfl
set_option maxRecDepth 1000000 in
theorem b30 (fu : Nat) : BodyD Try.prog 30 44 (d30 fu).erase rs30 := bodyD_mk Try.func30 (by kernel_rfl) (by kernel_rfl) (by kernel_rfl) (by kernel_rfl)
theorem g30 (fu : Nat) : (e30 fu).Good Try.prog := good_by orders (b30 fu) (l := [e41 fu, e42 fu, e24 fu, e43 fu, e44 fu]) (by kernel_rfl) ⟨g41 fu, g42 fu, g24 fu, g43 fu, g44 fu, trivial⟩ (by kernel_rfl) (v30 fu)
def rs31 : List RVx := [(.tmp 2)]
/-- (gazette/plans.view).promote -/
def p31 (fu : Nat) : (Z6) × (Unit) → Option ((Unit) × (List (D_api_Action))) := fun ⟨⟨a, c, f, h, i, j, k, l, m, n, o, q, s, t, u, w, x, y, _⟩, _⟩ =>
Option.bind (p41 fu ((a, c, f, h, i, j, k, l, m, n, o, q, s, t, u, w, x, y, ()), n, ())) fun ⟨_, z⟩ =>
bif z then
 Option.bind (p24 fu ((a, c, f, h, i, j, k, l, m, n, o, q, s, t, u, w, x, y, ()), true, ())) fun ⟨_, a0⟩ =>
 bif decide (List.length a0 = List.length a0) then
 some ((), a0)
 else none
else
 orK (E := ((Bool) × (Unit)) × (Unit))
 (Option.bind (p42 fu ((a, c, f, h, i, j, k, l, m, n, o, q, s, t, u, w, x, y, ()), n, ())) fun ⟨_, c0⟩ =>
 bif c0 then
 some (.inl ((y, ()), ()))
 else
 some (.inl ((false, ()), ())))
 fun ⟨⟨f0, _⟩, _⟩ =>
 bif f0 then
 Option.bind (p44 fu ((a, c, f, h, i, j, k, l, m, n, o, q, s, t, u, w, x, y, ()), (2 : Int), n, ())) fun ⟨_, h0⟩ =>
 bif decide (List.length h0 = List.length h0) then
 some ((), h0)
 else none
 else
 some ((), [((1 : Int), (0 : Int), (0 : Int), (0 : Int), (0 : Int), (0 : Int))])
def e31 (fu : Nat) : Ent := ⟨31, (.cons Y7 .nil), .nil, (.own .own 47 T_api_Action), p31 fu⟩
def d31 (fu : Nat) : DC := (.seq (.region [opD 1 (.box 56 18 (tD 0)), opD 2 (.mov (.const vS))] [[], []] false) (.seq (.block 0 (.seq (.region [opD 4 (.load true 18 (tD 1)), opD 5 (.faddr 0 (tD 1)), opD 6 (.faddr 9 (tD 5)), opD 7 (.load false 1 (tD 6)), oqD 8 (.call 41 [(tD 4), (tD 7)]) (.ent (e41 fu)), mvD 3 8] [[], [], [1], [2], [0, 3], [4, 4]] false) (.cond (.tmp 3) (.seq (.region [opD 9 (.load true 18 (tD 1)), oqD 10 (.call 24 [(tD 9), (.const (.bool true))]) (.ent (e24 fu)), mvD 2 10] [[], [0], [1, 1, 0, 1]] false) .ret) (.join ⟨[11], (.cons (.hole .bool) .nil), [], .nil, [1], [0]⟩
 (.region [opD 12 (.load true 18 (tD 1)), opD 13 (.faddr 0 (tD 1)), opD 14 (.faddr 9 (tD 13)), opD 15 (.load false 1 (tD 14)), oqD 16 (.call 42 [(tD 12), (tD 15)]) (.ent (e42 fu)), mvD 17 16, ogD 18 17 true (.faddr 11 (tD 1)), ogD 19 17 true (.faddr 6 (tD 18)), ogD 20 17 true (.load false 1 (tD 19)), opD 21 (.pick (tD 17) (tD 20) (.const vB)), mvD 11 21] [[], [], [1], [2], [0, 3], [4, 4], [5], [6, 5], [7, 5], [5, 8], [9, 5]] false)
 (.cond (.tmp 11) (.seq (.region [opD 22 (.load true 18 (tD 1)), opD 23 (.faddr 0 (tD 1)), opD 24 (.faddr 9 (tD 23)), opD 25 (.load false 1 (tD 24)), oqD 26 (.call 44 [(tD 22), (cD 2), (tD 25)]) (.ent (e44 fu)), mvD 2 26] [[], [], [1], [2], [0, 3], [4, 4, 0, 1, 2, 3, 4]] false) .ret) .skip))))) (.seq (.region [opD 27 (.build 6 [vI, vU, vI, vI, vI, vI] [(0, (1, (cD 1)))]), oqD 28 (.bslice 47 6 1 [vI, vU, vI, vI, vI, vI] [(0, (tD 27))]) (.ty T_api_Action), mvD 2 28] [[], [0], [1, 0, 1]] false) .ret)))
set_option maxRecDepth 1000000 in
theorem v31 (fu : Nat) : evF fu (d31 fu) rs31 29 (e31 fu).ash (e31 fu).osh (e31 fu).vsh = p31 fu := by kernel_rfl
set_option maxRecDepth 1000000 in
theorem b31 (fu : Nat) : BodyD Try.prog 31 29 (d31 fu).erase rs31 := bodyD_mk Try.func31 (by kernel_rfl) (by kernel_rfl) (by kernel_rfl) (by kernel_rfl)
theorem g31 (fu : Nat) : (e31 fu).Good Try.prog := good_by orders (b31 fu) (l := [e41 fu, e24 fu, e42 fu, e44 fu]) (by kernel_rfl) ⟨g41 fu, g24 fu, g42 fu, g44 fu, trivial⟩ (by kernel_rfl) (v31 fu)
def rs32 : List RVx := [(.tmp 2)]
/-- (gazette/plans.view).remove -/
def p32 (fu : Nat) : (Z6) × (Unit) → Option ((Unit) × (List (D_api_Action))) := fun ⟨⟨a, c, f, h, i, j, k, l, m, n, o, q, s, t, u, w, x, y, _⟩, _⟩ =>
orK (E := ((Bool) × (Unit)) × (Unit))
 (Option.bind (p41 fu ((a, c, f, h, i, j, k, l, m, n, o, q, s, t, u, w, x, y, ()), m, ())) fun ⟨_, z⟩ =>
 bif !z then
 Option.bind (p42 fu ((a, c, f, h, i, j, k, l, m, n, o, q, s, t, u, w, x, y, ()), m, ())) fun ⟨_, a0⟩ =>
 some (.inl ((!a0, ()), ()))
 else
 some (.inl ((false, ()), ())))
 fun ⟨⟨c0, _⟩, _⟩ =>
bif c0 then
 Option.bind (p24 fu ((a, c, f, h, i, j, k, l, m, n, o, q, s, t, u, w, x, y, ()), true, ())) fun ⟨_, f0⟩ =>
 bif decide (List.length f0 = List.length f0) then
 some ((), f0)
 else none
else
 bif (x == m) then
 some ((), [((7 : Int), h, n, (0 : Int), (0 : Int), (0 : Int))])
 else
 Option.bind (p44 fu ((a, c, f, h, i, j, k, l, m, n, o, q, s, t, u, w, x, y, ()), (3 : Int), m, ())) fun ⟨_, h0⟩ =>
 bif decide (List.length h0 = List.length h0) then
 some ((), h0)
 else none
def e32 (fu : Nat) : Ent := ⟨32, (.cons Y7 .nil), .nil, (.own .own 47 T_api_Action), p32 fu⟩
def d32 (fu : Nat) : DC := (.seq (.region [opD 1 (.box 56 18 (tD 0)), opD 2 (.mov (.const vS))] [[], []] false) (.seq (.block 0 (.join ⟨[3], (.cons (.hole .bool) .nil), [], .nil, [1], [0]⟩
 (.region [opD 4 (.load true 18 (tD 1)), opD 5 (.faddr 0 (tD 1)), opD 6 (.faddr 8 (tD 5)), opD 7 (.load false 1 (tD 6)), oqD 8 (.call 41 [(tD 4), (tD 7)]) (.ent (e41 fu)), opD 9 (.not (tD 8)), mvD 10 9, ogD 11 10 true (.load true 18 (tD 1)), ogD 12 10 true (.faddr 0 (tD 1)), ogD 13 10 true (.faddr 8 (tD 12)), ogD 14 10 true (.load false 1 (tD 13)), (⟨(some 15), (some (10, true)), (.call 42 [(tD 11), (tD 14)])⟩, (.ent (e42 fu))), ogD 16 10 true (.not (tD 15)), opD 17 (.pick (tD 10) (tD 16) (.const vB)), mvD 3 17] [[], [], [1], [2], [0, 3], [4], [5, 4], [6], [6], [8, 6], [9, 6], [7, 10, 6, 6], [11, 6], [6, 12], [13, 11]] false)
 (.cond (.tmp 3) (.seq (.region [opD 18 (.load true 18 (tD 1)), oqD 19 (.call 24 [(tD 18), (.const (.bool true))]) (.ent (e24 fu)), mvD 2 19] [[], [0], [1, 1, 0, 1]] false) .ret) (.seq (.region [opD 21 (.faddr 11 (tD 1)), opD 22 (.faddr 5 (tD 21)), opD 23 (.load false 1 (tD 22)), opD 24 (.faddr 0 (tD 1)), opD 25 (.faddr 8 (tD 24)), opD 26 (.load false 1 (tD 25)), opD 27 (.bin .eql (tD 23) (tD 26)), mvD 20 27] [[], [0], [1], [], [3], [4], [2, 5], [6]] false) (.cond (.tmp 20) (.seq (.region [opD 28 (.faddr 0 (tD 1)), opD 29 (.faddr 3 (tD 28)), opD 30 (.load false 1 (tD 29)), opD 31 (.faddr 0 (tD 1)), opD 32 (.faddr 9 (tD 31)), opD 33 (.load false 1 (tD 32)), opD 34 (.build 6 [vI, vU, vI, vI, vI, vI] [(0, (1, (cD 7))), (1, (1, (tD 30))), (2, (1, (tD 33)))]), oqD 35 (.bslice 47 6 1 [vI, vU, vI, vI, vI, vI] [(0, (tD 34))]) (.ty T_api_Action), mvD 2 35] [[], [0], [1], [], [3], [4], [2, 5], [6], [7, 0, 1, 2, 3, 4, 5, 6, 7]] false) .ret) .skip))))) (.seq (.region [opD 36 (.load true 18 (tD 1)), opD 37 (.faddr 0 (tD 1)), opD 38 (.faddr 8 (tD 37)), opD 39 (.load false 1 (tD 38)), oqD 40 (.call 44 [(tD 36), (cD 3), (tD 39)]) (.ent (e44 fu)), mvD 2 40] [[], [], [1], [2], [0, 3], [4, 4, 0, 1, 2, 3, 4]] false) .ret)))
set_option maxRecDepth 1000000 in
theorem v32 (fu : Nat) : evF fu (d32 fu) rs32 41 (e32 fu).ash (e32 fu).osh (e32 fu).vsh = p32 fu := by kernel_rfl
set_option maxRecDepth 1000000 in
theorem b32 (fu : Nat) : BodyD Try.prog 32 41 (d32 fu).erase rs32 := bodyD_mk Try.func32 (by kernel_rfl) (by kernel_rfl) (by kernel_rfl) (by kernel_rfl)
theorem g32 (fu : Nat) : (e32 fu).Good Try.prog := good_by orders (b32 fu) (l := [e41 fu, e42 fu, e24 fu, e44 fu]) (by kernel_rfl) ⟨g41 fu, g42 fu, g24 fu, g44 fu, trivial⟩ (by kernel_rfl) (v32 fu)
def rs33 : List RVx := [(.tmp 2)]
/-- (gazette/plans.view).leave -/
def p33 (fu : Nat) : (Z6) × (Unit) → Option ((Unit) × (List (D_api_Action))) := fun ⟨⟨a, c, f, h, i, j, k, l, m, n, o, q, s, t, u, w, x, y, _⟩, _⟩ =>
Option.bind (p43 fu (t, (h, m, ()), ())) fun ⟨_, z⟩ =>
bif z then
 Option.bind (p24 fu ((a, c, f, h, i, j, k, l, m, n, o, q, s, t, u, w, x, y, ()), true, ())) fun ⟨_, a0⟩ =>
 bif decide (List.length a0 = List.length a0) then
 some ((), a0)
 else none
else
 some ((), [((5 : Int), h, m, (0 : Int), (0 : Int), (0 : Int))])
def e33 (fu : Nat) : Ent := ⟨33, (.cons Y7 .nil), .nil, (.own .own 47 T_api_Action), p33 fu⟩
def d33 (fu : Nat) : DC := (.seq (.region [opD 1 (.box 56 18 (tD 0)), opD 2 (.mov (.const vS))] [[], []] false) (.seq (.seq (.region [opD 3 (.faddr 11 (tD 1)), opD 4 (.faddr 2 (tD 3)), opD 5 (.load false 1 (tD 4)), opD 6 (.faddr 0 (tD 1)), opD 7 (.faddr 3 (tD 6)), opD 8 (.load false 1 (tD 7)), opD 9 (.faddr 0 (tD 1)), opD 10 (.faddr 8 (tD 9)), opD 11 (.load false 1 (tD 10)), opD 12 (.build 2 [vU, vI] [(0, (1, (tD 8))), (1, (1, (tD 11)))]), oqD 13 (.call 43 [(tD 5), (tD 12)]) (.ent (e43 fu))] [[], [0], [1], [], [3], [4], [], [6], [7], [5, 8], [2, 9]] false) (.cond (.tmp 13) (.seq (.region [opD 14 (.load true 18 (tD 1)), oqD 15 (.call 24 [(tD 14), (.const (.bool true))]) (.ent (e24 fu)), mvD 2 15] [[], [0], [1, 1, 0, 1]] false) .ret) .skip)) (.seq (.region [opD 16 (.faddr 0 (tD 1)), opD 17 (.faddr 3 (tD 16)), opD 18 (.load false 1 (tD 17)), opD 19 (.faddr 0 (tD 1)), opD 20 (.faddr 8 (tD 19)), opD 21 (.load false 1 (tD 20)), opD 22 (.build 6 [vI, vU, vI, vI, vI, vI] [(0, (1, (cD 5))), (1, (1, (tD 18))), (2, (1, (tD 21)))]), oqD 23 (.bslice 47 6 1 [vI, vU, vI, vI, vI, vI] [(0, (tD 22))]) (.ty T_api_Action), mvD 2 23] [[], [0], [1], [], [3], [4], [2, 5], [6], [7, 0, 1, 2, 3, 4, 5, 6, 7]] false) .ret)))
set_option maxRecDepth 1000000 in
theorem v33 (fu : Nat) : evF fu (d33 fu) rs33 24 (e33 fu).ash (e33 fu).osh (e33 fu).vsh = p33 fu := by kernel_rfl
set_option maxRecDepth 1000000 in
theorem b33 (fu : Nat) : BodyD Try.prog 33 24 (d33 fu).erase rs33 := bodyD_mk Try.func33 (by kernel_rfl) (by kernel_rfl) (by kernel_rfl) (by kernel_rfl)
theorem g33 (fu : Nat) : (e33 fu).Good Try.prog := good_by orders (b33 fu) (l := [e43 fu, e24 fu]) (by kernel_rfl) ⟨g43 fu, g24 fu, trivial⟩ (by kernel_rfl) (v33 fu)
def rs9 : List RVx := [(.tmp 4), (.tmp 5)]
/-- gazette/plans.Next -/
def p9 (fu : Nat) : (Z1) × ((Z0) × (Unit)) → Option ((Unit) × ((List (D_api_Action)) × ((Int) × (Unit)))) := fun ⟨⟨a, c, f, h, i, j, k, l, m, n, o, _⟩, ⟨q, s, t, u, w, x, y, _⟩, _⟩ =>
Option.bind (p15 fu ((a, c, f, h, i, j, k, l, m, n, o, ()), ())) fun ⟨_, z⟩ =>
bif !z then
 some ((), ([], (191 : Int), ()))
else
 Option.bind (p16 fu ((a, c, f, h, i, j, k, l, m, n, o, q, s, t, u, w, x, y, ()), ())) fun ⟨_, ⟨⟨_, ⟨⟨a0, c0, f0, h0, i0, j0, k0, l0, m0, n0, o0, q0, s0, t0, u0, w0, x0, y0, _⟩, _⟩⟩, ⟨⟨⟨z0, a1, c1, f1, h1, i1, j1, k1, l1, m1, n1, o1, q1, s1, t1, u1, w1, x1, _⟩, _⟩, _⟩, ⟨_, ⟨⟨y1, z1, a2, c2, f2, h2, i2, j2, k2, l2, m2, n2, o2, q2, s2, t2, u2, w2, _⟩, _⟩⟩, ⟨⟨⟨x2, y2, z2, a3, c3, f3, h3, i3, j3, k3, l3, m3, n3, o3, q3, s3, t3, u3, _⟩, _⟩, _⟩, _, ⟨_, ⟨⟨w3, x3, y3, z3, a4, c4, f4, h4, i4, j4, k4, l4, m4, n4, o4, q4, s4, t4, _⟩, _⟩⟩, ⟨_, ⟨⟨u4, w4, x4, y4, z4, a5, c5, f5, h5, i5, j5, k5, l5, m5, n5, o5, q5, s5, _⟩, _⟩⟩, ⟨⟨⟨t5, u5, w5, x5, y5, z5, a6, c6, f6, h6, i6, j6, k6, l6, m6, n6, o6, q6, _⟩, _⟩, _⟩, ⟨_, ⟨⟨s6, t6, u6, w6, x6, y6, z6, a7, c7, f7, h7, i7, j7, k7, l7, m7, n7, o7, _⟩, _⟩⟩, ⟨⟨⟨q7, s7, t7, u7, w7, x7, y7, z7, a8, c8, f8, h8, i8, j8, k8, l8, m8, n8, _⟩, _⟩, _⟩, ⟨⟨⟨o8, q8, s8, t8, u8, w8, x8, y8, z8, a9, c9, f9, h9, i9, j9, k9, l9, m9, _⟩, _⟩, _⟩, ⟨⟨⟨n9, o9, q9, s9, t9, u9, w9, x9, y9, z9, a10, c10, f10, h10, i10, j10, k10, l10, _⟩, _⟩, _⟩, ⟨⟨⟨m10, n10, o10, q10, s10, t10, u10, w10, x10, y10, z10, a11, c11, f11, h11, i11, j11, k11, _⟩, _⟩, _⟩, ⟨_, ⟨⟨l11, m11, n11, o11, q11, s11, t11, u11, w11, x11, y11, z11, a12, c12, f12, h12, i12, j12, _⟩, _⟩⟩, ⟨⟨⟨k12, l12, m12, n12, o12, q12, s12, t12, u12, w12, x12, y12, z12, a13, c13, f13, h13, i13, _⟩, _⟩, _⟩, _⟩⟩ =>
 bif decide ((0 : Int) ≤ IntKind.wrap .i64 (c - (1 : Int)) ∧ IntKind.wrap .i64 (c - (1 : Int)) < (3 : Int)) then
 bif ((IntKind.wrap .i64 (c - (1 : Int))) == (0 : Int)) then
 bif decide ((0 : Int) ≤ o ∧ o < (5 : Int)) then
 bif (o == (0 : Int)) then
 Option.bind (p25 fu ((a0, c0, f0, h0, i0, j0, k0, l0, m0, n0, o0, q0, s0, t0, u0, w0, x0, y0, ()), ())) fun ⟨_, j13⟩ =>
 bif decide (List.length j13 = List.length j13) then
 some ((), (j13, (0 : Int), ()))
 else none
 else
 bif (o == (1 : Int)) then
 Option.bind (p27 fu ((z0, a1, c1, f1, h1, i1, j1, k1, l1, m1, n1, o1, q1, s1, t1, u1, w1, x1, ()), ())) fun ⟨_, k13⟩ =>
 bif decide (List.length k13 = List.length k13) then
 some ((), (k13, (0 : Int), ()))
 else none
 else
 bif (o == (2 : Int)) then
 Option.bind (p23 fu ((y1, z1, a2, c2, f2, h2, i2, j2, k2, l2, m2, n2, o2, q2, s2, t2, u2, w2, ()), ())) fun ⟨_, l13⟩ =>
 bif decide (List.length l13 = List.length l13) then
 some ((), (l13, (0 : Int), ()))
 else none
 else
 bif (o == (3 : Int)) then
 Option.bind (p28 fu ((x2, y2, z2, a3, c3, f3, h3, i3, j3, k3, l3, m3, n3, o3, q3, s3, t3, u3, ()), ())) fun ⟨_, m13⟩ =>
 bif decide (List.length m13 = List.length m13) then
 some ((), (m13, (0 : Int), ()))
 else none
 else
 bif (o == (4 : Int)) then
 none
 else none
 else none
 else
 bif ((IntKind.wrap .i64 (c - (1 : Int))) == (1 : Int)) then
 bif decide ((0 : Int) ≤ o ∧ o < (5 : Int)) then
 bif (o == (0 : Int)) then
 Option.bind (p25 fu ((w3, x3, y3, z3, a4, c4, f4, h4, i4, j4, k4, l4, m4, n4, o4, q4, s4, t4, ()), ())) fun ⟨_, n13⟩ =>
 bif decide (List.length n13 = List.length n13) then
 some ((), (n13, (0 : Int), ()))
 else none
 else
 bif (o == (1 : Int)) then
 Option.bind (p29 fu ((u4, w4, x4, y4, z4, a5, c5, f5, h5, i5, j5, k5, l5, m5, n5, o5, q5, s5, ()), ())) fun ⟨_, o13⟩ =>
 bif decide (List.length o13 = List.length o13) then
 some ((), (o13, (0 : Int), ()))
 else none
 else
 bif (o == (2 : Int)) then
 Option.bind (p27 fu ((t5, u5, w5, x5, y5, z5, a6, c6, f6, h6, i6, j6, k6, l6, m6, n6, o6, q6, ()), ())) fun ⟨_, q13⟩ =>
 bif decide (List.length q13 = List.length q13) then
 some ((), (q13, (0 : Int), ()))
 else none
 else
 bif (o == (3 : Int)) then
 Option.bind (p23 fu ((s6, t6, u6, w6, x6, y6, z6, a7, c7, f7, h7, i7, j7, k7, l7, m7, n7, o7, ()), ())) fun ⟨_, s13⟩ =>
 bif decide (List.length s13 = List.length s13) then
 some ((), (s13, (0 : Int), ()))
 else none
 else
 bif (o == (4 : Int)) then
 Option.bind (p28 fu ((q7, s7, t7, u7, w7, x7, y7, z7, a8, c8, f8, h8, i8, j8, k8, l8, m8, n8, ()), ())) fun ⟨_, t13⟩ =>
 bif decide (List.length t13 = List.length t13) then
 some ((), (t13, (0 : Int), ()))
 else none
 else none
 else none
 else
 bif ((IntKind.wrap .i64 (c - (1 : Int))) == (2 : Int)) then
 bif decide ((0 : Int) ≤ o ∧ o < (5 : Int)) then
 bif (o == (0 : Int)) then
 Option.bind (p30 fu ((o8, q8, s8, t8, u8, w8, x8, y8, z8, a9, c9, f9, h9, i9, j9, k9, l9, m9, ()), ())) fun ⟨_, u13⟩ =>
 bif decide (List.length u13 = List.length u13) then
 some ((), (u13, (0 : Int), ()))
 else none
 else
 bif (o == (1 : Int)) then
 Option.bind (p31 fu ((n9, o9, q9, s9, t9, u9, w9, x9, y9, z9, a10, c10, f10, h10, i10, j10, k10, l10, ()), ())) fun ⟨_, w13⟩ =>
 bif decide (List.length w13 = List.length w13) then
 some ((), (w13, (0 : Int), ()))
 else none
 else
 bif (o == (2 : Int)) then
 Option.bind (p32 fu ((m10, n10, o10, q10, s10, t10, u10, w10, x10, y10, z10, a11, c11, f11, h11, i11, j11, k11, ()), ())) fun ⟨_, x13⟩ =>
 bif decide (List.length x13 = List.length x13) then
 some ((), (x13, (0 : Int), ()))
 else none
 else
 bif (o == (3 : Int)) then
 Option.bind (p23 fu ((l11, m11, n11, o11, q11, s11, t11, u11, w11, x11, y11, z11, a12, c12, f12, h12, i12, j12, ()), ())) fun ⟨_, y13⟩ =>
 bif decide (List.length y13 = List.length y13) then
 some ((), (y13, (0 : Int), ()))
 else none
 else
 bif (o == (4 : Int)) then
 Option.bind (p33 fu ((k12, l12, m12, n12, o12, q12, s12, t12, u12, w12, x12, y12, z12, a13, c13, f13, h13, i13, ()), ())) fun ⟨_, z13⟩ =>
 bif decide (List.length z13 = List.length z13) then
 some ((), (z13, (0 : Int), ()))
 else none
 else none
 else none
 else none
 else none
def e9 (fu : Nat) : Ent := ⟨9, (.cons Y5 (.cons Y9 .nil)), .nil, (.tup 2 (.cons (.own .own 47 T_api_Action) (.cons (.hole (.int .i64)) .nil))), p9 fu⟩
def d9 (fu : Nat) : DC := (.seq (.region [opD 2 (.box 32 11 (tD 0)), opD 3 (.box 38 7 (tD 1)), opD 4 (.mov (.const vS)), opD 5 (.mov (cD 0))] [[], [], [], [2]] false) (.seq (.seq (.region [opD 7 (.load true 11 (tD 2)), oqD 8 (.call 15 [(tD 7)]) (.ent (e15 fu)), opD 9 (.not (tD 8))] [[], [0], [1]] false) (.cond (.tmp 9) (.seq (.region [opD 4 (.mov (.const vS)), opD 5 (.mov (cD 191))] [[], [0, 0]] false) .ret) .skip)) (.seq (.region [opD 10 (.load true 11 (tD 2)), opD 11 (.load true 7 (tD 3)), opD 12 (.build 18 [vU, vI, vT, vU, vU, vT, vS, vS, vI, vI, vI, vS, vS, vS, vS, vS, vI, vB] [(0, (11, (tD 10))), (11, (7, (tD 11)))]), opD 6 (.alloc 56 18 [vU, vI, vT, vU, vU, vT, vS, vS, vI, vI, vI, vS, vS, vS, vS, vS, vI, vB]), onD (.store 18 (tD 6) (tD 12))] [[], [], [0, 1], [], [3, 2, 0, 1, 2, 3]] false) (.seq (.region [opD 13 (.load true 18 (tD 6)), oqD 14 (.call 16 [(tD 13)]) (.ent (e16 fu)), opD 15 (.faddr 1 (tD 2)), opD 16 (.load false 1 (tD 15)), opD 17 (.bin .sub (tD 16) (cD 1)), opD 18 (.pure (.aidx true 5 3) [(tD 14), (tD 17)]), opD 19 (.faddr 10 (tD 2)), opD 20 (.load false 1 (tD 19)), opD 21 (.pure (.aidx false 1 5) [(tD 18), (tD 20)]), oqD 22 (.callv (tD 21) []) (.either (.ent (e25 fu)) (.either (.ent (e27 fu)) (.either (.ent (e23 fu)) (.either (.ent (e28 fu)) (.either (.ent (e29 fu)) (.either (.ent (e30 fu)) (.either (.ent (e31 fu)) (.either (.ent (e32 fu)) (.ent (e33 fu)))))))))), mvD 4 22, opD 5 (.mov (cD 0))] [[], [0], [], [2], [3], [1, 4], [], [6], [5, 7], [8, 1], [9, 9, 0, 1, 2, 3, 4, 5, 6, 7, 8, 9], [10, 0, 1, 2, 3, 4, 5, 6, 7, 8, 9, 10]] true) .ret))))
set_option maxRecDepth 1000000 in
theorem v9 (fu : Nat) : evF fu (d9 fu) rs9 23 (e9 fu).ash (e9 fu).osh (e9 fu).vsh = p9 fu := by kernel_rfl
set_option maxRecDepth 1000000 in
theorem b9 (fu : Nat) : BodyD Try.prog 9 23 (d9 fu).erase rs9 := bodyD_mk Try.func9 (by kernel_rfl) (by kernel_rfl) (by kernel_rfl) (by kernel_rfl)
theorem g9 (fu : Nat) : (e9 fu).Good Try.prog := good_by orders (b9 fu) (l := [e15 fu, e16 fu, e25 fu, e27 fu, e23 fu, e28 fu, e29 fu, e30 fu, e31 fu, e32 fu, e33 fu]) (by kernel_rfl) ⟨g15 fu, g16 fu, g25 fu, g27 fu, g23 fu, g28 fu, g29 fu, g30 fu, g31 fu, g32 fu, g33 fu, trivial⟩ (by kernel_rfl) (v9 fu)
def rs8 : List RVx := [(.tmp 0)]
/-- gazette/gazettelaw19.lives -/
def p8 (fu : Nat) : Unit → Option ((Unit) × (Bool)) := fun _ =>
Option.bind (p10 fu ((0 : Int), ())) fun ⟨_, ⟨a, c, f, h, i, j, k, l, m, n, o, _⟩⟩ =>
bif decide (List.length k = List.length k) then
 bif decide (List.length l = List.length l) then
 Option.bind (p9 fu ((a, c, f, h, i, j, k, l, m, n, o, ()), ([], [], [], [], [], (0 : Int), false, ()), ())) fun ⟨_, ⟨q, s, _⟩⟩ =>
 bif (s == (0 : Int)) then
 bif (((List.length q) : Int) == (1 : Int)) then
 bif decide ((0 : Int) ≤ 0 ∧ 0 < (List.length q : Int)) then
 bif decide (0 < List.length q) then
 bif (((List.getD q 0 (dflt T_api_Action)).1) == (2 : Int)) then
 bif decide ((0 : Int) ≤ 0 ∧ 0 < (List.length q : Int)) then
 bif decide (0 < List.length q) then
 bif ((((List.getD q 0 (dflt T_api_Action)).2).1) == (1 : Int)) then
 Option.bind (p12 fu ((3 : Int), ())) fun ⟨_, t⟩ =>
 some ((), (t == (5 : Int)))
 else
 some ((), false)
 else none
 else none
 else
 some ((), false)
 else none
 else none
 else
 some ((), false)
 else
 some ((), false)
 else none
else none
def e8 (fu : Nat) : Ent := ⟨8, .nil, .nil, (.hole .bool), p8 fu⟩
def d8 (fu : Nat) : DC := (.seq (.region [opD 0 (.mov (.const vB))] [[]] false) (.seq (.region [oqD 4 (.call 10 [(cD 0)]) (.ent (e10 fu)), opD 5 (.build 7 [vS, vS, vS, vS, vS, vI, vB] []), oqD 6 (.call 9 [(tD 4), (tD 5)]) (.ent (e9 fu)), mvD 3 6, opD 7 (.ext (tD 3) 0), opD 8 (.ext (tD 3) 1), mvD 1 7, mvD 2 8] [[], [], [0, 1, 0], [2], [3], [3], [4, 2, 0, 1, 2, 3, 4], [5, 6, 0, 1, 2, 3, 4, 5, 6]] false) (.seq (.region [mvD 9 2, opD 10 (.bin .eql (tD 9) (cD 0)), mvD 11 10, ogD 12 11 true (.mov (tD 1)), ogD 13 11 true (.len false (tD 12)), ogD 14 11 true (.bin .eql (tD 13) (cD 1)), opD 15 (.pick (tD 11) (tD 14) (.const vB)), mvD 16 15, ogD 17 16 true (.mov (tD 1)), ogD 18 16 true (.iaddr 6 (tD 17) (cD 0)), ogD 19 16 true (.faddr 0 (tD 18)), ogD 20 16 true (.load false 1 (tD 19)), ogD 21 16 true (.bin .eql (tD 20) (cD 2)), opD 22 (.pick (tD 16) (tD 21) (.const vB)), mvD 23 22, ogD 24 23 true (.mov (tD 1)), ogD 25 23 true (.iaddr 6 (tD 24) (cD 0)), ogD 26 23 true (.faddr 1 (tD 25)), ogD 27 23 true (.load false 1 (tD 26)), ogD 28 23 true (.bin .eql (tD 27) (.const (.int .u64 1))), opD 29 (.pick (tD 23) (tD 28) (.const vB)), mvD 30 29, (⟨(some 31), (some (30, true)), (.call 12 [(cD 3)])⟩, (.ent (e12 fu))), ogD 32 30 true (.bin .eql (tD 31) (cD 5)), opD 33 (.pick (tD 30) (tD 32) (.const vB)), mvD 0 33] [[], [0], [1], [2], [3, 2], [4, 2], [2, 5], [6, 2], [7], [8, 7], [9, 7], [10, 7], [11, 7], [7, 12], [13, 7], [14], [15, 14], [16, 14], [17, 14], [18, 14], [14, 19], [20, 14], [21, 21], [22, 21], [21, 23], [24, 22, 0, 1, 2, 3, 4, 5, 6, 7, 8, 9, 10, 11, 12, 13, 14, 15, 16, 17, 18, 19, 20, 21, 22, 23, 24]] false) .ret)))
set_option maxRecDepth 1000000 in
theorem v8 (fu : Nat) : evF fu (d8 fu) rs8 34 (e8 fu).ash (e8 fu).osh (e8 fu).vsh = p8 fu := by kernel_rfl
set_option maxRecDepth 1000000 in
theorem b8 (fu : Nat) : BodyD Try.prog 8 34 (d8 fu).erase rs8 := bodyD_mk Try.func8 (by kernel_rfl) (by kernel_rfl) (by kernel_rfl) (by kernel_rfl)
theorem g8 (fu : Nat) : (e8 fu).Good Try.prog := good_by orders (b8 fu) (l := [e10 fu, e9 fu, e12 fu]) (by kernel_rfl) ⟨g10 fu, g9 fu, g12 fu, trivial⟩ (by kernel_rfl) (v8 fu)
def rs11 : List RVx := [(.tmp 4)]
/-- gazette/gazetteref19.Same -/
def p11 (fu : Nat) : (List (D_api_Action)) × ((List (D_api_Action)) × (Unit)) → Option ((Unit) × (Bool)) := fun ⟨a, c, _⟩ =>
bif ((List.length a : Int) != (List.length c : Int)) then
 some ((), false)
else
 loopO (S := ((Int) × (Unit)) × (Unit)) fu (fun ⟨⟨f, _⟩, _⟩ =>
 bif decide (f < (List.length a : Int)) then
 bif decide ((0 : Int) ≤ f ∧ f < (List.length a : Int)) then
 bif decide (Int.toNat f < List.length a) then
 bif decide ((0 : Int) ≤ f ∧ f < (List.length c : Int)) then
 bif decide (Int.toNat f < List.length c) then
 bif !(((List.getD a (Int.toNat f) (dflt T_api_Action)).1) == ((List.getD c (Int.toNat f) (dflt T_api_Action)).1) && ((((List.getD a (Int.toNat f) (dflt T_api_Action)).2).1) == (((List.getD c (Int.toNat f) (dflt T_api_Action)).2).1) && (((((List.getD a (Int.toNat f) (dflt T_api_Action)).2).2).1) == ((((List.getD c (Int.toNat f) (dflt T_api_Action)).2).2).1) && ((((((List.getD a (Int.toNat f) (dflt T_api_Action)).2).2).2).1) == (((((List.getD c (Int.toNat f) (dflt T_api_Action)).2).2).2).1) && (((((((List.getD a (Int.toNat f) (dflt T_api_Action)).2).2).2).2).1) == ((((((List.getD c (Int.toNat f) (dflt T_api_Action)).2).2).2).2).1) && (((((((List.getD a (Int.toNat f) (dflt T_api_Action)).2).2).2).2).2) == ((((((List.getD c (Int.toNat f) (dflt T_api_Action)).2).2).2).2).2) && true)))))) then
 inrO (some ((), false))
 else
 some (.inl ((IntKind.wrap .i64 (f + (1 : Int)), ()), ()))
 else none
 else none
 else none
 else none
 else
 inrO (some ((), true)))
 (((0 : Int), ()), ())
def e11 (fu : Nat) : Ent := ⟨11, (.cons (.hole (.sl T_api_Action)) (.cons (.hole (.sl T_api_Action)) .nil)), .nil, (.hole .bool), p11 fu⟩
def d11 (_ : Nat) : DC := (.seq (.region [opD 4 (.mov (.const vB))] [[]] false) (.seq (.seq (.region [mvD 6 0, opD 7 (.len false (tD 6)), mvD 8 1, opD 9 (.len false (tD 8)), opD 10 (.bin .neq (tD 7) (tD 9))] [[], [0], [], [2], [1, 3]] false) (.cond (.tmp 10) (.seq (.region [opD 4 (.mov (.const vB))] [[]] false) .ret) .skip)) (.seq (.seq (.region [opD 5 (.mov (cD 0))] [[]] false) (.block 0 (.loop ⟨[5], (.cons (.hole (.int .i64)) .nil), [], .nil, [0, 1], []⟩
 (.seq (.seq (.region [mvD 11 5, mvD 12 0, opD 13 (.len false (tD 12)), opD 14 (.bin .lss (tD 11) (tD 13))] [[], [], [1], [0, 2]] false) (.cond (.tmp 14) .skip (.exit 0))) (.seq (.block 1 (.seq (.region [mvD 17 0, mvD 18 5, opD 19 (.iaddr 6 (tD 17) (tD 18)), opD 20 (.load true 6 (tD 19)), mvD 21 1, mvD 22 5, opD 23 (.iaddr 6 (tD 21) (tD 22)), opD 24 (.load true 6 (tD 23)), opD 25 (.seq true [.int, .int, .int, .int, .int, .int] (tD 20) (tD 24))] [[], [], [0, 1], [2], [], [], [4, 5], [6], [3, 7]] true) (.cond (.tmp 25) (.seq (.region [opD 4 (.mov (.const vB))] [[]] false) .ret) .skip))) (.region [mvD 15 5, opD 16 (.bin .add (tD 15) (cD 1)), mvD 5 16] [[], [0], [1, 0, 1]] false)))))) (.seq (.region [opD 4 (.mov (.const (.bool true)))] [[]] false) .ret))))
set_option maxRecDepth 1000000 in
theorem v11 (fu : Nat) : evF fu (d11 fu) rs11 26 (e11 fu).ash (e11 fu).osh (e11 fu).vsh = p11 fu := by kernel_rfl
set_option maxRecDepth 1000000 in
theorem b11 (fu : Nat) : BodyD Try.prog 11 26 (d11 fu).erase rs11 := bodyD_mk Try.func11 (by kernel_rfl) (by kernel_rfl) (by kernel_rfl) (by kernel_rfl)
theorem g11 (fu : Nat) : (e11 fu).Good Try.prog := good_by orders (b11 fu) (l := []) (by kernel_rfl) trivial (by kernel_rfl) (v11 fu)
def rs3 : List RVx := [(.tmp 0)]
/-- gazette/gazettelaw19.PlansNames -/
def p3 (fu : Nat) : Unit → Option ((Unit) × (Bool)) := fun _ =>
Option.bind (p8 fu ()) fun ⟨_, a⟩ =>
Option.bind (p10 fu ((0 : Int), ())) fun ⟨_, ⟨c, f, h, i, j, k, l, m, n, o, q, _⟩⟩ =>
bif decide (List.length l = List.length l) then
 bif decide (List.length m = List.length m) then
 Option.bind (p9 fu ((c, f, h, i, j, k, l, m, n, o, q, ()), ([(1 : Int)], [], [], [], [], (0 : Int), false, ()), ())) fun ⟨_, ⟨s, _, _⟩⟩ =>
 Option.bind (p10 fu ((1 : Int), ())) fun ⟨_, ⟨t, u, w, x, y, z, a0, c0, f0, h0, i0, _⟩⟩ =>
 bif decide (List.length a0 = List.length a0) then
 bif decide (List.length c0 = List.length c0) then
 Option.bind (p9 fu ((t, u, w, x, y, z, a0, c0, f0, h0, i0, ()), ([], [((2 : Int), (1 : Int)), ((2 : Int), (2 : Int))], [], [], [], (0 : Int), false, ()), ())) fun ⟨_, ⟨j0, _, _⟩⟩ =>
 Option.bind (p10 fu ((1 : Int), ())) fun ⟨_, ⟨k0, l0, m0, n0, o0, q0, s0, t0, u0, w0, x0, _⟩⟩ =>
 bif decide (List.length s0 = List.length s0) then
 bif decide (List.length t0 = List.length t0) then
 Option.bind (p9 fu ((k0, l0, m0, n0, o0, q0, s0, t0, u0, w0, x0, ()), ([], [((2 : Int), (1 : Int)), ((2 : Int), (2 : Int)), ((3 : Int), (2 : Int)), ((3 : Int), (3 : Int))], [], [], [], (0 : Int), false, ()), ())) fun ⟨_, ⟨y0, _, _⟩⟩ =>
 Option.bind (p10 fu ((2 : Int), ())) fun ⟨_, ⟨z0, a1, c1, f1, h1, i1, j1, k1, l1, m1, n1, _⟩⟩ =>
 bif decide (List.length j1 = List.length j1) then
 bif decide (List.length k1 = List.length k1) then
 Option.bind (p9 fu ((z0, a1, c1, f1, h1, i1, j1, k1, l1, m1, n1, ()), ([], [], [], [], [], (0 : Int), false, ()), ())) fun ⟨_, ⟨o1, _, _⟩⟩ =>
 Option.bind (p10 fu ((3 : Int), ())) fun ⟨_, ⟨q1, s1, t1, u1, w1, x1, y1, z1, a2, c2, f2, _⟩⟩ =>
 bif decide (List.length y1 = List.length y1) then
 bif decide (List.length z1 = List.length z1) then
 Option.bind (p9 fu ((q1, s1, t1, u1, w1, x1, y1, z1, a2, c2, f2, ()), ([], [], [((1 : Int), (1 : Int))], [], [], (0 : Int), false, ()), ())) fun ⟨_, ⟨h2, _, _⟩⟩ =>
 Option.bind (p9 fu (((0 : Int), (3 : Int), (⟨#[]⟩ : ByteArray), (5 : Int), (0 : Int), (⟨#[]⟩ : ByteArray), [], [(1 : Int), (2 : Int), (3 : Int)], (1 : Int), (4 : Int), (2 : Int), ()), ([], [], [], [(1 : Int), (2 : Int), (3 : Int), (4 : Int)], [], (1 : Int), false, ()), ())) fun ⟨_, ⟨i2, _, _⟩⟩ =>
 Option.bind (p9 fu (((0 : Int), (3 : Int), (⟨#[]⟩ : ByteArray), (5 : Int), (0 : Int), (⟨#[]⟩ : ByteArray), [], [(1 : Int), (2 : Int), (3 : Int)], (1 : Int), (4 : Int), (2 : Int), ()), ([], [], [], [(1 : Int), (2 : Int), (3 : Int), (4 : Int)], [], (2 : Int), false, ()), ())) fun ⟨_, ⟨j2, _, _⟩⟩ =>
 Option.bind (p9 fu (((0 : Int), (0 : Int), (⟨#[]⟩ : ByteArray), (0 : Int), (0 : Int), (⟨#[]⟩ : ByteArray), [], [], (0 : Int), (0 : Int), (0 : Int), ()), ([], [], [], [], [], (0 : Int), false, ()), ())) fun ⟨_, ⟨_, k2, _⟩⟩ =>
 orK (E := ((Bool) × (Unit)) × (Unit))
 (bif decide (List.length s = List.length s) then
 Option.bind (p11 fu (s, [((4 : Int), (0 : Int), (0 : Int), (0 : Int), (0 : Int), (0 : Int))], ())) fun ⟨_, l2⟩ =>
 bif l2 then
 bif decide (List.length j0 = List.length j0) then
 Option.bind (p11 fu (j0, [((3 : Int), (2 : Int), (3 : Int), (0 : Int), (0 : Int), (0 : Int)), ((3 : Int), (3 : Int), (1 : Int), (0 : Int), (0 : Int), (0 : Int)), ((3 : Int), (3 : Int), (2 : Int), (0 : Int), (0 : Int), (0 : Int)), ((3 : Int), (3 : Int), (3 : Int), (0 : Int), (0 : Int), (0 : Int))], ())) fun ⟨_, m2⟩ =>
 some (.inl ((m2, ()), ()))
 else none
 else
 some (.inl ((false, ()), ()))
 else none)
 fun ⟨⟨n2, _⟩, _⟩ =>
 orK (E := ((Bool) × (Unit)) × (Unit))
 (bif decide (List.length y0 = List.length y0) then
 Option.bind (p11 fu (y0, [((4 : Int), (0 : Int), (0 : Int), (1 : Int), (0 : Int), (0 : Int)), ((3 : Int), (2 : Int), (3 : Int), (0 : Int), (0 : Int), (0 : Int)), ((3 : Int), (3 : Int), (1 : Int), (0 : Int), (0 : Int), (0 : Int))], ())) fun ⟨_, o2⟩ =>
 bif o2 then
 bif decide (List.length o1 = List.length o1) then
 Option.bind (p11 fu (o1, [((4 : Int), (0 : Int), (0 : Int), (2 : Int), (0 : Int), (0 : Int))], ())) fun ⟨_, q2⟩ =>
 bif q2 then
 bif decide (List.length h2 = List.length h2) then
 Option.bind (p11 fu (h2, [((5 : Int), (1 : Int), (2 : Int), (0 : Int), (0 : Int), (0 : Int)), ((5 : Int), (1 : Int), (3 : Int), (0 : Int), (0 : Int), (0 : Int))], ())) fun ⟨_, s2⟩ =>
 some (.inl ((s2, ()), ()))
 else none
 else
 some (.inl ((false, ()), ()))
 else none
 else
 some (.inl ((false, ()), ()))
 else none)
 fun ⟨⟨t2, _⟩, _⟩ =>
 orK (E := ((Bool) × (Unit)) × (Unit))
 (bif decide (List.length i2 = List.length i2) then
 Option.bind (p11 fu (i2, [((7 : Int), (5 : Int), (4 : Int), (0 : Int), (0 : Int), (0 : Int))], ())) fun ⟨_, u2⟩ =>
 bif u2 then
 bif decide (List.length j2 = List.length j2) then
 Option.bind (p11 fu (j2, [((6 : Int), (5 : Int), (0 : Int), (0 : Int), (3 : Int), (1 : Int))], ())) fun ⟨_, w2⟩ =>
 some (.inl ((w2, ()), ()))
 else none
 else
 some (.inl ((false, ()), ()))
 else none)
 fun ⟨⟨x2, _⟩, _⟩ =>
 bif a then
 bif n2 then
 bif t2 then
 bif x2 then
 bif (k2 == (191 : Int)) then
 Option.bind (p12 fu ((0 : Int), ())) fun ⟨_, y2⟩ =>
 bif (y2 == (0 : Int)) then
 Option.bind (p12 fu ((1 : Int), ())) fun ⟨_, z2⟩ =>
 bif (z2 == (4 : Int)) then
 Option.bind (p12 fu ((2 : Int), ())) fun ⟨_, a3⟩ =>
 some ((), (a3 == (5 : Int)))
 else
 some ((), false)
 else
 some ((), false)
 else
 some ((), false)
 else
 some ((), false)
 else
 some ((), false)
 else
 some ((), false)
 else
 some ((), false)
 else none
 else none
 else none
 else none
 else none
 else none
 else none
 else none
 else none
else none
def e3 (fu : Nat) : Ent := ⟨3, .nil, .nil, (.hole .bool), p3 fu⟩
def d3 (fu : Nat) : DC := (.seq (.region [opD 0 (.mov (.const vB))] [[]] false) (.seq (.region [oqD 23 (.call 8 []) (.ent (e8 fu)), mvD 1 23] [[], [0, 0, 0]] false) (.seq (.region [oqD 25 (.call 10 [(cD 0)]) (.ent (e10 fu)), oqD 26 (.bslice 27 1 1 [vU] [(0, (.const (.int .u64 1)))]) (.ty (.int .u64)), opD 27 (.build 7 [vS, vS, vS, vS, vS, vI, vB] [(0, (1, (tD 26)))]), oqD 28 (.call 9 [(tD 25), (tD 27)]) (.ent (e9 fu)), mvD 24 28, opD 29 (.ext (tD 24) 0), opD 30 (.ext (tD 24) 1), mvD 2 29, mvD 3 30] [[], [], [1], [0, 2, 0], [3], [4], [4], [5, 3, 0, 1, 2, 3, 4, 5], [6, 7, 0, 1, 2, 3, 4, 5, 6, 7]] false) (.seq (.region [oqD 32 (.call 10 [(cD 1)]) (.ent (e10 fu)), opD 33 (.build 2 [vU, vI] [(0, (1, (.const (.int .u64 2)))), (1, (1, (cD 1)))]), opD 34 (.build 2 [vU, vI] [(0, (1, (.const (.int .u64 2)))), (1, (1, (cD 2)))]), oqD 35 (.bslice 40 2 2 [vU, vI] [(0, (tD 33)), (1, (tD 34))]) (.ty T_api_Site), opD 36 (.build 7 [vS, vS, vS, vS, vS, vI, vB] [(1, (1, (tD 35)))]), oqD 37 (.call 9 [(tD 32), (tD 36)]) (.ent (e9 fu)), mvD 31 37, opD 38 (.ext (tD 31) 0), opD 39 (.ext (tD 31) 1), mvD 4 38, mvD 5 39] [[], [], [], [1, 2], [3], [0, 4, 0], [5], [6], [6], [7, 5, 0, 1, 2, 3, 4, 5, 6, 7], [8, 9, 0, 1, 2, 3, 4, 5, 6, 7, 8, 9]] false) (.seq (.region [oqD 41 (.call 10 [(cD 1)]) (.ent (e10 fu)), opD 42 (.build 2 [vU, vI] [(0, (1, (.const (.int .u64 2)))), (1, (1, (cD 1)))]), opD 43 (.build 2 [vU, vI] [(0, (1, (.const (.int .u64 2)))), (1, (1, (cD 2)))]), opD 44 (.build 2 [vU, vI] [(0, (1, (.const (.int .u64 3)))), (1, (1, (cD 2)))]), opD 45 (.build 2 [vU, vI] [(0, (1, (.const (.int .u64 3)))), (1, (1, (cD 3)))]), oqD 46 (.bslice 40 2 4 [vU, vI] [(0, (tD 42)), (1, (tD 43)), (2, (tD 44)), (3, (tD 45))]) (.ty T_api_Site), opD 47 (.build 7 [vS, vS, vS, vS, vS, vI, vB] [(1, (1, (tD 46)))]), oqD 48 (.call 9 [(tD 41), (tD 47)]) (.ent (e9 fu)), mvD 40 48, opD 49 (.ext (tD 40) 0), opD 50 (.ext (tD 40) 1), mvD 6 49, mvD 7 50] [[], [], [], [], [], [1, 2, 3, 4], [5], [0, 6, 0], [7], [8], [8], [9, 7, 0, 1, 2, 3, 4, 5, 6, 7, 8, 9], [10, 11, 0, 1, 2, 3, 4, 5, 6, 7, 8, 9, 10, 11]] false) (.seq (.region [oqD 52 (.call 10 [(cD 2)]) (.ent (e10 fu)), opD 53 (.build 7 [vS, vS, vS, vS, vS, vI, vB] []), oqD 54 (.call 9 [(tD 52), (tD 53)]) (.ent (e9 fu)), mvD 51 54, opD 55 (.ext (tD 51) 0), opD 56 (.ext (tD 51) 1), mvD 8 55, mvD 9 56] [[], [], [0, 1, 0], [2], [3], [3], [4, 2, 0, 1, 2, 3, 4], [5, 6, 0, 1, 2, 3, 4, 5, 6]] false) (.seq (.region [oqD 58 (.call 10 [(cD 3)]) (.ent (e10 fu)), opD 59 (.build 2 [vU, vI] [(0, (1, (.const (.int .u64 1)))), (1, (1, (cD 1)))]), oqD 60 (.bslice 40 2 1 [vU, vI] [(0, (tD 59))]) (.ty T_api_Site), opD 61 (.build 7 [vS, vS, vS, vS, vS, vI, vB] [(2, (1, (tD 60)))]), oqD 62 (.call 9 [(tD 58), (tD 61)]) (.ent (e9 fu)), mvD 57 62, opD 63 (.ext (tD 57) 0), opD 64 (.ext (tD 57) 1), mvD 10 63, mvD 11 64] [[], [], [1], [2], [0, 3, 0], [4], [5], [5], [6, 4, 0, 1, 2, 3, 4, 5, 6], [7, 8, 0, 1, 2, 3, 4, 5, 6, 7, 8]] false) (.seq (.region [oqD 65 (.bslice 3 1 3 [vI] [(0, (cD 1)), (1, (cD 2)), (2, (cD 3))]) (.ty (.int .i64)), opD 66 (.build 11 [vU, vI, vT, vU, vU, vT, vS, vS, vI, vI, vI] [(1, (1, (cD 3))), (3, (1, (.const (.int .u64 5)))), (7, (1, (tD 65))), (8, (1, (cD 1))), (9, (1, (cD 4))), (10, (1, (cD 2)))]), opD 12 (.alloc 32 11 [vU, vI, vT, vU, vU, vT, vS, vS, vI, vI, vI]), onD (.store 11 (tD 12) (tD 66))] [[], [0], [], [2, 1, 0, 1, 2]] false) (.seq (.region [oqD 67 (.bslice 3 1 4 [vI] [(0, (cD 1)), (1, (cD 2)), (2, (cD 3)), (3, (cD 4))]) (.ty (.int .i64)), opD 68 (.build 2 [vS, vS] [(0, (1, (tD 67)))]), opD 13 (.alloc 36 2 [vS, vS]), onD (.store 2 (tD 13) (tD 68))] [[], [0], [], [2, 1, 0, 1, 2]] false) (.seq (.region [opD 70 (.load true 11 (tD 12)), opD 71 (.load true 2 (tD 13)), opD 72 (.build 7 [vS, vS, vS, vS, vS, vI, vB] [(3, (2, (tD 71))), (5, (1, (cD 1)))]), oqD 73 (.call 9 [(tD 70), (tD 72)]) (.ent (e9 fu)), mvD 69 73, opD 74 (.ext (tD 69) 0), opD 75 (.ext (tD 69) 1), mvD 14 74, mvD 15 75] [[], [], [1], [0, 2], [3], [4], [4], [5, 3, 0, 1, 2, 3, 4, 5], [6, 7, 0, 1, 2, 3, 4, 5, 6, 7]] false) (.seq (.region [opD 77 (.load true 11 (tD 12)), opD 78 (.load true 2 (tD 13)), opD 79 (.build 7 [vS, vS, vS, vS, vS, vI, vB] [(3, (2, (tD 78))), (5, (1, (cD 2)))]), oqD 80 (.call 9 [(tD 77), (tD 79)]) (.ent (e9 fu)), mvD 76 80, opD 81 (.ext (tD 76) 0), opD 82 (.ext (tD 76) 1), mvD 16 81, mvD 17 82] [[], [], [1], [0, 2], [3], [4], [4], [5, 3, 0, 1, 2, 3, 4, 5], [6, 7, 0, 1, 2, 3, 4, 5, 6, 7]] false) (.seq (.region [opD 84 (.build 11 [vU, vI, vT, vU, vU, vT, vS, vS, vI, vI, vI] []), opD 85 (.build 7 [vS, vS, vS, vS, vS, vI, vB] []), oqD 86 (.call 9 [(tD 84), (tD 85)]) (.ent (e9 fu)), mvD 83 86, opD 87 (.ext (tD 83) 0), opD 88 (.ext (tD 83) 1), mvD 18 87, mvD 19 88] [[], [], [0, 1], [2], [3], [3], [4, 2, 0, 1, 2, 3, 4], [5, 6, 0, 1, 2, 3, 4, 5, 6]] false) (.join ⟨[20], (.cons (.hole .bool) .nil), [], .nil, [1, 6, 8, 10, 14, 16, 19], [480, 608, 768, 1040, 1184]⟩
 (.region [mvD 89 2, opD 90 (.build 6 [vI, vU, vI, vI, vI, vI] [(0, (1, (cD 4)))]), oqD 91 (.bslice 47 6 1 [vI, vU, vI, vI, vI, vI] [(0, (tD 90))]) (.ty T_api_Action), oqD 92 (.call 11 [(tD 89), (tD 91)]) (.ent (e11 fu)), mvD 93 92, ogD 94 93 true (.mov (tD 4)), ogD 95 93 true (.build 6 [vI, vU, vI, vI, vI, vI] [(0, (1, (cD 3))), (1, (1, (.const (.int .u64 2)))), (2, (1, (cD 3)))]), ogD 96 93 true (.build 6 [vI, vU, vI, vI, vI, vI] [(0, (1, (cD 3))), (1, (1, (.const (.int .u64 3)))), (2, (1, (cD 1)))]), ogD 97 93 true (.build 6 [vI, vU, vI, vI, vI, vI] [(0, (1, (cD 3))), (1, (1, (.const (.int .u64 3)))), (2, (1, (cD 2)))]), ogD 98 93 true (.build 6 [vI, vU, vI, vI, vI, vI] [(0, (1, (cD 3))), (1, (1, (.const (.int .u64 3)))), (2, (1, (cD 3)))]), (⟨(some 99), (some (93, true)), (.bslice 47 6 4 [vI, vU, vI, vI, vI, vI] [(0, (tD 95)), (1, (tD 96)), (2, (tD 97)), (3, (tD 98))])⟩, (.ty T_api_Action)), (⟨(some 100), (some (93, true)), (.call 11 [(tD 94), (tD 99)])⟩, (.ent (e11 fu))), opD 101 (.pick (tD 93) (tD 100) (.const vB)), mvD 20 101] [[], [], [1], [0, 2], [3, 3], [4], [4], [4], [4], [4], [6, 7, 8, 9, 4], [5, 10, 4, 4], [4, 11], [12, 11, 0, 1, 2, 3, 4, 5, 6, 7, 8, 9, 10, 11, 12]] false)
 (.join ⟨[21], (.cons (.hole .bool) .nil), [], .nil, [1, 14, 16, 19, 20], [1040, 1184]⟩
 (.region [mvD 102 6, opD 103 (.build 6 [vI, vU, vI, vI, vI, vI] [(0, (1, (cD 4))), (3, (1, (cD 1)))]), opD 104 (.build 6 [vI, vU, vI, vI, vI, vI] [(0, (1, (cD 3))), (1, (1, (.const (.int .u64 2)))), (2, (1, (cD 3)))]), opD 105 (.build 6 [vI, vU, vI, vI, vI, vI] [(0, (1, (cD 3))), (1, (1, (.const (.int .u64 3)))), (2, (1, (cD 1)))]), oqD 106 (.bslice 47 6 3 [vI, vU, vI, vI, vI, vI] [(0, (tD 103)), (1, (tD 104)), (2, (tD 105))]) (.ty T_api_Action), oqD 107 (.call 11 [(tD 102), (tD 106)]) (.ent (e11 fu)), mvD 108 107, ogD 109 108 true (.mov (tD 8)), ogD 110 108 true (.build 6 [vI, vU, vI, vI, vI, vI] [(0, (1, (cD 4))), (3, (1, (cD 2)))]), (⟨(some 111), (some (108, true)), (.bslice 47 6 1 [vI, vU, vI, vI, vI, vI] [(0, (tD 110))])⟩, (.ty T_api_Action)), (⟨(some 112), (some (108, true)), (.call 11 [(tD 109), (tD 111)])⟩, (.ent (e11 fu))), opD 113 (.pick (tD 108) (tD 112) (.const vB)), mvD 114 113, ogD 115 114 true (.mov (tD 10)), ogD 116 114 true (.build 6 [vI, vU, vI, vI, vI, vI] [(0, (1, (cD 5))), (1, (1, (.const (.int .u64 1)))), (2, (1, (cD 2)))]), ogD 117 114 true (.build 6 [vI, vU, vI, vI, vI, vI] [(0, (1, (cD 5))), (1, (1, (.const (.int .u64 1)))), (2, (1, (cD 3)))]), (⟨(some 118), (some (114, true)), (.bslice 47 6 2 [vI, vU, vI, vI, vI, vI] [(0, (tD 116)), (1, (tD 117))])⟩, (.ty T_api_Action)), (⟨(some 119), (some (114, true)), (.call 11 [(tD 115), (tD 118)])⟩, (.ent (e11 fu))), opD 120 (.pick (tD 114) (tD 119) (.const vB)), mvD 21 120] [[], [], [], [], [1, 2, 3], [0, 4], [5, 5], [6], [6], [8, 6], [7, 9, 6, 6], [6, 10], [11, 10], [12], [12], [12], [14, 15, 12], [13, 16, 12, 12], [12, 17], [18, 17, 0, 1, 2, 3, 4, 5, 6, 7, 8, 9, 10, 11, 12, 13, 14, 15, 16, 17, 18]] false)
 (.join ⟨[22], (.cons (.hole .bool) .nil), [], .nil, [1, 19, 20, 21], []⟩
 (.region [mvD 121 14, opD 122 (.build 6 [vI, vU, vI, vI, vI, vI] [(0, (1, (cD 7))), (1, (1, (.const (.int .u64 5)))), (2, (1, (cD 4)))]), oqD 123 (.bslice 47 6 1 [vI, vU, vI, vI, vI, vI] [(0, (tD 122))]) (.ty T_api_Action), oqD 124 (.call 11 [(tD 121), (tD 123)]) (.ent (e11 fu)), mvD 125 124, ogD 126 125 true (.mov (tD 16)), ogD 127 125 true (.build 2 [vI, vI] [(0, (1, (cD 3))), (1, (1, (cD 1)))]), ogD 128 125 true (.build 6 [vI, vU, vI, vI, vI, vI] [(0, (1, (cD 6))), (1, (1, (.const (.int .u64 5)))), (4, (2, (tD 127)))]), (⟨(some 129), (some (125, true)), (.bslice 47 6 1 [vI, vU, vI, vI, vI, vI] [(0, (tD 128))])⟩, (.ty T_api_Action)), (⟨(some 130), (some (125, true)), (.call 11 [(tD 126), (tD 129)])⟩, (.ent (e11 fu))), opD 131 (.pick (tD 125) (tD 130) (.const vB)), mvD 22 131] [[], [], [1], [0, 2], [3, 3], [4], [4], [6, 4], [7, 4], [5, 8, 4, 4], [4, 9], [10, 9, 0, 1, 2, 3, 4, 5, 6, 7, 8, 9, 10]] false)
 (.seq (.region [mvD 132 1, mvD 133 132, ogD 134 133 true (.mov (tD 20)), opD 135 (.pick (tD 133) (tD 134) (.const vB)), mvD 136 135, ogD 137 136 true (.mov (tD 21)), opD 138 (.pick (tD 136) (tD 137) (.const vB)), mvD 139 138, ogD 140 139 true (.mov (tD 22)), opD 141 (.pick (tD 139) (tD 140) (.const vB)), mvD 142 141, ogD 143 142 true (.mov (tD 19)), ogD 144 142 true (.bin .eql (tD 143) (cD 191)), opD 145 (.pick (tD 142) (tD 144) (.const vB)), mvD 146 145, (⟨(some 147), (some (146, true)), (.call 12 [(cD 0)])⟩, (.ent (e12 fu))), ogD 148 146 true (.bin .eql (tD 147) (cD 0)), opD 149 (.pick (tD 146) (tD 148) (.const vB)), mvD 150 149, (⟨(some 151), (some (150, true)), (.call 12 [(cD 1)])⟩, (.ent (e12 fu))), ogD 152 150 true (.bin .eql (tD 151) (cD 4)), opD 153 (.pick (tD 150) (tD 152) (.const vB)), mvD 154 153, (⟨(some 155), (some (154, true)), (.call 12 [(cD 2)])⟩, (.ent (e12 fu))), ogD 156 154 true (.bin .eql (tD 155) (cD 5)), opD 157 (.pick (tD 154) (tD 156) (.const vB)), mvD 0 157] [[], [0], [1], [1, 2], [3, 1], [4], [4, 5], [6, 4], [7], [7, 8], [9, 7], [10], [11, 10], [10, 12], [13, 10], [14, 14], [15, 14], [14, 16], [17, 15], [18, 18], [19, 18], [18, 20], [21, 19], [22, 22], [23, 22], [22, 24], [25, 23, 0, 1, 2, 3, 4, 5, 6, 7, 8, 9, 10, 11, 12, 13, 14, 15, 16, 17, 18, 19, 20, 21, 22, 23, 24, 25]] false) .ret))))))))))))))))
set_option maxRecDepth 1000000 in
theorem v3 (fu : Nat) : evF fu (d3 fu) rs3 158 (e3 fu).ash (e3 fu).osh (e3 fu).vsh = p3 fu := by kernel_rfl
set_option maxRecDepth 1000000 in
theorem b3 (fu : Nat) : BodyD Try.prog 3 158 (d3 fu).erase rs3 := bodyD_mk Try.func3 (by kernel_rfl) (by kernel_rfl) (by kernel_rfl) (by kernel_rfl)
theorem g3 (fu : Nat) : (e3 fu).Good Try.prog := good_by orders (b3 fu) (l := [e8 fu, e10 fu, e9 fu, e10 fu, e9 fu, e10 fu, e9 fu, e10 fu, e9 fu, e10 fu, e9 fu, e9 fu, e9 fu, e9 fu, e11 fu, e11 fu, e11 fu, e11 fu, e11 fu, e11 fu, e11 fu, e12 fu, e12 fu, e12 fu]) (by kernel_rfl) ⟨g8 fu, g10 fu, g9 fu, g10 fu, g9 fu, g10 fu, g9 fu, g10 fu, g9 fu, g10 fu, g9 fu, g9 fu, g9 fu, g9 fu, g11 fu, g11 fu, g11 fu, g11 fu, g11 fu, g11 fu, g11 fu, g12 fu, g12 fu, g12 fu, trivial⟩ (by kernel_rfl) (v3 fu)
def rs34 : List RVx := [(.tmp 2)]
/-- gazette/gazetteref18.Nodes -/
def p34 (fu : Nat) : (List (Int)) × (Unit) → Option ((Unit) × (Bool)) := fun ⟨a, _⟩ =>
bif decide ((List.length a : Int) < (1 : Int)) then
 some ((), false)
else
 bif decide ((List.length a : Int) > (7 : Int)) then
 some ((), false)
 else
 loopO (S := ((Int) × (Unit)) × (Unit)) fu (fun ⟨⟨c, _⟩, _⟩ =>
 bif decide (c < (List.length a : Int)) then
 bif decide ((0 : Int) ≤ c ∧ c < (List.length a : Int)) then
 bif decide (Int.toNat c < List.length a) then
 bif decide ((List.getD a (Int.toNat c) (dflt (.int .i64))) < (1 : Int)) then
 inrO (some ((), false))
 else
 bif decide ((0 : Int) ≤ c ∧ c < (List.length a : Int)) then
 bif decide (Int.toNat c < List.length a) then
 bif decide ((List.getD a (Int.toNat c) (dflt (.int .i64))) > (7 : Int)) then
 inrO (some ((), false))
 else
 bif decide (c > (0 : Int)) then
 bif decide ((0 : Int) ≤ IntKind.wrap .i64 (c - (1 : Int)) ∧ IntKind.wrap .i64 (c - (1 : Int)) < (List.length a : Int)) then
 bif decide (Int.toNat (IntKind.wrap .i64 (c - (1 : Int))) < List.length a) then
 bif decide ((0 : Int) ≤ c ∧ c < (List.length a : Int)) then
 bif decide (Int.toNat c < List.length a) then
 bif decide ((List.getD a (Int.toNat (IntKind.wrap .i64 (c - (1 : Int)))) (dflt (.int .i64))) ≥ (List.getD a (Int.toNat c) (dflt (.int .i64)))) then
 inrO (some ((), false))
 else
 some (.inl ((IntKind.wrap .i64 (c + (1 : Int)), ()), ()))
 else none
 else none
 else none
 else none
 else
 some (.inl ((IntKind.wrap .i64 (c + (1 : Int)), ()), ()))
 else none
 else none
 else none
 else none
 else
 inrO (some ((), true)))
 (((0 : Int), ()), ())
def e34 (fu : Nat) : Ent := ⟨34, (.cons (.hole (.sl (.int .i64))) .nil), .nil, (.hole .bool), p34 fu⟩
def d34 (_ : Nat) : DC := (.seq (.region [opD 2 (.mov (.const vB))] [[]] false) (.seq (.seq (.region [mvD 4 0, opD 5 (.len false (tD 4)), opD 6 (.bin .lss (tD 5) (cD 1)), mvD 7 6, ogD 8 7 false (.mov (tD 0)), ogD 9 7 false (.len false (tD 8)), ogD 10 7 false (.bin .gtr (tD 9) (cD 7)), opD 11 (.pick (tD 7) (.const (.bool true)) (tD 10))] [[], [0], [1], [2], [3], [4, 3], [5, 3], [3, 6]] false) (.cond (.tmp 11) (.seq (.region [opD 2 (.mov (.const vB))] [[]] false) .ret) .skip)) (.seq (.seq (.region [opD 3 (.mov (cD 0))] [[]] false) (.block 0 (.loop ⟨[3], (.cons (.hole (.int .i64)) .nil), [], .nil, [0], []⟩
 (.seq (.seq (.region [mvD 12 3, mvD 13 0, opD 14 (.len false (tD 13)), opD 15 (.bin .lss (tD 12) (tD 14))] [[], [], [1], [0, 2]] false) (.cond (.tmp 15) .skip (.exit 0))) (.seq (.block 1 (.seq (.region [mvD 18 0, mvD 19 3, opD 20 (.iaddr 1 (tD 18) (tD 19)), opD 21 (.load false 1 (tD 20)), opD 22 (.bin .lss (tD 21) (cD 1)), mvD 23 22, ogD 24 23 false (.mov (tD 0)), ogD 25 23 false (.mov (tD 3)), ogD 26 23 false (.iaddr 1 (tD 24) (tD 25)), ogD 27 23 false (.load false 1 (tD 26)), ogD 28 23 false (.bin .gtr (tD 27) (cD 7)), opD 29 (.pick (tD 23) (.const (.bool true)) (tD 28)), mvD 30 29, ogD 31 30 false (.mov (tD 3)), ogD 32 30 false (.bin .gtr (tD 31) (cD 0)), ogD 33 30 false (.mov (tD 32)), ogD 34 33 true (.mov (tD 0)), ogD 35 33 true (.mov (tD 3)), ogD 36 33 true (.bin .sub (tD 35) (cD 1)), ogD 37 33 true (.iaddr 1 (tD 34) (tD 36)), ogD 38 33 true (.load false 1 (tD 37)), ogD 39 33 true (.mov (tD 0)), ogD 40 33 true (.mov (tD 3)), ogD 41 33 true (.iaddr 1 (tD 39) (tD 40)), ogD 42 33 true (.load false 1 (tD 41)), ogD 43 33 true (.bin .geq (tD 38) (tD 42)), ogD 44 30 false (.pick (tD 33) (tD 43) (.const vB)), opD 45 (.pick (tD 30) (.const (.bool true)) (tD 44))] [[], [], [0, 1], [2], [3], [4], [5], [5], [6, 7, 5], [8, 5], [9, 5], [5, 10], [11, 5], [12], [13, 12], [14, 12, 12], [15], [15], [17, 15], [16, 18, 15], [19, 15], [15], [15], [21, 22, 15], [23, 15], [20, 24, 15], [15, 25, 12], [12, 26]] true) (.cond (.tmp 45) (.seq (.region [opD 2 (.mov (.const vB))] [[]] false) .ret) .skip))) (.region [mvD 16 3, opD 17 (.bin .add (tD 16) (cD 1)), mvD 3 17] [[], [0], [1, 0, 1]] false)))))) (.seq (.region [opD 2 (.mov (.const (.bool true)))] [[]] false) .ret))))
set_option maxRecDepth 1000000 in
theorem v34 (fu : Nat) : evF fu (d34 fu) rs34 46 (e34 fu).ash (e34 fu).osh (e34 fu).vsh = p34 fu := by kernel_rfl
set_option maxRecDepth 1000000 in
theorem b34 (fu : Nat) : BodyD Try.prog 34 46 (d34 fu).erase rs34 := bodyD_mk Try.func34 (by kernel_rfl) (by kernel_rfl) (by kernel_rfl) (by kernel_rfl)
theorem g34 (fu : Nat) : (e34 fu).Good Try.prog := good_by orders (b34 fu) (l := []) (by kernel_rfl) trivial (by kernel_rfl) (v34 fu)
def rs18 : List RVx := [(.tmp 2)]
/-- gazette/gazetteref18.Steps -/
def p18 (_ : Nat) : (Int) × (Unit) → Option ((Unit) × (Int)) := fun ⟨a, _⟩ =>
bif (a == (1 : Int)) then
 some ((), (4 : Int))
else
 bif (a == (2 : Int)) then
 some ((), (5 : Int))
 else
 bif (a == (3 : Int)) then
 some ((), (5 : Int))
 else
 some ((), (0 : Int))
def e18 (fu : Nat) : Ent := ⟨18, (.cons (.hole (.int .i64)) .nil), .nil, (.hole (.int .i64)), p18 fu⟩
def d18 (_ : Nat) : DC := (.seq (.region [opD 2 (.mov (cD 0))] [[]] false) (.seq (.seq (.region [mvD 3 0] [[]] false) (.block 0 (.seq (.region [opD 5 (.bin .eql (tD 3) (cD 1)), mvD 4 5] [[], [0]] false) (.cond (.tmp 4) (.seq (.region [opD 2 (.mov (cD 4))] [[]] false) .ret) (.seq (.seq (.region [opD 7 (.bin .eql (tD 3) (cD 2)), mvD 6 7] [[], [0]] false) (.cond (.tmp 6) .skip (.region [opD 8 (.bin .eql (tD 3) (cD 3)), mvD 6 8] [[], [0]] false))) (.cond (.tmp 6) (.seq (.region [opD 2 (.mov (cD 5))] [[]] false) .ret) .skip)))))) (.seq (.region [opD 2 (.mov (cD 0))] [[]] false) .ret)))
set_option maxRecDepth 1000000 in
theorem v18 (fu : Nat) : evF fu (d18 fu) rs18 9 (e18 fu).ash (e18 fu).osh (e18 fu).vsh = p18 fu := by kernel_rfl
set_option maxRecDepth 1000000 in
theorem b18 (fu : Nat) : BodyD Try.prog 18 9 (d18 fu).erase rs18 := bodyD_mk Try.func18 (by kernel_rfl) (by kernel_rfl) (by kernel_rfl) (by kernel_rfl)
theorem g18 (fu : Nat) : (e18 fu).Good Try.prog := good_by orders (b18 fu) (l := []) (by kernel_rfl) trivial (by kernel_rfl) (v18 fu)
def rs17 : List RVx := [(.tmp 2)]
/-- gazette/gazetteref19.Is -/
def p17 (fu : Nat) : (Z1) × (Unit) → Option ((Unit) × (Bool)) := fun ⟨⟨_, a, _, _, _, _, c, f, _, _, h, _⟩, _⟩ =>
Option.bind (p34 fu (f, ())) fun ⟨_, i⟩ =>
Option.bind (p18 fu (a, ())) fun ⟨_, j⟩ =>
bif decide (j > (0 : Int)) then
 bif decide (h ≥ (0 : Int)) then
 bif decide (h < j) then
 bif i then
 some ((), ((List.length c : Int) == (IntKind.wrap .i64 ((2 : Int) - (IntKind.wrap .i64 (a - (1 : Int)))))))
 else
 some ((), false)
 else
 some ((), false)
 else
 some ((), false)
else
 some ((), false)
def e17 (fu : Nat) : Ent := ⟨17, (.cons Y5 .nil), .nil, (.hole .bool), p17 fu⟩
def d17 (fu : Nat) : DC := (.seq (.region [opD 1 (.box 32 11 (tD 0)), opD 2 (.mov (.const vB))] [[], []] false) (.seq (.region [opD 6 (.faddr 7 (tD 1)), opD 7 (.load false 1 (tD 6)), oqD 8 (.call 34 [(tD 7)]) (.ent (e34 fu)), mvD 3 8] [[], [0], [1], [2, 2, 0, 1, 2]] false) (.seq (.region [opD 9 (.faddr 1 (tD 1)), opD 10 (.load false 1 (tD 9)), opD 11 (.bin .sub (tD 10) (cD 1)), opD 12 (.bin .sub (cD 2) (tD 11)), mvD 4 12] [[], [0], [1], [2], [3, 0, 1, 2, 3]] false) (.seq (.region [opD 13 (.faddr 1 (tD 1)), opD 14 (.load false 1 (tD 13)), oqD 15 (.call 18 [(tD 14)]) (.ent (e18 fu)), mvD 5 15] [[], [0], [1], [2, 2, 0, 1, 2]] false) (.seq (.region [mvD 16 5, opD 17 (.bin .gtr (tD 16) (cD 0)), mvD 18 17, ogD 19 18 true (.faddr 10 (tD 1)), ogD 20 18 true (.load false 1 (tD 19)), ogD 21 18 true (.bin .geq (tD 20) (cD 0)), opD 22 (.pick (tD 18) (tD 21) (.const vB)), mvD 23 22, ogD 24 23 true (.faddr 10 (tD 1)), ogD 25 23 true (.load false 1 (tD 24)), ogD 26 23 true (.mov (tD 5)), ogD 27 23 true (.bin .lss (tD 25) (tD 26)), opD 28 (.pick (tD 23) (tD 27) (.const vB)), mvD 29 28, ogD 30 29 true (.mov (tD 3)), opD 31 (.pick (tD 29) (tD 30) (.const vB)), mvD 32 31, ogD 33 32 true (.faddr 6 (tD 1)), ogD 34 32 true (.load false 1 (tD 33)), ogD 35 32 true (.len false (tD 34)), ogD 36 32 true (.mov (tD 4)), ogD 37 32 true (.bin .eql (tD 35) (tD 36)), opD 38 (.pick (tD 32) (tD 37) (.const vB)), mvD 2 38] [[], [0], [1], [2], [3, 2], [4, 2], [2, 5], [6, 2], [7], [8, 7], [7], [9, 10, 7], [7, 11], [12, 7], [13], [13, 14], [15, 13], [16], [17, 16], [18, 16], [16], [19, 20, 16], [16, 21], [22, 16, 0, 1, 2, 3, 4, 5, 6, 7, 8, 9, 10, 11, 12, 13, 14, 15, 16, 17, 18, 19, 20, 21, 22]] false) .ret)))))
set_option maxRecDepth 1000000 in
theorem v17 (fu : Nat) : evF fu (d17 fu) rs17 39 (e17 fu).ash (e17 fu).osh (e17 fu).vsh = p17 fu := by kernel_rfl
set_option maxRecDepth 1000000 in
theorem b17 (fu : Nat) : BodyD Try.prog 17 39 (d17 fu).erase rs17 := bodyD_mk Try.func17 (by kernel_rfl) (by kernel_rfl) (by kernel_rfl) (by kernel_rfl)
theorem g17 (fu : Nat) : (e17 fu).Good Try.prog := good_by orders (b17 fu) (l := [e34 fu, e18 fu]) (by kernel_rfl) ⟨g34 fu, g18 fu, trivial⟩ (by kernel_rfl) (v17 fu)
def rs35 : List RVx := [(.tmp 4)]
/-- gazette/gazetteref19.member -/
def p35 (fu : Nat) : (List (Int)) × ((Int) × (Unit)) → Option ((Unit) × (Bool)) := fun ⟨a, c, _⟩ =>
loopO (S := ((Int) × (Unit)) × (Unit)) fu (fun ⟨⟨f, _⟩, _⟩ =>
 bif decide (f < (List.length a : Int)) then
 bif decide ((0 : Int) ≤ f ∧ f < (List.length a : Int)) then
 bif decide (Int.toNat f < List.length a) then
 bif ((List.getD a (Int.toNat f) (dflt (.int .i64))) == c) then
 inrO (some ((), true))
 else
 some (.inl ((IntKind.wrap .i64 (f + (1 : Int)), ()), ()))
 else none
 else none
 else
 inrO (some ((), false)))
 (((0 : Int), ()), ())
def e35 (fu : Nat) : Ent := ⟨35, (.cons (.hole (.sl (.int .i64))) (.cons (.hole (.int .i64)) .nil)), .nil, (.hole .bool), p35 fu⟩
def d35 (_ : Nat) : DC := (.seq (.region [opD 4 (.mov (.const vB))] [[]] false) (.seq (.seq (.region [opD 5 (.mov (cD 0))] [[]] false) (.block 0 (.loop ⟨[5], (.cons (.hole (.int .i64)) .nil), [], .nil, [0, 1], []⟩
 (.seq (.seq (.region [mvD 6 5, mvD 7 0, opD 8 (.len false (tD 7)), opD 9 (.bin .lss (tD 6) (tD 8))] [[], [], [1], [0, 2]] false) (.cond (.tmp 9) .skip (.exit 0))) (.seq (.block 1 (.seq (.region [mvD 12 0, mvD 13 5, opD 14 (.iaddr 1 (tD 12) (tD 13)), opD 15 (.load false 1 (tD 14)), mvD 16 1, opD 17 (.bin .eql (tD 15) (tD 16))] [[], [], [0, 1], [2], [], [3, 4]] false) (.cond (.tmp 17) (.seq (.region [opD 4 (.mov (.const (.bool true)))] [[]] false) .ret) .skip))) (.region [mvD 10 5, opD 11 (.bin .add (tD 10) (cD 1)), mvD 5 11] [[], [0], [1, 0, 1]] false)))))) (.seq (.region [opD 4 (.mov (.const vB))] [[]] false) .ret)))
set_option maxRecDepth 1000000 in
theorem v35 (fu : Nat) : evF fu (d35 fu) rs35 18 (e35 fu).ash (e35 fu).osh (e35 fu).vsh = p35 fu := by kernel_rfl
set_option maxRecDepth 1000000 in
theorem b35 (fu : Nat) : BodyD Try.prog 35 18 (d35 fu).erase rs35 := bodyD_mk Try.func35 (by kernel_rfl) (by kernel_rfl) (by kernel_rfl) (by kernel_rfl)
theorem g35 (fu : Nat) : (e35 fu).Good Try.prog := good_by orders (b35 fu) (l := []) (by kernel_rfl) trivial (by kernel_rfl) (v35 fu)
def rs36 : List RVx := [(.tmp 6)]
/-- gazette/gazetteref19.on -/
def p36 (fu : Nat) : (List (D_api_Site)) × ((Int) × ((Int) × (Unit))) → Option ((Unit) × (Bool)) := fun ⟨a, c, f, _⟩ =>
loopO (S := ((Int) × (Unit)) × (Unit)) fu (fun ⟨⟨h, _⟩, _⟩ =>
 bif decide (h < (List.length a : Int)) then
 bif decide ((0 : Int) ≤ h ∧ h < (List.length a : Int)) then
 bif decide (Int.toNat h < List.length a) then
 bif (((List.getD a (Int.toNat h) (dflt T_api_Site)).1) == c) then
 bif decide ((0 : Int) ≤ h ∧ h < (List.length a : Int)) then
 bif decide (Int.toNat h < List.length a) then
 bif (((List.getD a (Int.toNat h) (dflt T_api_Site)).2) == f) then
 inrO (some ((), true))
 else
 some (.inl ((IntKind.wrap .i64 (h + (1 : Int)), ()), ()))
 else none
 else none
 else
 some (.inl ((IntKind.wrap .i64 (h + (1 : Int)), ()), ()))
 else none
 else none
 else
 inrO (some ((), false)))
 (((0 : Int), ()), ())
def e36 (fu : Nat) : Ent := ⟨36, (.cons (.hole (.sl T_api_Site)) (.cons (.hole (.int .u64)) (.cons (.hole (.int .i64)) .nil))), .nil, (.hole .bool), p36 fu⟩
def d36 (_ : Nat) : DC := (.seq (.region [opD 6 (.mov (.const vB))] [[]] false) (.seq (.seq (.region [opD 7 (.mov (cD 0))] [[]] false) (.block 0 (.loop ⟨[7], (.cons (.hole (.int .i64)) .nil), [], .nil, [0, 1, 2], []⟩
 (.seq (.seq (.region [mvD 8 7, mvD 9 0, opD 10 (.len false (tD 9)), opD 11 (.bin .lss (tD 8) (tD 10))] [[], [], [1], [0, 2]] false) (.cond (.tmp 11) .skip (.exit 0))) (.seq (.block 1 (.seq (.region [mvD 14 0, mvD 15 7, opD 16 (.iaddr 2 (tD 14) (tD 15)), opD 17 (.faddr 0 (tD 16)), opD 18 (.load false 1 (tD 17)), mvD 19 1, opD 20 (.bin .eql (tD 18) (tD 19)), mvD 21 20, ogD 22 21 true (.mov (tD 0)), ogD 23 21 true (.mov (tD 7)), ogD 24 21 true (.iaddr 2 (tD 22) (tD 23)), ogD 25 21 true (.faddr 1 (tD 24)), ogD 26 21 true (.load false 1 (tD 25)), ogD 27 21 true (.mov (tD 2)), ogD 28 21 true (.bin .eql (tD 26) (tD 27)), opD 29 (.pick (tD 21) (tD 28) (.const vB))] [[], [], [0, 1], [2], [3], [], [4, 5], [6], [7], [7], [8, 9, 7], [10, 7], [11, 7], [7], [12, 13, 7], [7, 14]] false) (.cond (.tmp 29) (.seq (.region [opD 6 (.mov (.const (.bool true)))] [[]] false) .ret) .skip))) (.region [mvD 12 7, opD 13 (.bin .add (tD 12) (cD 1)), mvD 7 13] [[], [0], [1, 0, 1]] false)))))) (.seq (.region [opD 6 (.mov (.const vB))] [[]] false) .ret)))
set_option maxRecDepth 1000000 in
theorem v36 (fu : Nat) : evF fu (d36 fu) rs36 30 (e36 fu).ash (e36 fu).osh (e36 fu).vsh = p36 fu := by kernel_rfl
set_option maxRecDepth 1000000 in
theorem b36 (fu : Nat) : BodyD Try.prog 36 30 (d36 fu).erase rs36 := bodyD_mk Try.func36 (by kernel_rfl) (by kernel_rfl) (by kernel_rfl) (by kernel_rfl)
theorem g36 (fu : Nat) : (e36 fu).Good Try.prog := good_by orders (b36 fu) (l := []) (by kernel_rfl) trivial (by kernel_rfl) (v36 fu)
def rs20 : List RVx := [(.tmp 6)]
/-- gazette/gazetteref19.one -/
def p20 (_ : Nat) : (Z1) × ((Bool) × ((Z10) × (Unit))) → Option ((Unit) × (List (D_api_Action))) := fun ⟨⟨_, _, _, _, _, _, _, _, _, _, a, _⟩, c, ⟨f, h, i, j, k, l, _⟩, _⟩ =>
bif c then
 some ((), [((4 : Int), (0 : Int), (0 : Int), a, (0 : Int), (0 : Int))])
else
 some ((), [(f, h, i, j, k, l)])
def e20 (fu : Nat) : Ent := ⟨20, (.cons Y5 (.cons (.hole .bool) (.cons Y11 .nil))), .nil, (.own .own 47 T_api_Action), p20 fu⟩
def d20 (_ : Nat) : DC := (.seq (.region [opD 3 (.box 32 11 (tD 0)), opD 5 (.box 47 6 (tD 2)), opD 6 (.mov (.const vS))] [[], [], []] false) (.seq (.seq (.region [mvD 7 1] [[]] false) (.cond (.tmp 7) (.seq (.region [opD 8 (.faddr 10 (tD 3)), opD 9 (.load false 1 (tD 8)), opD 10 (.build 6 [vI, vU, vI, vI, vI, vI] [(0, (1, (cD 4))), (3, (1, (tD 9)))]), oqD 11 (.bslice 47 6 1 [vI, vU, vI, vI, vI, vI] [(0, (tD 10))]) (.ty T_api_Action), mvD 6 11] [[], [0], [1], [2], [3, 0, 1, 2, 3]] false) .ret) .skip)) (.seq (.region [opD 12 (.load true 6 (tD 5)), oqD 13 (.bslice 47 6 1 [vI, vU, vI, vI, vI, vI] [(0, (tD 12))]) (.ty T_api_Action), mvD 6 13] [[], [0], [1, 0, 1]] false) .ret)))
set_option maxRecDepth 1000000 in
theorem v20 (fu : Nat) : evF fu (d20 fu) rs20 14 (e20 fu).ash (e20 fu).osh (e20 fu).vsh = p20 fu := by kernel_rfl
set_option maxRecDepth 1000000 in
theorem b20 (fu : Nat) : BodyD Try.prog 20 14 (d20 fu).erase rs20 := bodyD_mk Try.func20 (by kernel_rfl) (by kernel_rfl) (by kernel_rfl) (by kernel_rfl)
theorem g20 (fu : Nat) : (e20 fu).Good Try.prog := good_by orders (b20 fu) (l := []) (by kernel_rfl) trivial (by kernel_rfl) (v20 fu)
def rs19 : List RVx := [(.tmp 4)]
/-- gazette/gazetteref19.move -/
def p19 (fu : Nat) : (Z1) × ((Z0) × (Unit)) → Option ((Unit) × (List (D_api_Action))) := fun ⟨⟨a, c, f, h, i, j, k, l, m, n, o, _⟩, ⟨_, q, s, t, u, w, x, _⟩, _⟩ =>
Option.bind (p35 fu (t, n, ())) fun ⟨_, y⟩ =>
Option.bind (p35 fu (u, n, ())) fun ⟨_, z⟩ =>
bif (o == (0 : Int)) then
 Option.bind (p36 fu (q, h, n, ())) fun ⟨_, a0⟩ =>
 bif !a0 then
 bif y then
 Option.bind (p20 fu ((a, c, f, h, i, j, k, l, m, n, o, ()), true, ((3 : Int), h, n, (0 : Int), (0 : Int), (0 : Int), ()), ())) fun ⟨_, c0⟩ =>
 bif decide (List.length c0 = List.length c0) then
 some ((), c0)
 else none
 else
 Option.bind (p20 fu ((a, c, f, h, i, j, k, l, m, n, o, ()), z, ((3 : Int), h, n, (0 : Int), (0 : Int), (0 : Int), ()), ())) fun ⟨_, f0⟩ =>
 bif decide (List.length f0 = List.length f0) then
 some ((), f0)
 else none
 else
 bif y then
 Option.bind (p20 fu ((a, c, f, h, i, j, k, l, m, n, o, ()), true, ((6 : Int), h, (0 : Int), (0 : Int), (1 : Int), n, ()), ())) fun ⟨_, h0⟩ =>
 bif decide (List.length h0 = List.length h0) then
 some ((), h0)
 else none
 else
 Option.bind (p20 fu ((a, c, f, h, i, j, k, l, m, n, o, ()), z, ((6 : Int), h, (0 : Int), (0 : Int), (1 : Int), n, ()), ())) fun ⟨_, i0⟩ =>
 bif decide (List.length i0 = List.length i0) then
 some ((), i0)
 else none
else
 bif (o == (1 : Int)) then
 orK (E := ((Bool) × (Unit)) × (Unit))
 (bif !y then
 bif !z then
 some (.inl ((true, ()), ()))
 else
 some (.inl ((!x, ()), ()))
 else
 some (.inl ((false, ()), ())))
 fun ⟨⟨j0, _⟩, _⟩ =>
 bif j0 then
 some ((), [((1 : Int), (0 : Int), (0 : Int), (0 : Int), (0 : Int), (0 : Int))])
 else
 Option.bind (p20 fu ((a, c, f, h, i, j, k, l, m, n, o, ()), y, ((6 : Int), h, (0 : Int), (0 : Int), (2 : Int), n, ()), ())) fun ⟨_, k0⟩ =>
 bif decide (List.length k0 = List.length k0) then
 some ((), k0)
 else none
 else
 bif (o == (2 : Int)) then
 orK (E := ((Bool) × (Unit)) × (Unit))
 (Option.bind (p35 fu (t, m, ())) fun ⟨_, l0⟩ =>
 bif l0 then
 some (.inl ((true, ()), ()))
 else
 Option.bind (p35 fu (u, m, ())) fun ⟨_, m0⟩ =>
 some (.inl ((m0, ()), ())))
 fun ⟨⟨n0, _⟩, _⟩ =>
 bif (w == m) then
 Option.bind (p20 fu ((a, c, f, h, i, j, k, l, m, n, o, ()), !n0, ((7 : Int), h, n, (0 : Int), (0 : Int), (0 : Int), ()), ())) fun ⟨_, o0⟩ =>
 bif decide (List.length o0 = List.length o0) then
 some ((), o0)
 else none
 else
 Option.bind (p20 fu ((a, c, f, h, i, j, k, l, m, n, o, ()), !n0, ((6 : Int), h, (0 : Int), (0 : Int), (3 : Int), m, ()), ())) fun ⟨_, q0⟩ =>
 bif decide (List.length q0 = List.length q0) then
 some ((), q0)
 else none
 else
 bif (o == (4 : Int)) then
 Option.bind (p36 fu (s, h, m, ())) fun ⟨_, s0⟩ =>
 Option.bind (p20 fu ((a, c, f, h, i, j, k, l, m, n, o, ()), s0, ((5 : Int), h, m, (0 : Int), (0 : Int), (0 : Int), ()), ())) fun ⟨_, t0⟩ =>
 bif decide (List.length t0 = List.length t0) then
 some ((), t0)
 else none
 else
 Option.bind (p20 fu ((a, c, f, h, i, j, k, l, m, n, o, ()), true, ((0 : Int), (0 : Int), (0 : Int), (0 : Int), (0 : Int), (0 : Int), ()), ())) fun ⟨_, u0⟩ =>
 bif decide (List.length u0 = List.length u0) then
 some ((), u0)
 else none
def e19 (fu : Nat) : Ent := ⟨19, (.cons Y5 (.cons Y9 .nil)), .nil, (.own .own 47 T_api_Action), p19 fu⟩
def d19 (fu : Nat) : DC := (.seq (.region [opD 2 (.box 32 11 (tD 0)), opD 3 (.box 38 7 (tD 1)), opD 4 (.mov (.const vS))] [[], [], []] false) (.seq (.region [opD 11 (.faddr 3 (tD 3)), opD 12 (.faddr 0 (tD 11)), opD 13 (.load false 1 (tD 12)), opD 14 (.faddr 9 (tD 2)), opD 15 (.load false 1 (tD 14)), oqD 16 (.call 35 [(tD 13), (tD 15)]) (.ent (e35 fu)), mvD 5 16] [[], [0], [1], [], [3], [2, 4], [5, 5, 0, 1, 2, 3, 4, 5]] false) (.seq (.region [opD 17 (.faddr 3 (tD 3)), opD 18 (.faddr 1 (tD 17)), opD 19 (.load false 1 (tD 18)), opD 20 (.faddr 9 (tD 2)), opD 21 (.load false 1 (tD 20)), oqD 22 (.call 35 [(tD 19), (tD 21)]) (.ent (e35 fu)), mvD 6 22] [[], [0], [1], [], [3], [2, 4], [5, 5, 0, 1, 2, 3, 4, 5]] false) (.seq (.region [opD 23 (.faddr 3 (tD 2)), opD 24 (.load false 1 (tD 23)), opD 25 (.build 6 [vI, vU, vI, vI, vI, vI] [(0, (1, (cD 6))), (1, (1, (tD 24)))]), opD 7 (.alloc 47 6 [vI, vU, vI, vI, vI, vI]), onD (.store 6 (tD 7) (tD 25))] [[], [0], [1], [], [3, 2, 0, 1, 2, 3]] false) (.seq (.seq (.region [opD 26 (.faddr 10 (tD 2)), opD 27 (.load false 1 (tD 26))] [[], [0]] false) (.block 0 (.seq (.region [opD 29 (.bin .eql (tD 27) (cD 0)), mvD 28 29] [[], [0]] false) (.cond (.tmp 28) (.seq (.region [opD 30 (.faddr 1 (tD 3)), opD 31 (.load false 1 (tD 30)), opD 32 (.faddr 3 (tD 2)), opD 33 (.load false 1 (tD 32)), opD 34 (.faddr 9 (tD 2)), opD 35 (.load false 1 (tD 34)), oqD 36 (.call 36 [(tD 31), (tD 33), (tD 35)]) (.ent (e36 fu)), mvD 8 36] [[], [0], [], [2], [], [4], [1, 3, 5], [6, 6, 0, 1, 2, 3, 4, 5, 6]] false) (.seq (.seq (.region [mvD 37 8, opD 38 (.not (tD 37))] [[], [0]] false) (.cond (.tmp 38) (.seq (.region [opD 39 (.load true 11 (tD 2)), mvD 40 5, mvD 41 40, ogD 42 41 false (.mov (tD 6)), opD 43 (.pick (tD 41) (.const (.bool true)) (tD 42)), opD 44 (.faddr 3 (tD 2)), opD 45 (.load false 1 (tD 44)), opD 46 (.faddr 9 (tD 2)), opD 47 (.load false 1 (tD 46)), opD 48 (.build 6 [vI, vU, vI, vI, vI, vI] [(0, (1, (cD 3))), (1, (1, (tD 45))), (2, (1, (tD 47)))]), oqD 49 (.call 20 [(tD 39), (tD 43), (tD 48)]) (.ent (e20 fu)), mvD 4 49] [[], [], [1], [2], [2, 3], [], [5], [], [7], [6, 8], [0, 4, 9, 2], [10, 10, 0, 1, 2, 3, 4, 5, 6, 7, 8, 9, 10]] false) .ret) .skip)) (.seq (.region [opD 50 (.faddr 9 (tD 2)), opD 51 (.load false 1 (tD 50)), opD 52 (.build 2 [vI, vI] [(0, (1, (cD 1))), (1, (1, (tD 51)))]), opD 53 (.faddr 4 (tD 7)), onD (.store 2 (tD 53) (tD 52))] [[], [0], [1], [0, 1, 2], [3, 2, 0, 1, 2]] false) (.seq (.region [opD 54 (.load true 11 (tD 2)), mvD 55 5, mvD 56 55, ogD 57 56 false (.mov (tD 6)), opD 58 (.pick (tD 56) (.const (.bool true)) (tD 57)), opD 59 (.load true 6 (tD 7)), oqD 60 (.call 20 [(tD 54), (tD 58), (tD 59)]) (.ent (e20 fu)), mvD 4 60] [[], [], [1], [2], [2, 3], [], [0, 4, 5, 2], [6, 6, 0, 1, 2, 3, 4, 5, 6]] false) .ret)))) (.seq (.region [opD 62 (.bin .eql (tD 27) (cD 1)), mvD 61 62] [[], [0]] false) (.cond (.tmp 61) (.seq (.join ⟨[73], (.cons (.hole .bool) .nil), [], .nil, [2, 5, 7], [0, 320]⟩
 (.region [mvD 63 5, opD 64 (.not (tD 63)), mvD 65 64, ogD 66 65 true (.mov (tD 6)), ogD 67 65 true (.not (tD 66)), ogD 68 65 true (.mov (tD 67)), ogD 69 68 false (.faddr 6 (tD 3)), ogD 70 68 false (.load false 1 (tD 69)), ogD 71 68 false (.not (tD 70)), ogD 72 65 true (.pick (tD 68) (.const (.bool true)) (tD 71)), opD 73 (.pick (tD 65) (tD 72) (.const vB))] [[], [0], [1], [2], [3, 2], [4, 2, 2], [5], [6, 5], [7, 5], [5, 8, 2], [2, 9]] false)
 (.cond (.tmp 73) (.seq (.region [opD 74 (.build 6 [vI, vU, vI, vI, vI, vI] [(0, (1, (cD 1)))]), oqD 75 (.bslice 47 6 1 [vI, vU, vI, vI, vI, vI] [(0, (tD 74))]) (.ty T_api_Action), mvD 4 75] [[], [0], [1, 0, 1]] false) .ret) .skip)) (.seq (.region [opD 76 (.faddr 9 (tD 2)), opD 77 (.load false 1 (tD 76)), opD 78 (.build 2 [vI, vI] [(0, (1, (cD 2))), (1, (1, (tD 77)))]), opD 79 (.faddr 4 (tD 7)), onD (.store 2 (tD 79) (tD 78))] [[], [0], [1], [0, 1, 2], [3, 2, 0, 1, 2]] false) (.seq (.region [opD 80 (.load true 11 (tD 2)), mvD 81 5, opD 82 (.load true 6 (tD 7)), oqD 83 (.call 20 [(tD 80), (tD 81), (tD 82)]) (.ent (e20 fu)), mvD 4 83] [[], [], [], [0, 1, 2], [3, 3, 0, 1, 2, 3]] false) .ret))) (.seq (.region [opD 85 (.bin .eql (tD 27) (cD 2)), mvD 84 85] [[], [0]] false) (.cond (.tmp 84) (.join ⟨[9], (.cons (.hole .bool) .nil), [], .nil, [2, 3, 7], [0, 16, 320]⟩
 (.region [opD 86 (.faddr 3 (tD 3)), opD 87 (.faddr 0 (tD 86)), opD 88 (.load false 1 (tD 87)), opD 89 (.faddr 8 (tD 2)), opD 90 (.load false 1 (tD 89)), oqD 91 (.call 35 [(tD 88), (tD 90)]) (.ent (e35 fu)), mvD 92 91, ogD 93 92 false (.faddr 3 (tD 3)), ogD 94 92 false (.faddr 1 (tD 93)), ogD 95 92 false (.load false 1 (tD 94)), ogD 96 92 false (.faddr 8 (tD 2)), ogD 97 92 false (.load false 1 (tD 96)), (⟨(some 98), (some (92, false)), (.call 35 [(tD 95), (tD 97)])⟩, (.ent (e35 fu))), opD 99 (.pick (tD 92) (.const (.bool true)) (tD 98)), mvD 9 99] [[], [0], [1], [], [3], [2, 4], [5, 5], [6], [7, 6], [8, 6], [6], [10, 6], [9, 11, 6, 6], [6, 12], [13, 12, 0, 1, 2, 3, 4, 5, 6, 7, 8, 9, 10, 11, 12, 13]] false)
 (.seq (.seq (.region [opD 100 (.faddr 5 (tD 3)), opD 101 (.load false 1 (tD 100)), opD 102 (.faddr 8 (tD 2)), opD 103 (.load false 1 (tD 102)), opD 104 (.bin .eql (tD 101) (tD 103))] [[], [0], [], [2], [1, 3]] false) (.cond (.tmp 104) (.seq (.region [opD 105 (.load true 11 (tD 2)), mvD 106 9, opD 107 (.not (tD 106)), opD 108 (.faddr 3 (tD 2)), opD 109 (.load false 1 (tD 108)), opD 110 (.faddr 9 (tD 2)), opD 111 (.load false 1 (tD 110)), opD 112 (.build 6 [vI, vU, vI, vI, vI, vI] [(0, (1, (cD 7))), (1, (1, (tD 109))), (2, (1, (tD 111)))]), oqD 113 (.call 20 [(tD 105), (tD 107), (tD 112)]) (.ent (e20 fu)), mvD 4 113] [[], [], [1], [], [3], [], [5], [4, 6], [0, 2, 7], [8, 8, 0, 1, 2, 3, 4, 5, 6, 7, 8]] false) .ret) .skip)) (.seq (.region [opD 114 (.faddr 8 (tD 2)), opD 115 (.load false 1 (tD 114)), opD 116 (.build 2 [vI, vI] [(0, (1, (cD 3))), (1, (1, (tD 115)))]), opD 117 (.faddr 4 (tD 7)), onD (.store 2 (tD 117) (tD 116))] [[], [0], [1], [0, 1, 2], [3, 2, 0, 1, 2]] false) (.seq (.region [opD 118 (.load true 11 (tD 2)), mvD 119 9, opD 120 (.not (tD 119)), opD 121 (.load true 6 (tD 7)), oqD 122 (.call 20 [(tD 118), (tD 120), (tD 121)]) (.ent (e20 fu)), mvD 4 122] [[], [], [1], [], [0, 2, 3], [4, 4, 0, 1, 2, 3, 4]] false) .ret)))) (.seq (.region [opD 124 (.bin .eql (tD 27) (cD 4)), mvD 123 124] [[], [0]] false) (.cond (.tmp 123) (.seq (.region [opD 125 (.faddr 2 (tD 3)), opD 126 (.load false 1 (tD 125)), opD 127 (.faddr 3 (tD 2)), opD 128 (.load false 1 (tD 127)), opD 129 (.faddr 8 (tD 2)), opD 130 (.load false 1 (tD 129)), oqD 131 (.call 36 [(tD 126), (tD 128), (tD 130)]) (.ent (e36 fu)), mvD 10 131] [[], [0], [], [2], [], [4], [1, 3, 5], [6, 6, 0, 1, 2, 3, 4, 5, 6]] false) (.seq (.region [opD 132 (.load true 11 (tD 2)), mvD 133 10, opD 134 (.faddr 3 (tD 2)), opD 135 (.load false 1 (tD 134)), opD 136 (.faddr 8 (tD 2)), opD 137 (.load false 1 (tD 136)), opD 138 (.build 6 [vI, vU, vI, vI, vI, vI] [(0, (1, (cD 5))), (1, (1, (tD 135))), (2, (1, (tD 137)))]), oqD 139 (.call 20 [(tD 132), (tD 133), (tD 138)]) (.ent (e20 fu)), mvD 4 139] [[], [], [], [2], [], [4], [3, 5], [0, 1, 6], [7, 7, 0, 1, 2, 3, 4, 5, 6, 7]] false) .ret)) .skip)))))))))) (.seq (.region [opD 140 (.load true 11 (tD 2)), opD 141 (.build 6 [vI, vU, vI, vI, vI, vI] []), oqD 142 (.call 20 [(tD 140), (.const (.bool true)), (tD 141)]) (.ent (e20 fu)), mvD 4 142] [[], [], [0, 1], [2, 2, 0, 1, 2]] false) .ret))))))
set_option maxRecDepth 1000000 in
theorem v19 (fu : Nat) : evF fu (d19 fu) rs19 143 (e19 fu).ash (e19 fu).osh (e19 fu).vsh = p19 fu := by kernel_rfl
set_option maxRecDepth 1000000 in
theorem b19 (fu : Nat) : BodyD Try.prog 19 143 (d19 fu).erase rs19 := bodyD_mk Try.func19 (by kernel_rfl) (by kernel_rfl) (by kernel_rfl) (by kernel_rfl)
theorem g19 (fu : Nat) : (e19 fu).Good Try.prog := good_by orders (b19 fu) (l := [e35 fu, e35 fu, e36 fu, e20 fu, e20 fu, e20 fu, e35 fu, e35 fu, e20 fu, e20 fu, e36 fu, e20 fu, e20 fu]) (by kernel_rfl) ⟨g35 fu, g35 fu, g36 fu, g20 fu, g20 fu, g20 fu, g35 fu, g35 fu, g20 fu, g20 fu, g36 fu, g20 fu, g20 fu, trivial⟩ (by kernel_rfl) (v19 fu)
def rs21 : List RVx := [(.tmp 4)]
/-- gazette/gazetteref19.frozen -/
def p21 (fu : Nat) : (Z0) × ((Int) × (Unit)) → Option ((Unit) × (Bool)) := fun ⟨⟨a, _, _, _, _, _, _, _⟩, c, _⟩ =>
loopO (S := ((Int) × (Unit)) × (Unit)) fu (fun ⟨⟨f, _⟩, _⟩ =>
 bif decide (f < (List.length a : Int)) then
 bif decide ((0 : Int) ≤ f ∧ f < (List.length a : Int)) then
 bif decide (Int.toNat f < List.length a) then
 bif ((List.getD a (Int.toNat f) (dflt (.int .u64))) == c) then
 inrO (some ((), true))
 else
 some (.inl ((IntKind.wrap .i64 (f + (1 : Int)), ()), ()))
 else none
 else none
 else
 inrO (some ((), false)))
 (((0 : Int), ()), ())
def e21 (fu : Nat) : Ent := ⟨21, (.cons Y9 (.cons (.hole (.int .u64)) .nil)), .nil, (.hole .bool), p21 fu⟩
def d21 (_ : Nat) : DC := (.seq (.region [opD 2 (.box 38 7 (tD 0)), opD 4 (.mov (.const vB))] [[], []] false) (.seq (.seq (.region [opD 5 (.mov (cD 0))] [[]] false) (.block 0 (.loop ⟨[5], (.cons (.hole (.int .i64)) .nil), [], .nil, [1, 2], [0]⟩
 (.seq (.seq (.region [mvD 6 5, opD 7 (.faddr 0 (tD 2)), opD 8 (.load false 1 (tD 7)), opD 9 (.len false (tD 8)), opD 10 (.bin .lss (tD 6) (tD 9))] [[], [], [1], [2], [0, 3]] false) (.cond (.tmp 10) .skip (.exit 0))) (.seq (.block 1 (.seq (.region [opD 13 (.faddr 0 (tD 2)), opD 14 (.load false 1 (tD 13)), mvD 15 5, opD 16 (.iaddr 1 (tD 14) (tD 15)), opD 17 (.load false 1 (tD 16)), mvD 18 1, opD 19 (.bin .eql (tD 17) (tD 18))] [[], [0], [], [1, 2], [3], [], [4, 5]] false) (.cond (.tmp 19) (.seq (.region [opD 4 (.mov (.const (.bool true)))] [[]] false) .ret) .skip))) (.region [mvD 11 5, opD 12 (.bin .add (tD 11) (cD 1)), mvD 5 12] [[], [0], [1, 0, 1]] false)))))) (.seq (.region [opD 4 (.mov (.const vB))] [[]] false) .ret)))
set_option maxRecDepth 1000000 in
theorem v21 (fu : Nat) : evF fu (d21 fu) rs21 20 (e21 fu).ash (e21 fu).osh (e21 fu).vsh = p21 fu := by kernel_rfl
set_option maxRecDepth 1000000 in
theorem b21 (fu : Nat) : BodyD Try.prog 21 20 (d21 fu).erase rs21 := bodyD_mk Try.func21 (by kernel_rfl) (by kernel_rfl) (by kernel_rfl) (by kernel_rfl)
theorem g21 (fu : Nat) : (e21 fu).Good Try.prog := good_by orders (b21 fu) (l := []) (by kernel_rfl) trivial (by kernel_rfl) (v21 fu)
def rs37 : List RVx := [(.tmp 6)]
/-- gazette/gazetteref19.most -/
def p37 (fu : Nat) : (List (D_api_Site)) × ((Int) × ((List (Int)) × (Unit))) → Option ((Unit) × (Bool)) := fun ⟨a, c, f, _⟩ =>
loopO (S := ((Int) × ((Int) × (Unit))) × (Unit)) fu (fun ⟨⟨h, i, _⟩, _⟩ =>
 bif decide (i < (List.length f : Int)) then
 bif decide ((0 : Int) ≤ i ∧ i < (List.length f : Int)) then
 bif decide (Int.toNat i < List.length f) then
 Option.bind (p36 fu (a, c, (List.getD f (Int.toNat i) (dflt (.int .i64))), ())) fun ⟨_, j⟩ =>
 bif j then
 some (.inl ((IntKind.wrap .i64 (h + (1 : Int)), IntKind.wrap .i64 (i + (1 : Int)), ()), ()))
 else
 some (.inl ((h, IntKind.wrap .i64 (i + (1 : Int)), ()), ()))
 else none
 else none
 else
 inrO (some ((), decide ((IntKind.wrap .i64 ((2 : Int) * h)) > (List.length f : Int)))))
 (((0 : Int), (0 : Int), ()), ())
def e37 (fu : Nat) : Ent := ⟨37, (.cons (.hole (.sl T_api_Site)) (.cons (.hole (.int .u64)) (.cons (.hole (.sl (.int .i64))) .nil))), .nil, (.hole .bool), p37 fu⟩
def d37 (fu : Nat) : DC := (.seq (.region [opD 6 (.mov (.const vB))] [[]] false) (.seq (.region [opD 7 (.mov (cD 0))] [[]] false) (.seq (.seq (.region [opD 8 (.mov (cD 0))] [[]] false) (.block 0 (.loop ⟨[7, 8], (.cons (.hole (.int .i64)) (.cons (.hole (.int .i64)) .nil)), [], .nil, [0, 1, 2], []⟩
 (.seq (.seq (.region [mvD 10 8, mvD 11 2, opD 12 (.len false (tD 11)), opD 13 (.bin .lss (tD 10) (tD 12))] [[], [], [1], [0, 2]] false) (.cond (.tmp 13) .skip (.exit 0))) (.seq (.block 1 (.seq (.region [mvD 16 0, mvD 17 1, mvD 18 2, mvD 19 8, opD 20 (.iaddr 1 (tD 18) (tD 19)), opD 21 (.load false 1 (tD 20)), oqD 22 (.call 36 [(tD 16), (tD 17), (tD 21)]) (.ent (e36 fu)), mvD 9 22] [[], [], [], [], [2, 3], [4], [0, 1, 5], [6, 6, 0, 1, 2, 3, 4, 5, 6]] false) (.seq (.region [mvD 23 9] [[]] false) (.cond (.tmp 23) (.region [mvD 24 7, opD 25 (.bin .add (tD 24) (cD 1)), mvD 7 25] [[], [0], [1, 0, 1]] false) .skip)))) (.region [mvD 14 8, opD 15 (.bin .add (tD 14) (cD 1)), mvD 8 15] [[], [0], [1, 0, 1]] false)))))) (.seq (.region [mvD 26 7, opD 27 (.bin .mul (cD 2) (tD 26)), mvD 28 2, opD 29 (.len false (tD 28)), opD 30 (.bin .gtr (tD 27) (tD 29)), mvD 6 30] [[], [0], [], [2], [1, 3], [4, 0, 1, 2, 3, 4]] false) .ret))))
set_option maxRecDepth 1000000 in
theorem v37 (fu : Nat) : evF fu (d37 fu) rs37 31 (e37 fu).ash (e37 fu).osh (e37 fu).vsh = p37 fu := by kernel_rfl
set_option maxRecDepth 1000000 in
theorem b37 (fu : Nat) : BodyD Try.prog 37 31 (d37 fu).erase rs37 := bodyD_mk Try.func37 (by kernel_rfl) (by kernel_rfl) (by kernel_rfl) (by kernel_rfl)
theorem g37 (fu : Nat) : (e37 fu).Good Try.prog := good_by orders (b37 fu) (l := [e36 fu]) (by kernel_rfl) ⟨g36 fu, trivial⟩ (by kernel_rfl) (v37 fu)
def rs22 : List RVx := [(.tmp 8)]
/-- gazette/gazetteref19.sites -/
def p22 (fu : Nat) : (Z1) × ((List (Int)) × ((List (D_api_Site)) × ((Int) × (Unit)))) → Option ((Unit) × (List (D_api_Action))) := fun ⟨⟨_, _, _, _, _, _, _, a, _, _, c, _⟩, f, h, i, _⟩ =>
loopO (S := ((Bool) × ((List (D_api_Action)) × ((Int) × (Unit)))) × (Unit)) fu (fun ⟨⟨j, k, l, _⟩, _⟩ =>
 bif decide (l < (List.length f : Int)) then
 bif decide ((0 : Int) ≤ l ∧ l < (List.length f : Int)) then
 bif decide (Int.toNat l < List.length f) then
 Option.bind (p37 fu (h, (List.getD f (Int.toNat l) (dflt (.int .u64))), a, ())) fun ⟨_, m⟩ =>
 orK (E := ((Bool) × (Unit)) × (Unit))
 (bif j then
 some (.inl ((m, ()), ()))
 else
 some (.inl ((false, ()), ())))
 fun ⟨⟨j, _⟩, _⟩ =>
 bif decide (List.length k = List.length k) then
 loopO (S := ((List (D_api_Action)) × ((Int) × (Unit))) × (Unit)) fu (fun ⟨⟨k, n, _⟩, _⟩ =>
 bif decide (n < (List.length a : Int)) then
 bif decide ((0 : Int) ≤ l ∧ l < (List.length f : Int)) then
 bif decide (Int.toNat l < List.length f) then
 bif decide ((0 : Int) ≤ n ∧ n < (List.length a : Int)) then
 bif decide (Int.toNat n < List.length a) then
 Option.bind (p36 fu (h, (List.getD f (Int.toNat l) (dflt (.int .u64))), (List.getD a (Int.toNat n) (dflt (.int .i64))), ())) fun ⟨_, o⟩ =>
 bif !o then
 bif decide ((0 : Int) ≤ l ∧ l < (List.length f : Int)) then
 bif decide (Int.toNat l < List.length f) then
 bif decide ((0 : Int) ≤ n ∧ n < (List.length a : Int)) then
 bif decide (Int.toNat n < List.length a) then
 bif decide (List.length k = List.length k) then
 bif decide (List.length k + List.length ([(i, (List.getD f (Int.toNat l) (dflt (.int .u64))), (List.getD a (Int.toNat n) (dflt (.int .i64))), (0 : Int), (0 : Int), (0 : Int))]) ≤ maxLen ∧ (List.length k + List.length ([(i, (List.getD f (Int.toNat l) (dflt (.int .u64))), (List.getD a (Int.toNat n) (dflt (.int .i64))), (0 : Int), (0 : Int), (0 : Int))])) * 48 ≤ 140737488355328) then
 bif decide (List.length (k ++ [(i, (List.getD f (Int.toNat l) (dflt (.int .u64))), (List.getD a (Int.toNat n) (dflt (.int .i64))), (0 : Int), (0 : Int), (0 : Int))]) = List.length (k ++ [(i, (List.getD f (Int.toNat l) (dflt (.int .u64))), (List.getD a (Int.toNat n) (dflt (.int .i64))), (0 : Int), (0 : Int), (0 : Int))])) then
 some (.inl (((k ++ [(i, (List.getD f (Int.toNat l) (dflt (.int .u64))), (List.getD a (Int.toNat n) (dflt (.int .i64))), (0 : Int), (0 : Int), (0 : Int))]), IntKind.wrap .i64 (n + (1 : Int)), ()), ()))
 else none
 else none
 else none
 else none
 else none
 else none
 else none
 else
 bif decide (List.length k = List.length k) then
 some (.inl ((k, IntKind.wrap .i64 (n + (1 : Int)), ()), ()))
 else none
 else none
 else none
 else none
 else none
 else
 inrO (bif decide (List.length k = List.length k) then
 some (.inl ((j, k, IntKind.wrap .i64 (l + (1 : Int)), ()), ()))
 else none))
 ((k, (0 : Int), ()), ())
 else none
 else none
 else none
 else
 inrO (bif j then
 bif decide (1 = List.length ([((4 : Int), (0 : Int), (0 : Int), c, (0 : Int), (0 : Int))])) then
 bif decide (List.length k = List.length k) then
 bif decide (List.length ([((4 : Int), (0 : Int), (0 : Int), c, (0 : Int), (0 : Int))]) + List.length k ≤ maxLen ∧ (List.length ([((4 : Int), (0 : Int), (0 : Int), c, (0 : Int), (0 : Int))]) + List.length k) * 48 ≤ 140737488355328) then
 bif decide (List.length ([((4 : Int), (0 : Int), (0 : Int), c, (0 : Int), (0 : Int))] ++ k) = List.length ([((4 : Int), (0 : Int), (0 : Int), c, (0 : Int), (0 : Int))] ++ k)) then
 some ((), ([((4 : Int), (0 : Int), (0 : Int), c, (0 : Int), (0 : Int))] ++ k))
 else none
 else none
 else none
 else none
 else
 bif decide (List.length k = List.length k) then
 some ((), k)
 else none))
 ((true, [], (0 : Int), ()), ())
def e22 (fu : Nat) : Ent := ⟨22, (.cons Y5 (.cons (.hole (.sl (.int .u64))) (.cons (.hole (.sl T_api_Site)) (.cons (.hole (.int .i64)) .nil)))), .nil, (.own .own 47 T_api_Action), p22 fu⟩
def d22 (fu : Nat) : DC := (.seq (.region [opD 4 (.box 32 11 (tD 0)), opD 8 (.mov (.const vS))] [[], []] false) (.seq (.region [opD 9 (.mov (.const (.bool true)))] [[]] false) (.seq (.region [opD 10 (.mov (.const vS))] [[]] false) (.seq (.seq (.region [opD 11 (.mov (cD 0))] [[]] false) (.block 0 (.loop ⟨[9, 10, 11], (.cons (.hole .bool) (.cons (.own .own 47 T_api_Action) (.cons (.hole (.int .i64)) .nil))), [], .nil, [1, 2, 3, 4], [0]⟩
 (.seq (.seq (.region [mvD 15 11, mvD 16 1, opD 17 (.len false (tD 16)), opD 18 (.bin .lss (tD 15) (tD 17))] [[], [], [1], [0, 2]] false) (.cond (.tmp 18) .skip (.exit 0))) (.seq (.block 1 (.seq (.region [mvD 21 2, mvD 22 1, mvD 23 11, opD 24 (.iaddr 1 (tD 22) (tD 23)), opD 25 (.load false 1 (tD 24)), opD 26 (.faddr 7 (tD 4)), opD 27 (.load false 1 (tD 26)), oqD 28 (.call 37 [(tD 21), (tD 25), (tD 27)]) (.ent (e37 fu)), mvD 12 28] [[], [], [], [1, 2], [3], [], [5], [0, 4, 6], [7, 7, 0, 1, 2, 3, 4, 5, 6, 7]] true) (.join ⟨[9], (.cons (.hole .bool) .nil), [], .nil, [1, 2, 3, 4, 10, 11], [0, 80]⟩
 (.region [mvD 29 9, mvD 30 29, ogD 31 30 true (.mov (tD 12)), opD 32 (.pick (tD 30) (tD 31) (.const vB)), mvD 9 32] [[], [0], [1], [1, 2], [3, 1, 0, 1, 2, 3]] false)
 (.seq (.region [opD 13 (.mov (cD 0))] [[]] false) (.block 2 (.loop ⟨[10, 13], (.cons (.own .own 47 T_api_Action) (.cons (.hole (.int .i64)) .nil)), [], .nil, [1, 2, 3, 4, 9, 11], [0]⟩
 (.seq (.seq (.region [mvD 33 13, opD 34 (.faddr 7 (tD 4)), opD 35 (.load false 1 (tD 34)), opD 36 (.len false (tD 35)), opD 37 (.bin .lss (tD 33) (tD 36))] [[], [], [1], [2], [0, 3]] false) (.cond (.tmp 37) .skip (.exit 2))) (.seq (.block 3 (.seq (.region [mvD 40 2, mvD 41 1, mvD 42 11, opD 43 (.iaddr 1 (tD 41) (tD 42)), opD 44 (.load false 1 (tD 43)), opD 45 (.faddr 7 (tD 4)), opD 46 (.load false 1 (tD 45)), mvD 47 13, opD 48 (.iaddr 1 (tD 46) (tD 47)), opD 49 (.load false 1 (tD 48)), oqD 50 (.call 36 [(tD 40), (tD 44), (tD 49)]) (.ent (e36 fu)), mvD 14 50] [[], [], [], [1, 2], [3], [], [5], [], [6, 7], [8], [0, 4, 9], [10, 10, 0, 1, 2, 3, 4, 5, 6, 7, 8, 9, 10]] true) (.seq (.region [mvD 51 14, opD 52 (.not (tD 51))] [[], [0]] false) (.cond (.tmp 52) (.region [mvD 53 10, mvD 54 3, mvD 55 1, mvD 56 11, opD 57 (.iaddr 1 (tD 55) (tD 56)), opD 58 (.load false 1 (tD 57)), opD 59 (.faddr 7 (tD 4)), opD 60 (.load false 1 (tD 59)), mvD 61 13, opD 62 (.iaddr 1 (tD 60) (tD 61)), opD 63 (.load false 1 (tD 62)), opD 64 (.build 6 [vI, vU, vI, vI, vI, vI] [(0, (1, (tD 54))), (1, (1, (tD 58))), (2, (1, (tD 63)))]), oqD 65 (.bslice 47 6 1 [vI, vU, vI, vI, vI, vI] [(0, (tD 64))]) (.ty T_api_Action), oqD 66 (.app 47 6 [vI, vU, vI, vI, vI, vI] 48 (tD 53) (tD 65)) (.ty T_api_Action), mvD 10 66] [[], [], [], [], [2, 3], [4], [], [6], [], [7, 8], [9], [1, 5, 10], [11], [0, 12], [13, 13, 0, 1, 2, 3, 4, 5, 6, 7, 8, 9, 10, 11, 12, 13]] true) .skip)))) (.region [mvD 38 13, opD 39 (.bin .add (tD 38) (cD 1)), mvD 13 39] [[], [0], [1, 0, 1]] false))))))))) (.region [mvD 19 11, opD 20 (.bin .add (tD 19) (cD 1)), mvD 11 20] [[], [0], [1, 0, 1]] false)))))) (.seq (.seq (.region [mvD 67 9] [[]] false) (.cond (.tmp 67) (.seq (.region [opD 68 (.faddr 10 (tD 4)), opD 69 (.load false 1 (tD 68)), opD 70 (.build 6 [vI, vU, vI, vI, vI, vI] [(0, (1, (cD 4))), (3, (1, (tD 69)))]), oqD 71 (.bslice 47 6 1 [vI, vU, vI, vI, vI, vI] [(0, (tD 70))]) (.ty T_api_Action), mvD 72 10, oqD 73 (.app 47 6 [vI, vU, vI, vI, vI, vI] 48 (tD 71) (tD 72)) (.ty T_api_Action), mvD 8 73] [[], [0], [1], [2], [], [3, 4], [5, 5, 0, 1, 2, 3, 4, 5]] false) .ret) .skip)) (.seq (.region [mvD 74 10, mvD 8 74] [[], [0, 0]] false) .ret))))))
set_option maxRecDepth 1000000 in
theorem v22 (fu : Nat) : evF fu (d22 fu) rs22 75 (e22 fu).ash (e22 fu).osh (e22 fu).vsh = p22 fu := by kernel_rfl
set_option maxRecDepth 1000000 in
theorem b22 (fu : Nat) : BodyD Try.prog 22 75 (d22 fu).erase rs22 := bodyD_mk Try.func22 (by kernel_rfl) (by kernel_rfl) (by kernel_rfl) (by kernel_rfl)
theorem g22 (fu : Nat) : (e22 fu).Good Try.prog := good_by orders (b22 fu) (l := [e37 fu, e36 fu]) (by kernel_rfl) ⟨g37 fu, g36 fu, trivial⟩ (by kernel_rfl) (v22 fu)
def rs13 : List RVx := [(.tmp 4), (.tmp 5)]
/-- gazette/gazetteref19.Next -/
def p13 (fu : Nat) : (Z1) × ((Z0) × (Unit)) → Option ((Unit) × ((List (D_api_Action)) × ((Int) × (Unit)))) := fun ⟨⟨a, c, f, h, i, j, k, l, m, n, o, _⟩, ⟨q, s, t, u, w, x, y, _⟩, _⟩ =>
Option.bind (p17 fu ((a, c, f, h, i, j, k, l, m, n, o, ()), ())) fun ⟨_, z⟩ =>
bif !z then
 some ((), ([], (191 : Int), ()))
else
 Option.bind (p18 fu (c, ())) fun ⟨_, a0⟩ =>
 bif (c == (3 : Int)) then
 Option.bind (p19 fu ((a, c, f, h, i, j, k, l, m, n, o, ()), (q, s, t, u, w, x, y, ()), ())) fun ⟨_, c0⟩ =>
 bif decide (List.length c0 = List.length c0) then
 some ((), (c0, (0 : Int), ()))
 else none
 else
 bif (o == (0 : Int)) then
 Option.bind (p21 fu ((q, s, t, u, w, x, y, ()), h, ())) fun ⟨_, f0⟩ =>
 Option.bind (p20 fu ((a, c, f, h, i, j, k, l, m, n, o, ()), f0, ((2 : Int), h, (0 : Int), (0 : Int), (0 : Int), (0 : Int), ()), ())) fun ⟨_, h0⟩ =>
 bif decide (List.length h0 = List.length h0) then
 some ((), (h0, (0 : Int), ()))
 else none
 else
 orK (E := ((Bool) × (Unit)) × (Unit))
 (bif !(c == (1 : Int)) then
 some (.inl (((o == (1 : Int)), ()), ()))
 else
 some (.inl ((false, ()), ())))
 fun ⟨⟨i0, _⟩, _⟩ =>
 bif i0 then
 Option.bind (p21 fu ((q, s, t, u, w, x, y, ()), i, ())) fun ⟨_, j0⟩ =>
 Option.bind (p20 fu ((a, c, f, h, i, j, k, l, m, n, o, ()), j0, ((2 : Int), i, (0 : Int), (0 : Int), (0 : Int), (0 : Int), ()), ())) fun ⟨_, k0⟩ =>
 bif decide (List.length k0 = List.length k0) then
 some ((), (k0, (0 : Int), ()))
 else none
 else
 bif ((IntKind.wrap .i64 (a0 - o)) == (3 : Int)) then
 Option.bind (p22 fu ((a, c, f, h, i, j, k, l, m, n, o, ()), k, s, (3 : Int), ())) fun ⟨_, l0⟩ =>
 bif decide (List.length l0 = List.length l0) then
 some ((), (l0, (0 : Int), ()))
 else none
 else
 bif ((IntKind.wrap .i64 (a0 - o)) == (2 : Int)) then
 Option.bind (p20 fu ((a, c, f, h, i, j, k, l, m, n, o, ()), true, ((0 : Int), (0 : Int), (0 : Int), (0 : Int), (0 : Int), (0 : Int), ()), ())) fun ⟨_, m0⟩ =>
 bif decide (List.length m0 = List.length m0) then
 some ((), (m0, (0 : Int), ()))
 else none
 else
 orK (E := ((List (Int)) × (Unit)) × (Unit))
 (bif !(c == (1 : Int)) then
 bif decide (1 = List.length ([h])) then
 bif decide (List.length ([h]) + List.length ([i]) ≤ maxLen ∧ (List.length ([h]) + List.length ([i])) * 8 ≤ 140737488355328) then
 bif decide (List.length ([h] ++ [i]) = List.length ([h] ++ [i])) then
 some (.inl ((([h] ++ [i]), ()), ()))
 else none
 else none
 else none
 else
 some (.inl (([h], ()), ())))
 fun ⟨⟨n0, _⟩, _⟩ =>
 bif decide (List.length n0 = List.length n0) then
 Option.bind (p22 fu ((a, c, f, h, i, j, k, l, m, n, o, ()), n0, t, (5 : Int), ())) fun ⟨_, o0⟩ =>
 bif decide (List.length o0 = List.length o0) then
 some ((), (o0, (0 : Int), ()))
 else none
 else none
def e13 (fu : Nat) : Ent := ⟨13, (.cons Y5 (.cons Y9 .nil)), .nil, (.tup 2 (.cons (.own .own 47 T_api_Action) (.cons (.hole (.int .i64)) .nil))), p13 fu⟩
def d13 (fu : Nat) : DC := (.seq (.region [opD 2 (.box 32 11 (tD 0)), opD 3 (.box 38 7 (tD 1)), opD 4 (.mov (.const vS)), opD 5 (.mov (cD 0))] [[], [], [], [2]] false) (.seq (.region [opD 10 (.load true 11 (tD 2)), oqD 11 (.call 17 [(tD 10)]) (.ent (e17 fu)), mvD 6 11] [[], [0], [1, 1, 0, 1]] false) (.seq (.seq (.region [mvD 12 6, opD 13 (.not (tD 12))] [[], [0]] false) (.cond (.tmp 13) (.seq (.region [opD 4 (.mov (.const vS)), opD 5 (.mov (cD 191))] [[], [0, 0]] false) .ret) .skip)) (.seq (.region [opD 14 (.faddr 1 (tD 2)), opD 15 (.load false 1 (tD 14)), opD 16 (.bin .eql (tD 15) (cD 1)), mvD 7 16] [[], [0], [1], [2, 0, 1, 2]] false) (.seq (.region [opD 17 (.faddr 1 (tD 2)), opD 18 (.load false 1 (tD 17)), oqD 19 (.call 18 [(tD 18)]) (.ent (e18 fu)), opD 20 (.faddr 10 (tD 2)), opD 21 (.load false 1 (tD 20)), opD 22 (.bin .sub (tD 19) (tD 21)), mvD 8 22] [[], [0], [1], [], [3], [2, 4], [5, 2, 0, 1, 2, 3, 4, 5]] true) (.seq (.block 0 (.seq (.region [opD 24 (.faddr 1 (tD 2)), opD 25 (.load false 1 (tD 24)), opD 26 (.bin .eql (tD 25) (cD 3)), mvD 23 26] [[], [0], [1], [2]] false) (.cond (.tmp 23) (.seq (.region [opD 27 (.load true 11 (tD 2)), opD 28 (.load true 7 (tD 3)), oqD 29 (.call 19 [(tD 27), (tD 28)]) (.ent (e19 fu)), mvD 4 29, opD 5 (.mov (cD 0))] [[], [], [0, 1], [2, 2, 0, 1, 2], [3, 0, 1, 2, 3]] false) .ret) (.seq (.region [opD 31 (.faddr 10 (tD 2)), opD 32 (.load false 1 (tD 31)), opD 33 (.bin .eql (tD 32) (cD 0)), mvD 30 33] [[], [0], [1], [2]] false) (.cond (.tmp 30) (.seq (.region [opD 34 (.load true 11 (tD 2)), opD 35 (.load true 7 (tD 3)), opD 36 (.faddr 3 (tD 2)), opD 37 (.load false 1 (tD 36)), oqD 38 (.call 21 [(tD 35), (tD 37)]) (.ent (e21 fu)), opD 39 (.faddr 3 (tD 2)), opD 40 (.load false 1 (tD 39)), opD 41 (.build 6 [vI, vU, vI, vI, vI, vI] [(0, (1, (cD 2))), (1, (1, (tD 40)))]), oqD 42 (.call 20 [(tD 34), (tD 38), (tD 41)]) (.ent (e20 fu)), mvD 4 42, opD 5 (.mov (cD 0))] [[], [], [], [2], [1, 3], [], [5], [6], [0, 4, 7, 4], [8, 8, 0, 1, 2, 3, 4, 5, 6, 7, 8], [9, 0, 1, 2, 3, 4, 5, 6, 7, 8, 9]] true) .ret) (.join ⟨[43], (.cons (.hole .bool) .nil), [], .nil, [2, 3, 7, 8], [0, 16]⟩
 (.region [mvD 44 7, opD 45 (.not (tD 44)), mvD 46 45, ogD 47 46 true (.faddr 10 (tD 2)), ogD 48 46 true (.load false 1 (tD 47)), ogD 49 46 true (.bin .eql (tD 48) (cD 1)), opD 50 (.pick (tD 46) (tD 49) (.const vB)), mvD 43 50] [[], [0], [1], [2], [3, 2], [4, 2], [2, 5], [6, 2]] false)
 (.cond (.tmp 43) (.seq (.region [opD 51 (.load true 11 (tD 2)), opD 52 (.load true 7 (tD 3)), opD 53 (.faddr 4 (tD 2)), opD 54 (.load false 1 (tD 53)), oqD 55 (.call 21 [(tD 52), (tD 54)]) (.ent (e21 fu)), opD 56 (.faddr 4 (tD 2)), opD 57 (.load false 1 (tD 56)), opD 58 (.build 6 [vI, vU, vI, vI, vI, vI] [(0, (1, (cD 2))), (1, (1, (tD 57)))]), oqD 59 (.call 20 [(tD 51), (tD 55), (tD 58)]) (.ent (e20 fu)), mvD 4 59, opD 5 (.mov (cD 0))] [[], [], [], [2], [1, 3], [], [5], [6], [0, 4, 7, 4], [8, 8, 0, 1, 2, 3, 4, 5, 6, 7, 8], [9, 0, 1, 2, 3, 4, 5, 6, 7, 8, 9]] true) .ret) (.seq (.region [mvD 61 8, opD 62 (.bin .eql (tD 61) (cD 3)), mvD 60 62] [[], [0], [1]] false) (.cond (.tmp 60) (.seq (.region [opD 63 (.load true 11 (tD 2)), opD 64 (.faddr 6 (tD 2)), opD 65 (.load false 1 (tD 64)), opD 66 (.faddr 1 (tD 3)), opD 67 (.load false 1 (tD 66)), oqD 68 (.call 22 [(tD 63), (tD 65), (tD 67), (cD 3)]) (.ent (e22 fu)), mvD 4 68, opD 5 (.mov (cD 0))] [[], [], [1], [], [3], [0, 2, 4], [5, 5, 0, 1, 2, 3, 4, 5], [6, 0, 1, 2, 3, 4, 5, 6]] false) .ret) (.seq (.region [mvD 70 8, opD 71 (.bin .eql (tD 70) (cD 2)), mvD 69 71] [[], [0], [1]] false) (.cond (.tmp 69) (.seq (.region [opD 72 (.load true 11 (tD 2)), opD 73 (.build 6 [vI, vU, vI, vI, vI, vI] []), oqD 74 (.call 20 [(tD 72), (.const (.bool true)), (tD 73)]) (.ent (e20 fu)), mvD 4 74, opD 5 (.mov (cD 0))] [[], [], [0, 1], [2, 2, 0, 1, 2], [3, 0, 1, 2, 3]] false) .ret) .skip))))))))))) (.seq (.region [opD 75 (.faddr 3 (tD 2)), opD 76 (.load false 1 (tD 75)), oqD 77 (.bslice 27 1 1 [vU] [(0, (tD 76))]) (.ty (.int .u64)), mvD 9 77] [[], [0], [1], [2, 0, 1, 2]] false) (.join ⟨[9], (.cons (.own .own 27 (.int .u64)) .nil), [], .nil, [2, 3], [0, 16]⟩
 (.seq (.region [mvD 78 7, opD 79 (.not (tD 78))] [[], [0]] false) (.cond (.tmp 79) (.region [mvD 80 9, opD 81 (.faddr 4 (tD 2)), opD 82 (.load false 1 (tD 81)), oqD 83 (.bslice 27 1 1 [vU] [(0, (tD 82))]) (.ty (.int .u64)), oqD 84 (.app 27 1 [vU] 8 (tD 80) (tD 83)) (.ty (.int .u64)), mvD 9 84] [[], [], [1], [2], [0, 3], [4, 4, 0, 1, 2, 3, 4]] false) .skip))
 (.seq (.region [opD 85 (.load true 11 (tD 2)), mvD 86 9, opD 87 (.faddr 2 (tD 3)), opD 88 (.load false 1 (tD 87)), oqD 89 (.call 22 [(tD 85), (tD 86), (tD 88), (cD 5)]) (.ent (e22 fu)), mvD 4 89, opD 5 (.mov (cD 0))] [[], [], [], [2], [0, 1, 3], [4, 4, 0, 1, 2, 3, 4], [5, 0, 1, 2, 3, 4, 5]] false) .ret)))))))))
set_option maxRecDepth 1000000 in
theorem v13 (fu : Nat) : evF fu (d13 fu) rs13 90 (e13 fu).ash (e13 fu).osh (e13 fu).vsh = p13 fu := by kernel_rfl
set_option maxRecDepth 1000000 in
theorem b13 (fu : Nat) : BodyD Try.prog 13 90 (d13 fu).erase rs13 := bodyD_mk Try.func13 (by kernel_rfl) (by kernel_rfl) (by kernel_rfl) (by kernel_rfl)
theorem g13 (fu : Nat) : (e13 fu).Good Try.prog := good_by orders (b13 fu) (l := [e17 fu, e18 fu, e19 fu, e21 fu, e20 fu, e21 fu, e20 fu, e22 fu, e20 fu, e22 fu]) (by kernel_rfl) ⟨g17 fu, g18 fu, g19 fu, g21 fu, g20 fu, g21 fu, g20 fu, g22 fu, g20 fu, g22 fu, trivial⟩ (by kernel_rfl) (v13 fu)
def rs4 : List RVx := [(.tmp 6)]
/-- gazette/gazettelaw19.PlansNext -/
def p4 (fu : Nat) : (Z1) × ((Z0) × ((Int) × (Unit))) → Option ((Unit) × (Bool)) := fun ⟨⟨a, c, f, h, i, j, k, l, m, n, o, _⟩, ⟨q, s, t, u, w, x, y, _⟩, z, _⟩ =>
Option.bind (p8 fu ()) fun ⟨_, a0⟩ =>
bif decide (0 = List.length ([] : List (Int))) then
 bif decide (List.length ([] : List (Int)) + List.length k ≤ maxLen ∧ (List.length ([] : List (Int)) + List.length k) * 8 ≤ 140737488355328) then
 bif decide (0 = List.length ([] : List (Int))) then
 bif decide (List.length ([] : List (Int)) + List.length l ≤ maxLen ∧ (List.length ([] : List (Int)) + List.length l) * 8 ≤ 140737488355328) then
 Option.bind (p9 fu ((a, c, f, h, i, j, k, l, m, n, o, ()), (q, s, t, u, w, x, y, ()), ())) fun ⟨_, ⟨c0, f0, _⟩⟩ =>
 Option.bind (p13 fu ((a, c, f, h, i, j, k, l, m, n, o, ()), (q, s, t, u, w, x, y, ()), ())) fun ⟨_, ⟨h0, i0, _⟩⟩ =>
 bif decide (List.length c0 = List.length c0) then
 bif decide (List.length h0 = List.length h0) then
 Option.bind (p11 fu (c0, h0, ())) fun ⟨_, j0⟩ =>
 bif decide (List.length c0 = List.length c0) then
 loopO (S := ((List (D_api_Action)) × ((Int) × (Unit))) × (Unit)) fu (fun ⟨⟨k0, l0, _⟩, _⟩ =>
 bif decide (l0 < ((List.length k0) : Int)) then
 bif decide ((0 : Int) ≤ l0 ∧ l0 < (List.length k0 : Int)) then
 bif decide (Int.toNat l0 < List.length k0) then
 bif decide ((0 : Int) ≤ l0 ∧ l0 < (List.length k0 : Int)) then
 bif decide (Int.toNat l0 < List.length k0) then
 bif decide (List.length k0 = List.length (List.set k0 (Int.toNat l0) ((List.getD k0 (Int.toNat l0) (dflt T_api_Action)).1, (IntKind.wrap .u64 ((((List.getD k0 (Int.toNat l0) (dflt T_api_Action)).2).1) + (1 : Int)), ((List.getD k0 (Int.toNat l0) (dflt T_api_Action)).2).2)))) then
 some (.inl (((List.set k0 (Int.toNat l0) ((List.getD k0 (Int.toNat l0) (dflt T_api_Action)).1, (IntKind.wrap .u64 ((((List.getD k0 (Int.toNat l0) (dflt T_api_Action)).2).1) + (1 : Int)), ((List.getD k0 (Int.toNat l0) (dflt T_api_Action)).2).2))), IntKind.wrap .i64 (l0 + (1 : Int)), ()), ()))
 else none
 else none
 else none
 else none
 else none
 else
 inrO (loopO (S := ((Int) × (Unit)) × (Unit)) fu (fun ⟨⟨m0, _⟩, _⟩ =>
 bif decide (m0 < ((List.length (([] : List (Int)) ++ k)) : Int)) then
 bif decide ((0 : Int) ≤ m0 ∧ m0 < (List.length k : Int)) then
 bif decide (Int.toNat m0 < List.length k) then
 bif decide ((0 : Int) ≤ m0 ∧ m0 < (List.length (([] : List (Int)) ++ k) : Int)) then
 bif decide (Int.toNat m0 < List.length (([] : List (Int)) ++ k)) then
 bif ((List.getD k (Int.toNat m0) (dflt (.int .u64))) != (List.getD (([] : List (Int)) ++ k) (Int.toNat m0) (dflt (.int .u64)))) then
 inrO (some ((), false))
 else
 some (.inl ((IntKind.wrap .i64 (m0 + (1 : Int)), ()), ()))
 else none
 else none
 else none
 else none
 else
 inrO (loopO (S := ((Int) × (Unit)) × (Unit)) fu (fun ⟨⟨n0, _⟩, _⟩ =>
 bif decide (n0 < ((List.length (([] : List (Int)) ++ l)) : Int)) then
 bif decide ((0 : Int) ≤ n0 ∧ n0 < (List.length l : Int)) then
 bif decide (Int.toNat n0 < List.length l) then
 bif decide ((0 : Int) ≤ n0 ∧ n0 < (List.length (([] : List (Int)) ++ l) : Int)) then
 bif decide (Int.toNat n0 < List.length (([] : List (Int)) ++ l)) then
 bif ((List.getD l (Int.toNat n0) (dflt (.int .i64))) != (List.getD (([] : List (Int)) ++ l) (Int.toNat n0) (dflt (.int .i64)))) then
 inrO (some ((), false))
 else
 some (.inl ((IntKind.wrap .i64 (n0 + (1 : Int)), ()), ()))
 else none
 else none
 else none
 else none
 else
 inrO (orK (E := ((Int) × (Unit)) × (Unit))
 (bif (z == (1 : Int)) then
 some (.inl (((4 : Int), ()), ()))
 else
 bif (z == (2 : Int)) then
 some (.inl (((5 : Int), ()), ()))
 else
 bif (z == (3 : Int)) then
 some (.inl (((5 : Int), ()), ()))
 else
 some (.inl (((0 : Int), ()), ())))
 fun ⟨⟨o0, _⟩, _⟩ =>
 bif a0 then
 bif j0 then
 bif (f0 == i0) then
 Option.bind (p12 fu (z, ())) fun ⟨_, q0⟩ =>
 some ((), (q0 == o0))
 else
 some ((), false)
 else
 some ((), false)
 else
 some ((), false)))
 (((0 : Int), ()), ())))
 (((0 : Int), ()), ())))
 ((c0, (0 : Int), ()), ())
 else none
 else none
 else none
 else none
 else none
 else none
else none
def e4 (fu : Nat) : Ent := ⟨4, (.cons Y5 (.cons Y9 (.cons (.hole (.int .i64)) .nil))), .nil, (.hole .bool), p4 fu⟩
def d4 (fu : Nat) : DC := (.seq (.region [opD 3 (.box 32 11 (tD 0)), opD 4 (.box 38 7 (tD 1)), opD 6 (.mov (.const vB))] [[], [], []] false) (.seq (.region [oqD 19 (.call 8 []) (.ent (e8 fu)), mvD 7 19] [[], [0, 0, 0]] false) (.seq (.region [oqD 20 (.bslice 27 1 0 [vU] []) (.ty (.int .u64)), opD 21 (.faddr 6 (tD 3)), opD 22 (.load false 1 (tD 21)), oqD 23 (.app 27 1 [vU] 8 (tD 20) (tD 22)) (.ty (.int .u64)), mvD 8 23] [[], [], [1], [0, 2], [3, 3, 0, 1, 2, 3]] false) (.seq (.region [oqD 24 (.bslice 3 1 0 [vI] []) (.ty (.int .i64)), opD 25 (.faddr 7 (tD 3)), opD 26 (.load false 1 (tD 25)), oqD 27 (.app 3 1 [vI] 8 (tD 24) (tD 26)) (.ty (.int .i64)), mvD 9 27] [[], [], [1], [0, 2], [3, 3, 0, 1, 2, 3]] false) (.seq (.region [opD 29 (.load true 11 (tD 3)), opD 30 (.load true 7 (tD 4)), oqD 31 (.call 9 [(tD 29), (tD 30)]) (.ent (e9 fu)), mvD 28 31, opD 32 (.ext (tD 28) 0), opD 33 (.ext (tD 28) 1), mvD 10 32, mvD 11 33] [[], [], [0, 1], [2], [3], [3], [4, 2, 0, 1, 2, 3, 4], [5, 6, 0, 1, 2, 3, 4, 5, 6]] false) (.seq (.region [opD 35 (.load true 11 (tD 3)), opD 36 (.load true 7 (tD 4)), oqD 37 (.call 13 [(tD 35), (tD 36)]) (.ent (e13 fu)), mvD 34 37, opD 38 (.ext (tD 34) 0), opD 39 (.ext (tD 34) 1), mvD 12 38, mvD 13 39] [[], [], [0, 1], [2], [3], [3], [4, 2, 0, 1, 2, 3, 4], [5, 6, 0, 1, 2, 3, 4, 5, 6]] false) (.seq (.region [mvD 40 10, mvD 41 12, oqD 42 (.call 11 [(tD 40), (tD 41)]) (.ent (e11 fu)), mvD 14 42] [[], [], [0, 1], [2, 2, 0, 1, 2]] false) (.seq (.seq (.region [opD 15 (.mov (cD 0))] [[]] false) (.block 0 (.loop ⟨[10, 15], (.cons (.own .own 47 T_api_Action) (.cons (.hole (.int .i64)) .nil)), [], .nil, [2, 3, 7, 8, 9, 11, 13, 14], [0, 80, 160]⟩
 (.seq (.seq (.region [mvD 43 15, mvD 44 10, opD 45 (.len false (tD 44)), opD 46 (.bin .lss (tD 43) (tD 45))] [[], [], [1], [0, 2]] false) (.cond (.tmp 46) .skip (.exit 0))) (.seq (.block 1 (.region [mvD 49 10, mvD 50 15, opD 51 (.iaddr 6 (tD 49) (tD 50)), opD 52 (.faddr 1 (tD 51)), opD 53 (.load false 1 (tD 52)), opD 54 (.bin .add (tD 53) (.const (.int .u64 1))), opD 55 (.iaddr 6 (tD 49) (tD 50)), opD 56 (.faddr 1 (tD 55)), onD (.store 1 (tD 56) (tD 54))] [[], [], [0, 1], [2], [3], [4], [0, 1, 0, 1, 2, 3, 4, 5], [6, 0, 1, 2, 3, 4, 5], [7, 5, 0, 1, 2, 3, 4, 5]] false)) (.region [mvD 47 15, opD 48 (.bin .add (tD 47) (cD 1)), mvD 15 48] [[], [0], [1, 0, 1]] false)))))) (.seq (.seq (.region [opD 16 (.mov (cD 0))] [[]] false) (.block 2 (.loop ⟨[16], (.cons (.hole (.int .i64)) .nil), [], .nil, [2, 3, 7, 8, 9, 11, 13, 14], [0, 80, 160]⟩
 (.seq (.seq (.region [mvD 57 16, mvD 58 8, opD 59 (.len false (tD 58)), opD 60 (.bin .lss (tD 57) (tD 59))] [[], [], [1], [0, 2]] false) (.cond (.tmp 60) .skip (.exit 2))) (.seq (.block 3 (.seq (.region [opD 63 (.faddr 6 (tD 3)), opD 64 (.load false 1 (tD 63)), mvD 65 16, opD 66 (.iaddr 1 (tD 64) (tD 65)), opD 67 (.load false 1 (tD 66)), mvD 68 8, mvD 69 16, opD 70 (.iaddr 1 (tD 68) (tD 69)), opD 71 (.load false 1 (tD 70)), opD 72 (.bin .neq (tD 67) (tD 71))] [[], [0], [], [1, 2], [3], [], [], [5, 6], [7], [4, 8]] true) (.cond (.tmp 72) (.seq (.region [opD 6 (.mov (.const vB))] [[]] false) .ret) .skip))) (.region [mvD 61 16, opD 62 (.bin .add (tD 61) (cD 1)), mvD 16 62] [[], [0], [1, 0, 1]] false)))))) (.seq (.seq (.region [opD 17 (.mov (cD 0))] [[]] false) (.block 4 (.loop ⟨[17], (.cons (.hole (.int .i64)) .nil), [], .nil, [2, 3, 7, 9, 11, 13, 14], [0, 160]⟩
 (.seq (.seq (.region [mvD 73 17, mvD 74 9, opD 75 (.len false (tD 74)), opD 76 (.bin .lss (tD 73) (tD 75))] [[], [], [1], [0, 2]] false) (.cond (.tmp 76) .skip (.exit 4))) (.seq (.block 5 (.seq (.region [opD 79 (.faddr 7 (tD 3)), opD 80 (.load false 1 (tD 79)), mvD 81 17, opD 82 (.iaddr 1 (tD 80) (tD 81)), opD 83 (.load false 1 (tD 82)), mvD 84 9, mvD 85 17, opD 86 (.iaddr 1 (tD 84) (tD 85)), opD 87 (.load false 1 (tD 86)), opD 88 (.bin .neq (tD 83) (tD 87))] [[], [0], [], [1, 2], [3], [], [], [5, 6], [7], [4, 8]] true) (.cond (.tmp 88) (.seq (.region [opD 6 (.mov (.const vB))] [[]] false) .ret) .skip))) (.region [mvD 77 17, opD 78 (.bin .add (tD 77) (cD 1)), mvD 17 78] [[], [0], [1, 0, 1]] false)))))) (.seq (.region [opD 18 (.mov (cD 0))] [[]] false) (.join ⟨[18], (.cons (.hole (.int .i64)) .nil), [], .nil, [2, 7, 11, 13, 14], []⟩
 (.seq (.region [mvD 89 2] [[]] false) (.block 6 (.seq (.region [opD 91 (.bin .eql (tD 89) (cD 1)), mvD 90 91] [[], [0]] false) (.cond (.tmp 90) (.region [opD 18 (.mov (cD 4))] [[]] false) (.seq (.seq (.region [opD 93 (.bin .eql (tD 89) (cD 2)), mvD 92 93] [[], [0]] false) (.cond (.tmp 92) .skip (.region [opD 94 (.bin .eql (tD 89) (cD 3)), mvD 92 94] [[], [0]] false))) (.cond (.tmp 92) (.region [opD 18 (.mov (cD 5))] [[]] false) .skip))))))
 (.seq (.region [mvD 95 7, mvD 96 95, ogD 97 96 true (.mov (tD 14)), opD 98 (.pick (tD 96) (tD 97) (.const vB)), mvD 99 98, ogD 100 99 true (.mov (tD 11)), ogD 101 99 true (.mov (tD 13)), ogD 102 99 true (.bin .eql (tD 100) (tD 101)), opD 103 (.pick (tD 99) (tD 102) (.const vB)), mvD 104 103, ogD 105 104 true (.mov (tD 2)), (⟨(some 106), (some (104, true)), (.call 12 [(tD 105)])⟩, (.ent (e12 fu))), ogD 107 104 true (.mov (tD 18)), ogD 108 104 true (.bin .eql (tD 106) (tD 107)), opD 109 (.pick (tD 104) (tD 108) (.const vB)), mvD 6 109] [[], [0], [1], [1, 2], [3, 1], [4], [4], [5, 6, 4], [4, 7], [8, 4], [9], [10, 9, 9], [9], [11, 12, 9], [9, 13], [14, 11, 0, 1, 2, 3, 4, 5, 6, 7, 8, 9, 10, 11, 12, 13, 14]] false) .ret)))))))))))))
set_option maxRecDepth 1000000 in
theorem v4 (fu : Nat) : evF fu (d4 fu) rs4 110 (e4 fu).ash (e4 fu).osh (e4 fu).vsh = p4 fu := by kernel_rfl
set_option maxRecDepth 1000000 in
theorem b4 (fu : Nat) : BodyD Try.prog 4 110 (d4 fu).erase rs4 := bodyD_mk Try.func4 (by kernel_rfl) (by kernel_rfl) (by kernel_rfl) (by kernel_rfl)
theorem g4 (fu : Nat) : (e4 fu).Good Try.prog := good_by orders (b4 fu) (l := [e8 fu, e9 fu, e13 fu, e11 fu, e12 fu]) (by kernel_rfl) ⟨g8 fu, g9 fu, g13 fu, g11 fu, g12 fu, trivial⟩ (by kernel_rfl) (v4 fu)
def rs14 : List RVx := [(.cell 6 true 7)]
/-- gazette/gazettelaw19.does -/
def p14 (fu : Nat) : (Z1) × ((Z0) × ((Z10) × (Unit))) → Option ((Unit) × ((List (Int)) × ((List (D_api_Site)) × ((List (D_api_Site)) × ((List (Int)) × ((List (Int)) × ((Int) × ((Bool) × (Unit))))))))) := fun ⟨⟨_, _, _, _, _, _, _, _, _, a, _, _⟩, ⟨c, f, h, i, j, k, l, _⟩, ⟨m, n, o, _, q, s, _⟩, _⟩ =>
bif (m == (2 : Int)) then
 bif decide (0 = List.length ([] : List (Int))) then
 bif decide (List.length ([] : List (Int)) + List.length c ≤ maxLen ∧ (List.length ([] : List (Int)) + List.length c) * 8 ≤ 140737488355328) then
 bif decide (List.length (([] : List (Int)) ++ c) = List.length (([] : List (Int)) ++ c)) then
 bif decide (List.length (([] : List (Int)) ++ c) + List.length ([n]) ≤ maxLen ∧ (List.length (([] : List (Int)) ++ c) + List.length ([n])) * 8 ≤ 140737488355328) then
 bif decide (List.length ((([] : List (Int)) ++ c) ++ [n]) = List.length ((([] : List (Int)) ++ c) ++ [n])) then
 some ((), (((([] : List (Int)) ++ c) ++ [n]), f, h, i, j, k, l, ()))
 else none
 else none
 else none
 else none
 else none
else
 bif (m == (3 : Int)) then
 bif decide (0 = List.length ([] : List (D_api_Site))) then
 bif decide (List.length ([] : List (D_api_Site)) + List.length f ≤ maxLen ∧ (List.length ([] : List (D_api_Site)) + List.length f) * 16 ≤ 140737488355328) then
 bif decide (List.length (([] : List (D_api_Site)) ++ f) = List.length (([] : List (D_api_Site)) ++ f)) then
 bif decide (List.length (([] : List (D_api_Site)) ++ f) + List.length ([(n, o)]) ≤ maxLen ∧ (List.length (([] : List (D_api_Site)) ++ f) + List.length ([(n, o)])) * 16 ≤ 140737488355328) then
 bif decide (List.length ((([] : List (D_api_Site)) ++ f) ++ [(n, o)]) = List.length ((([] : List (D_api_Site)) ++ f) ++ [(n, o)])) then
 some ((), (c, ((([] : List (D_api_Site)) ++ f) ++ [(n, o)]), h, i, j, k, l, ()))
 else none
 else none
 else none
 else none
 else none
 else
 bif (m == (5 : Int)) then
 bif decide (0 = List.length ([] : List (D_api_Site))) then
 bif decide (List.length ([] : List (D_api_Site)) + List.length h ≤ maxLen ∧ (List.length ([] : List (D_api_Site)) + List.length h) * 16 ≤ 140737488355328) then
 bif decide (List.length (([] : List (D_api_Site)) ++ h) = List.length (([] : List (D_api_Site)) ++ h)) then
 bif decide (List.length (([] : List (D_api_Site)) ++ h) + List.length ([(n, o)]) ≤ maxLen ∧ (List.length (([] : List (D_api_Site)) ++ h) + List.length ([(n, o)])) * 16 ≤ 140737488355328) then
 bif decide (List.length ((([] : List (D_api_Site)) ++ h) ++ [(n, o)]) = List.length ((([] : List (D_api_Site)) ++ h) ++ [(n, o)])) then
 some ((), (c, f, ((([] : List (D_api_Site)) ++ h) ++ [(n, o)]), i, j, k, l, ()))
 else none
 else none
 else none
 else none
 else none
 else
 bif (m == (7 : Int)) then
 some ((), (c, f, h, i, j, o, l, ()))
 else
 bif (m == (1 : Int)) then
 some ((), (c, f, h, i, [a], k, true, ()))
 else
 bif (m == (6 : Int)) then
 bif (q == (1 : Int)) then
 some ((), (c, f, h, i, [s], k, l, ()))
 else
 bif (q == (2 : Int)) then
 bif decide (0 = List.length ([] : List (Int))) then
 bif decide (List.length ([] : List (Int)) + List.length i ≤ maxLen ∧ (List.length ([] : List (Int)) + List.length i) * 8 ≤ 140737488355328) then
 bif decide (List.length (([] : List (Int)) ++ i) = List.length (([] : List (Int)) ++ i)) then
 bif decide (List.length (([] : List (Int)) ++ i) + List.length ([s]) ≤ maxLen ∧ (List.length (([] : List (Int)) ++ i) + List.length ([s])) * 8 ≤ 140737488355328) then
 bif decide (List.length ((([] : List (Int)) ++ i) ++ [s]) = List.length ((([] : List (Int)) ++ i) ++ [s])) then
 some ((), (c, f, h, ((([] : List (Int)) ++ i) ++ [s]), [], k, l, ()))
 else none
 else none
 else none
 else none
 else none
 else
 bif (q == (3 : Int)) then
 loopO (S := ((List (Int)) × ((Int) × (Unit))) × (Unit)) fu (fun ⟨⟨t, u, _⟩, _⟩ =>
 bif decide (u < (List.length i : Int)) then
 bif decide ((0 : Int) ≤ u ∧ u < (List.length i : Int)) then
 bif decide (Int.toNat u < List.length i) then
 bif ((List.getD i (Int.toNat u) (dflt (.int .i64))) != s) then
 bif decide ((0 : Int) ≤ u ∧ u < (List.length i : Int)) then
 bif decide (Int.toNat u < List.length i) then
 bif decide (List.length t = List.length t) then
 bif decide (List.length t + List.length ([(List.getD i (Int.toNat u) (dflt (.int .i64)))]) ≤ maxLen ∧ (List.length t + List.length ([(List.getD i (Int.toNat u) (dflt (.int .i64)))])) * 8 ≤ 140737488355328) then
 bif decide (List.length (t ++ [(List.getD i (Int.toNat u) (dflt (.int .i64)))]) = List.length (t ++ [(List.getD i (Int.toNat u) (dflt (.int .i64)))])) then
 some (.inl (((t ++ [(List.getD i (Int.toNat u) (dflt (.int .i64)))]), IntKind.wrap .i64 (u + (1 : Int)), ()), ()))
 else none
 else none
 else none
 else none
 else none
 else
 bif decide (List.length t = List.length t) then
 some (.inl ((t, IntKind.wrap .i64 (u + (1 : Int)), ()), ()))
 else none
 else none
 else none
 else
 inrO (bif decide (List.length t = List.length t) then
 some ((), (c, f, h, t, [], k, l, ()))
 else none))
 (([], (0 : Int), ()), ())
 else
 some ((), (c, f, h, i, j, k, l, ()))
 else
 some ((), (c, f, h, i, j, k, l, ()))
def e14 (fu : Nat) : Ent := ⟨14, (.cons Y5 (.cons Y9 (.cons Y11 .nil))), .nil, Y9, p14 fu⟩
def d14 (_ : Nat) : DC := (.seq (.region [opD 3 (.box 32 11 (tD 0)), opD 4 (.box 38 7 (tD 1)), opD 5 (.box 47 6 (tD 2)), opD 6 (.alloc 38 7 [vS, vS, vS, vS, vS, vI, vB])] [[], [], [], []] false) (.seq (.seq (.region [opD 9 (.faddr 0 (tD 5)), opD 10 (.load false 1 (tD 9))] [[], [0]] false) (.block 0 (.seq (.region [opD 12 (.bin .eql (tD 10) (cD 2)), mvD 11 12] [[], [0]] false) (.cond (.tmp 11) (.region [oqD 13 (.bslice 27 1 0 [vU] []) (.ty (.int .u64)), opD 14 (.faddr 0 (tD 4)), opD 15 (.load false 1 (tD 14)), oqD 16 (.app 27 1 [vU] 8 (tD 13) (tD 15)) (.ty (.int .u64)), opD 17 (.faddr 1 (tD 5)), opD 18 (.load false 1 (tD 17)), oqD 19 (.bslice 27 1 1 [vU] [(0, (tD 18))]) (.ty (.int .u64)), oqD 20 (.app 27 1 [vU] 8 (tD 16) (tD 19)) (.ty (.int .u64)), opD 21 (.faddr 0 (tD 4)), onD (.store 1 (tD 21) (tD 20))] [[], [], [1], [0, 2], [], [4], [5], [3, 6, 3], [0, 1, 2, 3, 4, 5, 6, 7], [8, 7, 7, 0, 1, 2, 3, 4, 5, 6, 7]] true) (.seq (.region [opD 23 (.bin .eql (tD 10) (cD 3)), mvD 22 23] [[], [0]] false) (.cond (.tmp 22) (.region [oqD 24 (.bslice 40 2 0 [vU, vI] []) (.ty T_api_Site), opD 25 (.faddr 1 (tD 4)), opD 26 (.load false 1 (tD 25)), oqD 27 (.app 40 2 [vU, vI] 16 (tD 24) (tD 26)) (.ty T_api_Site), opD 28 (.faddr 1 (tD 5)), opD 29 (.load false 1 (tD 28)), opD 30 (.faddr 2 (tD 5)), opD 31 (.load false 1 (tD 30)), opD 32 (.build 2 [vU, vI] [(0, (1, (tD 29))), (1, (1, (tD 31)))]), oqD 33 (.bslice 40 2 1 [vU, vI] [(0, (tD 32))]) (.ty T_api_Site), oqD 34 (.app 40 2 [vU, vI] 16 (tD 27) (tD 33)) (.ty T_api_Site), opD 35 (.faddr 1 (tD 4)), onD (.store 1 (tD 35) (tD 34))] [[], [], [1], [0, 2], [], [4], [], [6], [5, 7], [8], [3, 9, 3], [0, 1, 2, 3, 4, 5, 6, 7, 8, 9, 10], [11, 10, 10, 0, 1, 2, 3, 4, 5, 6, 7, 8, 9, 10]] true) (.seq (.region [opD 37 (.bin .eql (tD 10) (cD 5)), mvD 36 37] [[], [0]] false) (.cond (.tmp 36) (.region [oqD 38 (.bslice 40 2 0 [vU, vI] []) (.ty T_api_Site), opD 39 (.faddr 2 (tD 4)), opD 40 (.load false 1 (tD 39)), oqD 41 (.app 40 2 [vU, vI] 16 (tD 38) (tD 40)) (.ty T_api_Site), opD 42 (.faddr 1 (tD 5)), opD 43 (.load false 1 (tD 42)), opD 44 (.faddr 2 (tD 5)), opD 45 (.load false 1 (tD 44)), opD 46 (.build 2 [vU, vI] [(0, (1, (tD 43))), (1, (1, (tD 45)))]), oqD 47 (.bslice 40 2 1 [vU, vI] [(0, (tD 46))]) (.ty T_api_Site), oqD 48 (.app 40 2 [vU, vI] 16 (tD 41) (tD 47)) (.ty T_api_Site), opD 49 (.faddr 2 (tD 4)), onD (.store 1 (tD 49) (tD 48))] [[], [], [1], [0, 2], [], [4], [], [6], [5, 7], [8], [3, 9, 3], [0, 1, 2, 3, 4, 5, 6, 7, 8, 9, 10], [11, 10, 10, 0, 1, 2, 3, 4, 5, 6, 7, 8, 9, 10]] true) (.seq (.region [opD 51 (.bin .eql (tD 10) (cD 7)), mvD 50 51] [[], [0]] false) (.cond (.tmp 50) (.region [opD 52 (.faddr 2 (tD 5)), opD 53 (.load false 1 (tD 52)), opD 54 (.faddr 5 (tD 4)), onD (.store 1 (tD 54) (tD 53))] [[], [0], [0, 1], [2, 1, 0, 1]] false) (.seq (.region [opD 56 (.bin .eql (tD 10) (cD 1)), mvD 55 56] [[], [0]] false) (.cond (.tmp 55) (.seq (.region [opD 57 (.faddr 6 (tD 4)), onD (.store 1 (tD 57) (.const (.bool true)))] [[], [0]] false) (.region [opD 58 (.faddr 9 (tD 3)), opD 59 (.load false 1 (tD 58)), oqD 60 (.bslice 3 1 1 [vI] [(0, (tD 59))]) (.ty (.int .i64)), opD 61 (.faddr 3 (tD 4)), opD 62 (.faddr 1 (tD 61)), onD (.store 1 (tD 62) (tD 60))] [[], [0], [1], [0, 1, 2], [3, 0, 1, 2], [4, 2, 0, 1, 2]] false)) (.seq (.region [opD 64 (.bin .eql (tD 10) (cD 6)), mvD 63 64] [[], [0]] false) (.cond (.tmp 63) (.seq (.region [opD 65 (.faddr 4 (tD 5)), opD 66 (.faddr 0 (tD 65)), opD 67 (.load false 1 (tD 66))] [[], [0], [1]] false) (.block 1 (.seq (.region [opD 69 (.bin .eql (tD 67) (cD 1)), mvD 68 69] [[], [0]] false) (.cond (.tmp 68) (.region [opD 70 (.faddr 4 (tD 5)), opD 71 (.faddr 1 (tD 70)), opD 72 (.load false 1 (tD 71)), oqD 73 (.bslice 3 1 1 [vI] [(0, (tD 72))]) (.ty (.int .i64)), opD 74 (.faddr 3 (tD 4)), opD 75 (.faddr 1 (tD 74)), onD (.store 1 (tD 75) (tD 73))] [[], [0], [1], [2], [0, 1, 2, 3], [4, 0, 1, 2, 3], [5, 3, 0, 1, 2, 3]] false) (.seq (.region [opD 77 (.bin .eql (tD 67) (cD 2)), mvD 76 77] [[], [0]] false) (.cond (.tmp 76) (.seq (.region [opD 78 (.faddr 3 (tD 4)), opD 79 (.faddr 1 (tD 78)), onD (.store 1 (tD 79) (.const vS))] [[], [0], [1]] false) (.region [oqD 80 (.bslice 3 1 0 [vI] []) (.ty (.int .i64)), opD 81 (.faddr 3 (tD 4)), opD 82 (.faddr 0 (tD 81)), opD 83 (.load false 1 (tD 82)), oqD 84 (.app 3 1 [vI] 8 (tD 80) (tD 83)) (.ty (.int .i64)), opD 85 (.faddr 4 (tD 5)), opD 86 (.faddr 1 (tD 85)), opD 87 (.load false 1 (tD 86)), oqD 88 (.bslice 3 1 1 [vI] [(0, (tD 87))]) (.ty (.int .i64)), oqD 89 (.app 3 1 [vI] 8 (tD 84) (tD 88)) (.ty (.int .i64)), opD 90 (.faddr 3 (tD 4)), opD 91 (.faddr 0 (tD 90)), onD (.store 1 (tD 91) (tD 89))] [[], [], [1], [2], [0, 3], [], [5], [6], [7], [4, 8, 4], [0, 1, 2, 3, 4, 5, 6, 7, 8, 9], [10, 0, 1, 2, 3, 4, 5, 6, 7, 8, 9], [11, 9, 9, 0, 1, 2, 3, 4, 5, 6, 7, 8, 9]] true)) (.seq (.region [opD 93 (.bin .eql (tD 67) (cD 3)), mvD 92 93] [[], [0]] false) (.cond (.tmp 92) (.seq (.region [opD 7 (.mov (.const vS))] [[]] false) (.seq (.seq (.region [opD 8 (.mov (cD 0))] [[]] false) (.block 2 (.loop ⟨[7, 8], (.cons (.own .own 3 (.int .i64)) (.cons (.hole (.int .i64)) .nil)), [], .nil, [4, 5, 6], [16, 32, 48]⟩
 (.seq (.seq (.region [mvD 94 8, opD 95 (.faddr 3 (tD 4)), opD 96 (.faddr 0 (tD 95)), opD 97 (.load false 1 (tD 96)), opD 98 (.len false (tD 97)), opD 99 (.bin .lss (tD 94) (tD 98))] [[], [], [1], [2], [3], [0, 4]] false) (.cond (.tmp 99) .skip (.exit 2))) (.seq (.block 3 (.seq (.region [opD 102 (.faddr 3 (tD 4)), opD 103 (.faddr 0 (tD 102)), opD 104 (.load false 1 (tD 103)), mvD 105 8, opD 106 (.iaddr 1 (tD 104) (tD 105)), opD 107 (.load false 1 (tD 106)), opD 108 (.faddr 4 (tD 5)), opD 109 (.faddr 1 (tD 108)), opD 110 (.load false 1 (tD 109)), opD 111 (.bin .neq (tD 107) (tD 110))] [[], [0], [1], [], [2, 3], [4], [], [6], [7], [5, 8]] true) (.cond (.tmp 111) (.region [mvD 112 7, opD 113 (.faddr 3 (tD 4)), opD 114 (.faddr 0 (tD 113)), opD 115 (.load false 1 (tD 114)), mvD 116 8, opD 117 (.iaddr 1 (tD 115) (tD 116)), opD 118 (.load false 1 (tD 117)), oqD 119 (.bslice 3 1 1 [vI] [(0, (tD 118))]) (.ty (.int .i64)), oqD 120 (.app 3 1 [vI] 8 (tD 112) (tD 119)) (.ty (.int .i64)), mvD 7 120] [[], [], [1], [2], [], [3, 4], [5], [6], [0, 7], [8, 8, 0, 1, 2, 3, 4, 5, 6, 7, 8]] false) .skip))) (.region [mvD 100 8, opD 101 (.bin .add (tD 100) (cD 1)), mvD 8 101] [[], [0], [1, 0, 1]] false)))))) (.seq (.region [mvD 121 7, opD 122 (.faddr 3 (tD 4)), opD 123 (.faddr 0 (tD 122)), onD (.store 1 (tD 123) (tD 121))] [[], [0], [1, 0], [2, 0, 0]] false) (.region [opD 124 (.faddr 3 (tD 4)), opD 125 (.faddr 1 (tD 124)), onD (.store 1 (tD 125) (.const vS))] [[], [0], [1]] false)))) .skip)))))))) .skip)))))))))))))) (.seq (.region [opD 126 (.load true 7 (tD 4)), onD (.store 7 (tD 6) (tD 126))] [[], [0, 0]] false) .ret)))
set_option maxRecDepth 1000000 in
theorem v14 (fu : Nat) : evF fu (d14 fu) rs14 127 (e14 fu).ash (e14 fu).osh (e14 fu).vsh = p14 fu := by kernel_rfl
set_option maxRecDepth 1000000 in
theorem b14 (fu : Nat) : BodyD Try.prog 14 127 (d14 fu).erase rs14 := bodyD_mk Try.func14 (by kernel_rfl) (by kernel_rfl) (by kernel_rfl) (by kernel_rfl)
theorem g14 (fu : Nat) : (e14 fu).Good Try.prog := good_by orders (b14 fu) (l := []) (by kernel_rfl) trivial (by kernel_rfl) (v14 fu)
def rs5 : List RVx := [(.tmp 4)]
/-- gazette/gazettelaw19.PlansEnd -/
def p5 (fu : Nat) : (Z1) × ((Z0) × (Unit)) → Option ((Unit) × (Bool)) := fun ⟨⟨a, c, f, h, i, j, k, l, m, n, o, _⟩, ⟨q, s, t, u, w, x, y, _⟩, _⟩ =>
Option.bind (p8 fu ()) fun ⟨_, z⟩ =>
Option.bind (p9 fu ((a, c, f, h, i, j, k, l, m, n, o, ()), (q, s, t, u, w, x, y, ()), ())) fun ⟨_, ⟨_, a0, _⟩⟩ =>
orK (E := (Unit) × (Unit))
 (bif (a0 != (0 : Int)) then
 inrO (some ((), z))
 else
 bif (c == (3 : Int)) then
 bif (m == n) then
 inrO (some ((), z))
 else
 some (.inl ((), ()))
 else
 some (.inl ((), ())))
 fun ⟨_, _⟩ =>
Option.bind (p12 fu (c, ())) fun ⟨_, c0⟩ =>
loopO (S := ((Int) × (Unit)) × ((Z1) × ((Z0) × (Unit)))) fu (fun ⟨⟨f0, _⟩, ⟨⟨h0, i0, j0, k0, l0, m0, n0, o0, q0, s0, t0, _⟩, ⟨u0, w0, x0, y0, z0, a1, c1, _⟩, _⟩⟩ =>
 bif decide (f0 > (0 : Int)) then
 orK (E := ((Bool) × (Unit)) × ((Z0) × (Unit)))
 (loopO (S := ((Bool) × ((Int) × (Unit))) × ((Z0) × (Unit))) fu (fun ⟨⟨f1, h1, _⟩, ⟨⟨u0, w0, x0, y0, z0, a1, c1, _⟩, _⟩⟩ =>
 bif decide (h1 < (32 : Int)) then
 bif !f1 then
 Option.bind (p9 fu ((h0, i0, j0, k0, l0, m0, n0, o0, q0, s0, t0, ()), (u0, w0, x0, y0, z0, a1, c1, ()), ())) fun ⟨_, ⟨i1, j1, _⟩⟩ =>
 bif (j1 != (0 : Int)) then
 inrO (inrO (inrO (some ((), false))))
 else
 bif (((List.length i1) : Int) == (0 : Int)) then
 inrO (inrO (inrO (some ((), false))))
 else
 loopO (S := ((Int) × (Unit)) × (Unit)) fu (fun ⟨⟨k1, _⟩, _⟩ =>
 bif decide (k1 < ((List.length i1) : Int)) then
 bif decide ((0 : Int) ≤ k1 ∧ k1 < (List.length i1 : Int)) then
 bif decide (Int.toNat k1 < List.length i1) then
 bif (((List.getD i1 (Int.toNat k1) (dflt T_api_Action)).1) == (4 : Int)) then
 inrO (inrO (inrO (inrO (some ((), false)))))
 else
 some (.inl ((IntKind.wrap .i64 (k1 + (1 : Int)), ()), ()))
 else none
 else none
 else
 inrO (bif decide ((0 : Int) ≤ 0 ∧ 0 < (List.length i1 : Int)) then
 bif decide (0 < List.length i1) then
 bif (((List.getD i1 0 (dflt T_api_Action)).1) == (4 : Int)) then
 bif decide ((0 : Int) ≤ 0 ∧ 0 < (List.length i1 : Int)) then
 bif decide (0 < List.length i1) then
 bif ((((((List.getD i1 0 (dflt T_api_Action)).2).2).2).1) != t0) then
 inrO (inrO (inrO (some ((), false))))
 else
 some (.inl ((true, IntKind.wrap .i64 (h1 + (1 : Int)), ()), ((u0, w0, x0, y0, z0, a1, c1, ()), ())))
 else none
 else none
 else
 bif decide ((0 : Int) ≤ 0 ∧ 0 < (List.length i1 : Int)) then
 bif decide (0 < List.length i1) then
 Option.bind (p14 fu ((h0, i0, j0, k0, l0, m0, n0, o0, q0, s0, t0, ()), (u0, w0, x0, y0, z0, a1, c1, ()), ((List.getD i1 0 (dflt T_api_Action)).1, ((List.getD i1 0 (dflt T_api_Action)).2).1, (((List.getD i1 0 (dflt T_api_Action)).2).2).1, ((((List.getD i1 0 (dflt T_api_Action)).2).2).2).1, (((((List.getD i1 0 (dflt T_api_Action)).2).2).2).2).1, (((((List.getD i1 0 (dflt T_api_Action)).2).2).2).2).2, ()), ())) fun ⟨_, ⟨l1, m1, n1, o1, q1, s1, t1, _⟩⟩ =>
 some (.inl ((f1, IntKind.wrap .i64 (h1 + (1 : Int)), ()), ((l1, m1, n1, o1, q1, s1, t1, ()), ())))
 else none
 else none
 else none
 else none))
 (((1 : Int), ()), ())
 else
 inrO (some (.inl ((f1, ()), ((u0, w0, x0, y0, z0, a1, c1, ()), ()))))
 else
 inrO (some (.inl ((f1, ()), ((u0, w0, x0, y0, z0, a1, c1, ()), ())))))
 ((false, (0 : Int), ()), ((u0, w0, x0, y0, z0, a1, c1, ()), ())))
 fun ⟨⟨f1, _⟩, ⟨⟨u0, w0, x0, y0, z0, a1, c1, _⟩, _⟩⟩ =>
 bif !f1 then
 inrO (some ((), false))
 else
 some (.inl ((IntKind.wrap .i64 (f0 - (1 : Int)), ()), ((h0, i0, j0, k0, l0, m0, n0, o0, q0, s0, IntKind.wrap .i64 (t0 + (1 : Int)), ()), (u0, w0, x0, y0, z0, a1, c1, ()), ())))
 else
 inrO (Option.bind (p9 fu ((h0, i0, j0, k0, l0, m0, n0, o0, q0, s0, t0, ()), (u0, w0, x0, y0, z0, a1, c1, ()), ())) fun ⟨_, ⟨_, u1, _⟩⟩ =>
 bif z then
 some ((), (u1 == (191 : Int)))
 else
 some ((), false)))
 ((IntKind.wrap .i64 (c0 - o), ()), ((a, c, f, h, i, j, k, l, m, n, o, ()), (q, s, t, u, w, x, y, ()), ()))
def e5 (fu : Nat) : Ent := ⟨5, (.cons Y5 (.cons Y9 .nil)), .nil, (.hole .bool), p5 fu⟩
def d5 (fu : Nat) : DC := (.seq (.region [opD 2 (.box 32 11 (tD 0)), opD 3 (.box 38 7 (tD 1)), opD 4 (.mov (.const vB))] [[], [], []] false) (.seq (.region [oqD 14 (.call 8 []) (.ent (e8 fu)), mvD 5 14] [[], [0, 0, 0]] false) (.seq (.region [opD 16 (.load true 11 (tD 2)), opD 17 (.load true 7 (tD 3)), oqD 18 (.call 9 [(tD 16), (tD 17)]) (.ent (e9 fu)), mvD 15 18, opD 19 (.ext (tD 15) 0), opD 20 (.ext (tD 15) 1), mvD 6 19, mvD 7 20] [[], [], [0, 1], [2], [3], [3], [4, 2, 0, 1, 2, 3, 4], [5, 6, 0, 1, 2, 3, 4, 5, 6]] false) (.join ⟨[], .nil, [], .nil, [2, 3, 5], [0, 16]⟩
 (.seq (.region [mvD 21 7, opD 22 (.bin .neq (tD 21) (cD 0)), mvD 23 22, ogD 24 23 false (.faddr 1 (tD 2)), ogD 25 23 false (.load false 1 (tD 24)), ogD 26 23 false (.bin .eql (tD 25) (cD 3)), ogD 27 23 false (.mov (tD 26)), ogD 28 27 true (.faddr 8 (tD 2)), ogD 29 27 true (.load false 1 (tD 28)), ogD 30 27 true (.faddr 9 (tD 2)), ogD 31 27 true (.load false 1 (tD 30)), ogD 32 27 true (.bin .eql (tD 29) (tD 31)), ogD 33 23 false (.pick (tD 27) (tD 32) (.const vB)), opD 34 (.pick (tD 23) (.const (.bool true)) (tD 33))] [[], [0], [1], [2], [3, 2], [4, 2], [5, 2, 2], [6], [7, 6], [6], [9, 6], [8, 10, 6], [6, 11, 2], [2, 12]] false) (.cond (.tmp 34) (.seq (.region [mvD 35 5, mvD 4 35] [[], [0, 0]] false) .ret) .skip))
 (.seq (.seq (.region [opD 36 (.faddr 1 (tD 2)), opD 37 (.load false 1 (tD 36)), oqD 38 (.call 12 [(tD 37)]) (.ent (e12 fu)), opD 39 (.faddr 10 (tD 2)), opD 40 (.load false 1 (tD 39)), opD 41 (.bin .sub (tD 38) (tD 40)), mvD 8 41] [[], [0], [1], [], [3], [2, 4], [5, 2, 0, 1, 2, 3, 4, 5]] true) (.block 0 (.loop ⟨[8], (.cons (.hole (.int .i64)) .nil), [(0, 32, 11), (16, 38, 7)], (.cons Y5 (.cons Y9 .nil)), [2, 3, 5], []⟩
 (.seq (.seq (.region [mvD 42 8, opD 43 (.bin .gtr (tD 42) (cD 0))] [[], [0]] false) (.cond (.tmp 43) .skip (.exit 0))) (.seq (.block 1 (.seq (.region [opD 9 (.mov (.const vB))] [[]] false) (.join ⟨[9], (.cons (.hole .bool) .nil), [(16, 38, 7)], (.cons Y9 .nil), [2, 3, 5, 8], [0]⟩
 (.seq (.region [opD 10 (.mov (cD 0))] [[]] false) (.block 2 (.loop ⟨[9, 10], (.cons (.hole .bool) (.cons (.hole (.int .i64)) .nil)), [(16, 38, 7)], (.cons Y9 .nil), [2, 3, 5, 8], [0]⟩
 (.seq (.seq (.region [mvD 46 10, opD 47 (.bin .lss (tD 46) (cD 32)), mvD 48 47, ogD 49 48 true (.mov (tD 9)), ogD 50 48 true (.not (tD 49)), opD 51 (.pick (tD 48) (tD 50) (.const vB))] [[], [0], [1], [2], [3, 2], [2, 4]] false) (.cond (.tmp 51) .skip (.exit 2))) (.seq (.block 3 (.seq (.region [opD 55 (.load true 11 (tD 2)), opD 56 (.load true 7 (tD 3)), oqD 57 (.call 9 [(tD 55), (tD 56)]) (.ent (e9 fu)), mvD 54 57, opD 58 (.ext (tD 54) 0), opD 59 (.ext (tD 54) 1), mvD 11 58, mvD 12 59] [[], [], [0, 1], [2], [3], [3], [4, 2, 0, 1, 2, 3, 4], [5, 6, 0, 1, 2, 3, 4, 5, 6]] false) (.seq (.seq (.region [mvD 60 12, opD 61 (.bin .neq (tD 60) (cD 0)), mvD 62 61, ogD 63 62 false (.mov (tD 11)), ogD 64 62 false (.len false (tD 63)), ogD 65 62 false (.bin .eql (tD 64) (cD 0)), opD 66 (.pick (tD 62) (.const (.bool true)) (tD 65))] [[], [0], [1], [2], [3, 2], [4, 2], [2, 5]] false) (.cond (.tmp 66) (.seq (.region [opD 4 (.mov (.const vB))] [[]] false) .ret) .skip)) (.seq (.seq (.region [opD 13 (.mov (cD 1))] [[]] false) (.block 4 (.loop ⟨[13], (.cons (.hole (.int .i64)) .nil), [], .nil, [2, 3, 5, 8, 9, 10, 11, 50, 65], [0, 16, 512]⟩
 (.seq (.seq (.region [mvD 67 13, mvD 68 11, opD 69 (.len false (tD 68)), opD 70 (.bin .lss (tD 67) (tD 69))] [[], [], [1], [0, 2]] false) (.cond (.tmp 70) .skip (.exit 4))) (.seq (.block 5 (.seq (.region [mvD 73 11, mvD 74 13, opD 75 (.iaddr 6 (tD 73) (tD 74)), opD 76 (.faddr 0 (tD 75)), opD 77 (.load false 1 (tD 76)), opD 78 (.bin .eql (tD 77) (cD 4))] [[], [], [0, 1], [2], [3], [4]] false) (.cond (.tmp 78) (.seq (.region [opD 4 (.mov (.const vB))] [[]] false) .ret) .skip))) (.region [mvD 71 13, opD 72 (.bin .add (tD 71) (cD 1)), mvD 13 72] [[], [0], [1, 0, 1]] false)))))) (.seq (.region [mvD 79 11, opD 80 (.iaddr 6 (tD 79) (cD 0)), opD 81 (.faddr 0 (tD 80)), opD 82 (.load false 1 (tD 81)), opD 83 (.bin .eql (tD 82) (cD 4))] [[], [0], [1], [2], [3]] false) (.cond (.tmp 83) (.seq (.seq (.region [mvD 84 11, opD 85 (.iaddr 6 (tD 84) (cD 0)), opD 86 (.faddr 3 (tD 85)), opD 87 (.load false 1 (tD 86)), opD 88 (.faddr 10 (tD 2)), opD 89 (.load false 1 (tD 88)), opD 90 (.bin .neq (tD 87) (tD 89))] [[], [0], [1], [2], [], [4], [3, 5]] true) (.cond (.tmp 90) (.seq (.region [opD 4 (.mov (.const vB))] [[]] false) .ret) .skip)) (.region [opD 9 (.mov (.const (.bool true)))] [[]] false)) (.region [opD 91 (.load true 11 (tD 2)), opD 92 (.load true 7 (tD 3)), mvD 93 11, opD 94 (.iaddr 6 (tD 93) (cD 0)), opD 95 (.load true 6 (tD 94)), oqD 96 (.call 14 [(tD 91), (tD 92), (tD 95)]) (.ent (e14 fu)), onD (.store 7 (tD 3) (tD 96))] [[], [], [], [2], [3], [0, 1, 4], [5, 5, 0, 1, 2, 3, 4, 5]] true))))))) (.region [mvD 52 10, opD 53 (.bin .add (tD 52) (cD 1)), mvD 10 53] [[], [0], [1, 0, 1]] false))))))
 (.seq (.seq (.region [mvD 97 9, opD 98 (.not (tD 97))] [[], [0]] false) (.cond (.tmp 98) (.seq (.region [opD 4 (.mov (.const vB))] [[]] false) .ret) .skip)) (.region [opD 99 (.faddr 10 (tD 2)), opD 100 (.load false 1 (tD 99)), opD 101 (.bin .add (tD 100) (cD 1)), opD 102 (.faddr 10 (tD 2)), onD (.store 1 (tD 102) (tD 101))] [[], [0], [1], [0, 1, 2], [3, 2, 0, 1, 2]] false))))) (.region [mvD 44 8, opD 45 (.bin .sub (tD 44) (cD 1)), mvD 8 45] [[], [0], [1, 0, 1]] false)))))) (.seq (.region [opD 104 (.load true 11 (tD 2)), opD 105 (.load true 7 (tD 3)), oqD 106 (.call 9 [(tD 104), (tD 105)]) (.ent (e9 fu)), mvD 103 106, opD 107 (.ext (tD 103) 0), opD 108 (.ext (tD 103) 1), mvD 7 108] [[], [], [0, 1], [2], [3], [3], [5, 2, 0, 1, 2, 3, 4, 5]] false) (.seq (.region [mvD 109 5, mvD 110 109, ogD 111 110 true (.mov (tD 7)), ogD 112 110 true (.bin .eql (tD 111) (cD 191)), opD 113 (.pick (tD 110) (tD 112) (.const vB)), mvD 4 113] [[], [0], [1], [2, 1], [1, 3], [4, 1, 0, 1, 2, 3, 4]] false) .ret)))))))
set_option maxRecDepth 1000000 in
theorem v5 (fu : Nat) : evF fu (d5 fu) rs5 114 (e5 fu).ash (e5 fu).osh (e5 fu).vsh = p5 fu := by kernel_rfl
set_option maxRecDepth 1000000 in
theorem b5 (fu : Nat) : BodyD Try.prog 5 114 (d5 fu).erase rs5 := bodyD_mk Try.func5 (by kernel_rfl) (by kernel_rfl) (by kernel_rfl) (by kernel_rfl)
theorem g5 (fu : Nat) : (e5 fu).Good Try.prog := good_by orders (b5 fu) (l := [e8 fu, e9 fu, e12 fu, e9 fu, e14 fu, e9 fu]) (by kernel_rfl) ⟨g8 fu, g9 fu, g12 fu, g9 fu, g14 fu, g9 fu, trivial⟩ (by kernel_rfl) (v5 fu)
def rs6 : List RVx := [(.tmp 6)]
/-- gazette/gazettelaw19.PlansMore -/
def p6 (fu : Nat) : (Z1) × ((Z0) × ((Z0) × (Unit))) → Option ((Unit) × (Bool)) := fun ⟨⟨a, c, f, h, i, j, k, l, m, n, o, _⟩, ⟨q, s, t, u, w, x, y, _⟩, ⟨z, a0, c0, _, _, _, _, _⟩, _⟩ =>
Option.bind (p8 fu ()) fun ⟨_, f0⟩ =>
Option.bind (p9 fu ((a, c, f, h, i, j, k, l, m, n, o, ()), (q, s, t, u, w, x, y, ()), ())) fun ⟨_, ⟨h0, i0, _⟩⟩ =>
orK (E := ((Bool) × (Unit)) × (Unit))
 (bif (i0 != (0 : Int)) then
 some (.inl ((true, ()), ()))
 else
 some (.inl (((((List.length h0) : Int) == (0 : Int)), ()), ())))
 fun ⟨⟨j0, _⟩, _⟩ =>
bif j0 then
 bif f0 then
 some ((), (((List.length h0) : Int) == (0 : Int)))
 else
 some ((), false)
else
 bif decide (0 = List.length ([] : List (Int))) then
 bif decide (List.length ([] : List (Int)) + List.length z ≤ maxLen ∧ (List.length ([] : List (Int)) + List.length z) * 8 ≤ 140737488355328) then
 bif decide (List.length (([] : List (Int)) ++ z) = List.length (([] : List (Int)) ++ z)) then
 bif decide (List.length (([] : List (Int)) ++ z) + List.length q ≤ maxLen ∧ (List.length (([] : List (Int)) ++ z) + List.length q) * 8 ≤ 140737488355328) then
 bif decide (0 = List.length ([] : List (D_api_Site))) then
 bif decide (List.length ([] : List (D_api_Site)) + List.length a0 ≤ maxLen ∧ (List.length ([] : List (D_api_Site)) + List.length a0) * 16 ≤ 140737488355328) then
 bif decide (List.length (([] : List (D_api_Site)) ++ a0) = List.length (([] : List (D_api_Site)) ++ a0)) then
 bif decide (List.length (([] : List (D_api_Site)) ++ a0) + List.length s ≤ maxLen ∧ (List.length (([] : List (D_api_Site)) ++ a0) + List.length s) * 16 ≤ 140737488355328) then
 bif decide (0 = List.length ([] : List (D_api_Site))) then
 bif decide (List.length ([] : List (D_api_Site)) + List.length c0 ≤ maxLen ∧ (List.length ([] : List (D_api_Site)) + List.length c0) * 16 ≤ 140737488355328) then
 bif decide (List.length (([] : List (D_api_Site)) ++ c0) = List.length (([] : List (D_api_Site)) ++ c0)) then
 bif decide (List.length (([] : List (D_api_Site)) ++ c0) + List.length t ≤ maxLen ∧ (List.length (([] : List (D_api_Site)) ++ c0) + List.length t) * 16 ≤ 140737488355328) then
 bif decide (List.length ((([] : List (Int)) ++ z) ++ q) = List.length ((([] : List (Int)) ++ z) ++ q)) then
 bif decide (List.length ((([] : List (D_api_Site)) ++ a0) ++ s) = List.length ((([] : List (D_api_Site)) ++ a0) ++ s)) then
 bif decide (List.length ((([] : List (D_api_Site)) ++ c0) ++ t) = List.length ((([] : List (D_api_Site)) ++ c0) ++ t)) then
 Option.bind (p9 fu ((a, c, f, h, i, j, k, l, m, n, o, ()), (((([] : List (Int)) ++ z) ++ q), ((([] : List (D_api_Site)) ++ a0) ++ s), ((([] : List (D_api_Site)) ++ c0) ++ t), u, w, x, y, ()), ())) fun ⟨_, ⟨k0, l0, _⟩⟩ =>
 bif (l0 != (0 : Int)) then
 some ((), false)
 else
 bif (((List.length k0) : Int) == (0 : Int)) then
 some ((), false)
 else
 bif decide (((List.length k0) : Int) > (IntKind.wrap .i64 (((List.length h0) : Int) + (1 : Int)))) then
 some ((), false)
 else
 bif f0 then
 bif decide ((0 : Int) ≤ 0 ∧ 0 < (List.length h0 : Int)) then
 bif decide (0 < List.length h0) then
 bif (((List.getD h0 0 (dflt T_api_Action)).1) != (4 : Int)) then
 some ((), true)
 else
 bif decide ((0 : Int) ≤ 0 ∧ 0 < (List.length k0 : Int)) then
 bif decide (0 < List.length k0) then
 bif decide ((0 : Int) ≤ 0 ∧ 0 < (List.length h0 : Int)) then
 bif decide (0 < List.length h0) then
 some ((), (((List.getD k0 0 (dflt T_api_Action)).1) == ((List.getD h0 0 (dflt T_api_Action)).1) && ((((List.getD k0 0 (dflt T_api_Action)).2).1) == (((List.getD h0 0 (dflt T_api_Action)).2).1) && (((((List.getD k0 0 (dflt T_api_Action)).2).2).1) == ((((List.getD h0 0 (dflt T_api_Action)).2).2).1) && ((((((List.getD k0 0 (dflt T_api_Action)).2).2).2).1) == (((((List.getD h0 0 (dflt T_api_Action)).2).2).2).1) && (((((((List.getD k0 0 (dflt T_api_Action)).2).2).2).2).1) == ((((((List.getD h0 0 (dflt T_api_Action)).2).2).2).2).1) && (((((((List.getD k0 0 (dflt T_api_Action)).2).2).2).2).2) == ((((((List.getD h0 0 (dflt T_api_Action)).2).2).2).2).2) && true)))))))
 else none
 else none
 else none
 else none
 else none
 else none
 else
 some ((), false)
 else none
 else none
 else none
 else none
 else none
 else none
 else none
 else none
 else none
 else none
 else none
 else none
 else none
 else none
 else none
def e6 (fu : Nat) : Ent := ⟨6, (.cons Y5 (.cons Y9 (.cons Y9 .nil))), .nil, (.hole .bool), p6 fu⟩
def d6 (fu : Nat) : DC := (.seq (.region [opD 3 (.box 32 11 (tD 0)), opD 4 (.box 38 7 (tD 1)), opD 5 (.box 38 7 (tD 2)), opD 6 (.mov (.const vB))] [[], [], [], []] false) (.seq (.region [oqD 13 (.call 8 []) (.ent (e8 fu)), mvD 7 13] [[], [0, 0, 0]] false) (.seq (.region [opD 15 (.load true 11 (tD 3)), opD 16 (.load true 7 (tD 4)), oqD 17 (.call 9 [(tD 15), (tD 16)]) (.ent (e9 fu)), mvD 14 17, opD 18 (.ext (tD 14) 0), opD 19 (.ext (tD 14) 1), mvD 8 18, mvD 9 19] [[], [], [0, 1], [2], [3], [3], [4, 2, 0, 1, 2, 3, 4], [5, 6, 0, 1, 2, 3, 4, 5, 6]] false) (.seq (.join ⟨[26], (.cons (.hole .bool) .nil), [], .nil, [3, 4, 5, 7, 8], [0, 16, 32, 128]⟩
 (.region [mvD 20 9, opD 21 (.bin .neq (tD 20) (cD 0)), mvD 22 21, ogD 23 22 false (.mov (tD 8)), ogD 24 22 false (.len false (tD 23)), ogD 25 22 false (.bin .eql (tD 24) (cD 0)), opD 26 (.pick (tD 22) (.const (.bool true)) (tD 25))] [[], [0], [1], [2], [3, 2], [4, 2], [2, 5]] false)
 (.cond (.tmp 26) (.seq (.region [mvD 27 7, mvD 28 27, ogD 29 28 true (.mov (tD 8)), ogD 30 28 true (.len false (tD 29)), ogD 31 28 true (.bin .eql (tD 30) (cD 0)), opD 32 (.pick (tD 28) (tD 31) (.const vB)), mvD 6 32] [[], [0], [1], [2, 1], [3, 1], [1, 4], [5, 1, 0, 1, 2, 3, 4, 5]] false) .ret) .skip)) (.seq (.region [opD 33 (.load true 7 (tD 4)), opD 10 (.alloc 38 7 [vS, vS, vS, vS, vS, vI, vB]), onD (.store 7 (tD 10) (tD 33))] [[], [], [1, 0, 0, 1]] false) (.seq (.region [oqD 34 (.bslice 27 1 0 [vU] []) (.ty (.int .u64)), opD 35 (.faddr 0 (tD 5)), opD 36 (.load false 1 (tD 35)), oqD 37 (.app 27 1 [vU] 8 (tD 34) (tD 36)) (.ty (.int .u64)), opD 38 (.faddr 0 (tD 4)), opD 39 (.load false 1 (tD 38)), oqD 40 (.app 27 1 [vU] 8 (tD 37) (tD 39)) (.ty (.int .u64)), opD 41 (.faddr 0 (tD 10)), onD (.store 1 (tD 41) (tD 40))] [[], [], [1], [0, 2], [], [4], [3, 5, 3], [0, 1, 2, 3, 4, 5, 6], [7, 6, 6, 0, 1, 2, 3, 4, 5, 6]] true) (.seq (.region [oqD 42 (.bslice 40 2 0 [vU, vI] []) (.ty T_api_Site), opD 43 (.faddr 1 (tD 5)), opD 44 (.load false 1 (tD 43)), oqD 45 (.app 40 2 [vU, vI] 16 (tD 42) (tD 44)) (.ty T_api_Site), opD 46 (.faddr 1 (tD 4)), opD 47 (.load false 1 (tD 46)), oqD 48 (.app 40 2 [vU, vI] 16 (tD 45) (tD 47)) (.ty T_api_Site), opD 49 (.faddr 1 (tD 10)), onD (.store 1 (tD 49) (tD 48))] [[], [], [1], [0, 2], [], [4], [3, 5, 3], [0, 1, 2, 3, 4, 5, 6], [7, 6, 6, 0, 1, 2, 3, 4, 5, 6]] true) (.seq (.region [oqD 50 (.bslice 40 2 0 [vU, vI] []) (.ty T_api_Site), opD 51 (.faddr 2 (tD 5)), opD 52 (.load false 1 (tD 51)), oqD 53 (.app 40 2 [vU, vI] 16 (tD 50) (tD 52)) (.ty T_api_Site), opD 54 (.faddr 2 (tD 4)), opD 55 (.load false 1 (tD 54)), oqD 56 (.app 40 2 [vU, vI] 16 (tD 53) (tD 55)) (.ty T_api_Site), opD 57 (.faddr 2 (tD 10)), onD (.store 1 (tD 57) (tD 56))] [[], [], [1], [0, 2], [], [4], [3, 5, 3], [0, 1, 2, 3, 4, 5, 6], [7, 6, 6, 0, 1, 2, 3, 4, 5, 6]] true) (.seq (.region [opD 59 (.load true 11 (tD 3)), opD 60 (.load true 7 (tD 10)), oqD 61 (.call 9 [(tD 59), (tD 60)]) (.ent (e9 fu)), mvD 58 61, opD 62 (.ext (tD 58) 0), opD 63 (.ext (tD 58) 1), mvD 11 62, mvD 12 63] [[], [], [0, 1], [2], [3], [3], [4, 2, 0, 1, 2, 3, 4], [5, 6, 0, 1, 2, 3, 4, 5, 6]] false) (.seq (.seq (.region [mvD 64 12, opD 65 (.bin .neq (tD 64) (cD 0)), mvD 66 65, ogD 67 66 false (.mov (tD 11)), ogD 68 66 false (.len false (tD 67)), ogD 69 66 false (.bin .eql (tD 68) (cD 0)), opD 70 (.pick (tD 66) (.const (.bool true)) (tD 69)), mvD 71 70, ogD 72 71 false (.mov (tD 11)), ogD 73 71 false (.len false (tD 72)), ogD 74 71 false (.mov (tD 8)), ogD 75 71 false (.len false (tD 74)), ogD 76 71 false (.bin .add (tD 75) (cD 1)), ogD 77 71 false (.bin .gtr (tD 73) (tD 76)), opD 78 (.pick (tD 71) (.const (.bool true)) (tD 77))] [[], [0], [1], [2], [3, 2], [4, 2], [2, 5], [6, 2], [7], [8, 7], [7], [10, 7], [11, 7], [9, 12, 7], [7, 13]] false) (.cond (.tmp 78) (.seq (.region [opD 6 (.mov (.const vB))] [[]] false) .ret) .skip)) (.seq (.region [mvD 79 7, mvD 80 79, ogD 81 80 true (.mov (tD 8)), ogD 82 80 true (.iaddr 6 (tD 81) (cD 0)), ogD 83 80 true (.faddr 0 (tD 82)), ogD 84 80 true (.load false 1 (tD 83)), ogD 85 80 true (.bin .neq (tD 84) (cD 4)), ogD 86 80 true (.mov (tD 85)), ogD 87 86 false (.mov (tD 11)), ogD 88 86 false (.iaddr 6 (tD 87) (cD 0)), ogD 89 86 false (.load true 6 (tD 88)), ogD 90 86 false (.mov (tD 8)), ogD 91 86 false (.iaddr 6 (tD 90) (cD 0)), ogD 92 86 false (.load true 6 (tD 91)), ogD 93 86 false (.seq false [.int, .int, .int, .int, .int, .int] (tD 89) (tD 92)), ogD 94 80 true (.pick (tD 86) (.const (.bool true)) (tD 93)), opD 95 (.pick (tD 80) (tD 94) (.const vB)), mvD 6 95] [[], [0], [1], [2, 1], [3, 1], [4, 1], [5, 1], [6, 1, 1], [7], [8, 7], [9, 7], [7], [11, 7], [12, 7], [10, 13, 7], [7, 14, 1], [1, 15], [16, 7, 0, 1, 2, 3, 4, 5, 6, 7, 8, 9, 10, 11, 12, 13, 14, 15, 16]] true) .ret)))))))))))
set_option maxRecDepth 1000000 in
theorem v6 (fu : Nat) : evF fu (d6 fu) rs6 96 (e6 fu).ash (e6 fu).osh (e6 fu).vsh = p6 fu := by kernel_rfl
set_option maxRecDepth 1000000 in
theorem b6 (fu : Nat) : BodyD Try.prog 6 96 (d6 fu).erase rs6 := bodyD_mk Try.func6 (by kernel_rfl) (by kernel_rfl) (by kernel_rfl) (by kernel_rfl)
theorem g6 (fu : Nat) : (e6 fu).Good Try.prog := good_by orders (b6 fu) (l := [e8 fu, e9 fu, e9 fu]) (by kernel_rfl) ⟨g8 fu, g9 fu, g9 fu, trivial⟩ (by kernel_rfl) (v6 fu)
def rs7 : List RVx := [(.tmp 6)]
/-- gazette/gazettelaw19.PlansNamed -/
def p7 (fu : Nat) : (Z1) × ((Z0) × ((Z1) × (Unit))) → Option ((Unit) × (Bool)) := fun ⟨⟨a, c, f, h, i, j, k, l, m, n, o, _⟩, ⟨q, s, t, u, w, x, y, _⟩, ⟨z, _, a0, _, _, c0, _, _, _, _, _, _⟩, _⟩ =>
Option.bind (p8 fu ()) fun ⟨_, f0⟩ =>
Option.bind (p9 fu ((a, c, f, h, i, j, k, l, m, n, o, ()), (q, s, t, u, w, x, y, ()), ())) fun ⟨_, ⟨h0, i0, _⟩⟩ =>
loopO (S := ((Int) × (Unit)) × ((Z3) × (Unit))) fu (fun ⟨⟨j0, _⟩, ⟨⟨k0, _, _, l0, m0, n0, o0, _⟩, _⟩⟩ =>
 bif decide (j0 ≥ (0 : Int)) then
 bif decide ((0 : Int) ≤ j0 ∧ j0 < (List.length q : Int)) then
 bif decide (Int.toNat j0 < List.length q) then
 bif decide (List.length k0 = List.length k0) then
 bif decide (List.length k0 + List.length ([(List.getD q (Int.toNat j0) (dflt (.int .u64)))]) ≤ maxLen ∧ (List.length k0 + List.length ([(List.getD q (Int.toNat j0) (dflt (.int .u64)))])) * 8 ≤ 140737488355328) then
 bif decide (List.length (k0 ++ [(List.getD q (Int.toNat j0) (dflt (.int .u64)))]) = List.length (k0 ++ [(List.getD q (Int.toNat j0) (dflt (.int .u64)))])) then
 some (.inl ((IntKind.wrap .i64 (j0 - (1 : Int)), ()), (((k0 ++ [(List.getD q (Int.toNat j0) (dflt (.int .u64)))]), (), (), l0, m0, n0, o0, ()), ())))
 else none
 else none
 else none
 else none
 else none
 else
 inrO (bif decide (List.length k0 = List.length k0) then
 loopO (S := ((Int) × (Unit)) × ((Z2) × (Unit))) fu (fun ⟨⟨q0, _⟩, ⟨⟨k0, l0, _, m0, n0, o0, s0, _⟩, _⟩⟩ =>
 bif decide (q0 ≥ (0 : Int)) then
 bif decide ((0 : Int) ≤ q0 ∧ q0 < (List.length s : Int)) then
 bif decide (Int.toNat q0 < List.length s) then
 bif decide (List.length l0 = List.length l0) then
 bif decide (List.length l0 + List.length ([((List.getD s (Int.toNat q0) (dflt T_api_Site)).1, (List.getD s (Int.toNat q0) (dflt T_api_Site)).2)]) ≤ maxLen ∧ (List.length l0 + List.length ([((List.getD s (Int.toNat q0) (dflt T_api_Site)).1, (List.getD s (Int.toNat q0) (dflt T_api_Site)).2)])) * 16 ≤ 140737488355328) then
 bif decide (List.length k0 = List.length k0) then
 bif decide (List.length (l0 ++ [((List.getD s (Int.toNat q0) (dflt T_api_Site)).1, (List.getD s (Int.toNat q0) (dflt T_api_Site)).2)]) = List.length (l0 ++ [((List.getD s (Int.toNat q0) (dflt T_api_Site)).1, (List.getD s (Int.toNat q0) (dflt T_api_Site)).2)])) then
 some (.inl ((IntKind.wrap .i64 (q0 - (1 : Int)), ()), ((k0, (l0 ++ [((List.getD s (Int.toNat q0) (dflt T_api_Site)).1, (List.getD s (Int.toNat q0) (dflt T_api_Site)).2)]), (), m0, n0, o0, s0, ()), ())))
 else none
 else none
 else none
 else none
 else none
 else none
 else
 inrO (bif decide (List.length k0 = List.length k0) then
 bif decide (List.length l0 = List.length l0) then
 loopO (S := ((Int) × (Unit)) × ((Z0) × (Unit))) fu (fun ⟨⟨t0, _⟩, ⟨⟨k0, l0, m0, n0, o0, s0, u0, _⟩, _⟩⟩ =>
 bif decide (t0 ≥ (0 : Int)) then
 bif decide ((0 : Int) ≤ t0 ∧ t0 < (List.length t : Int)) then
 bif decide (Int.toNat t0 < List.length t) then
 bif decide (List.length m0 = List.length m0) then
 bif decide (List.length m0 + List.length ([((List.getD t (Int.toNat t0) (dflt T_api_Site)).1, (List.getD t (Int.toNat t0) (dflt T_api_Site)).2)]) ≤ maxLen ∧ (List.length m0 + List.length ([((List.getD t (Int.toNat t0) (dflt T_api_Site)).1, (List.getD t (Int.toNat t0) (dflt T_api_Site)).2)])) * 16 ≤ 140737488355328) then
 bif decide (List.length k0 = List.length k0) then
 bif decide (List.length l0 = List.length l0) then
 bif decide (List.length (m0 ++ [((List.getD t (Int.toNat t0) (dflt T_api_Site)).1, (List.getD t (Int.toNat t0) (dflt T_api_Site)).2)]) = List.length (m0 ++ [((List.getD t (Int.toNat t0) (dflt T_api_Site)).1, (List.getD t (Int.toNat t0) (dflt T_api_Site)).2)])) then
 some (.inl ((IntKind.wrap .i64 (t0 - (1 : Int)), ()), ((k0, l0, (m0 ++ [((List.getD t (Int.toNat t0) (dflt T_api_Site)).1, (List.getD t (Int.toNat t0) (dflt T_api_Site)).2)]), n0, o0, s0, u0, ()), ())))
 else none
 else none
 else none
 else none
 else none
 else none
 else none
 else
 inrO (bif decide (List.length k0 = List.length k0) then
 bif decide (List.length l0 = List.length l0) then
 bif decide (List.length m0 = List.length m0) then
 Option.bind (p9 fu ((z, c, a0, h, i, c0, k, l, m, n, o, ()), (k0, l0, m0, n0, o0, s0, u0, ()), ())) fun ⟨_, ⟨w0, x0, _⟩⟩ =>
 bif f0 then
 bif (i0 == x0) then
 bif decide (List.length h0 = List.length h0) then
 bif decide (List.length w0 = List.length w0) then
 Option.bind (p11 fu (h0, w0, ())) fun ⟨_, y0⟩ =>
 some ((), y0)
 else none
 else none
 else
 some ((), false)
 else
 some ((), false)
 else none
 else none
 else none))
 ((IntKind.wrap .i64 ((List.length t : Int) - (1 : Int)), ()), ((k0, l0, [], m0, n0, o0, s0, ()), ()))
 else none
 else none))
 ((IntKind.wrap .i64 ((List.length s : Int) - (1 : Int)), ()), ((k0, [], (), l0, m0, n0, o0, ()), ()))
 else none))
 ((IntKind.wrap .i64 ((List.length q : Int) - (1 : Int)), ()), (([], (), (), u, w, x, y, ()), ()))
def e7 (fu : Nat) : Ent := ⟨7, (.cons Y5 (.cons Y9 (.cons Y5 .nil))), .nil, (.hole .bool), p7 fu⟩
def d7 (fu : Nat) : DC := (.seq (.region [opD 3 (.box 32 11 (tD 0)), opD 4 (.box 38 7 (tD 1)), opD 5 (.box 32 11 (tD 2)), opD 6 (.mov (.const vB))] [[], [], [], []] false) (.seq (.region [oqD 17 (.call 8 []) (.ent (e8 fu)), mvD 7 17] [[], [0, 0, 0]] false) (.seq (.region [opD 19 (.load true 11 (tD 3)), opD 20 (.load true 7 (tD 4)), oqD 21 (.call 9 [(tD 19), (tD 20)]) (.ent (e9 fu)), mvD 18 21, opD 22 (.ext (tD 18) 0), opD 23 (.ext (tD 18) 1), mvD 8 22, mvD 9 23] [[], [], [0, 1], [2], [3], [3], [4, 2, 0, 1, 2, 3, 4], [5, 6, 0, 1, 2, 3, 4, 5, 6]] false) (.seq (.region [opD 24 (.load true 11 (tD 3)), opD 10 (.alloc 32 11 [vU, vI, vT, vU, vU, vT, vS, vS, vI, vI, vI]), onD (.store 11 (tD 10) (tD 24))] [[], [], [1, 0, 0, 1]] false) (.seq (.region [opD 25 (.faddr 0 (tD 5)), opD 26 (.load false 1 (tD 25)), opD 27 (.faddr 0 (tD 10)), onD (.store 1 (tD 27) (tD 26))] [[], [0], [0, 1], [2, 1, 0, 1]] false) (.seq (.region [opD 28 (.faddr 2 (tD 5)), opD 29 (.load false 1 (tD 28)), opD 30 (.faddr 2 (tD 10)), onD (.store 1 (tD 30) (tD 29))] [[], [0], [0, 1], [2, 1, 0, 1]] false) (.seq (.region [opD 31 (.faddr 5 (tD 5)), opD 32 (.load false 1 (tD 31)), opD 33 (.faddr 5 (tD 10)), onD (.store 1 (tD 33) (tD 32))] [[], [0], [0, 1], [2, 1, 0, 1]] false) (.seq (.region [opD 34 (.load true 7 (tD 4)), opD 11 (.alloc 38 7 [vS, vS, vS, vS, vS, vI, vB]), onD (.store 7 (tD 11) (tD 34))] [[], [], [1, 0, 0, 1]] false) (.seq (.region [opD 35 (.faddr 0 (tD 11)), onD (.store 1 (tD 35) (.const vS))] [[], [0]] false) (.seq (.region [opD 36 (.faddr 1 (tD 11)), onD (.store 1 (tD 36) (.const vS))] [[], [0]] false) (.seq (.region [opD 37 (.faddr 2 (tD 11)), onD (.store 1 (tD 37) (.const vS))] [[], [0]] false) (.seq (.seq (.region [opD 38 (.faddr 0 (tD 4)), opD 39 (.load false 1 (tD 38)), opD 40 (.len false (tD 39)), opD 41 (.bin .sub (tD 40) (cD 1)), mvD 12 41] [[], [0], [1], [2], [3, 0, 1, 2, 3]] false) (.block 0 (.loop ⟨[12], (.cons (.hole (.int .i64)) .nil), [(480, 38, 7)], (.cons Y12 .nil), [4, 7, 8, 9, 10, 11], [16, 128, 240]⟩
 (.seq (.seq (.region [mvD 42 12, opD 43 (.bin .geq (tD 42) (cD 0))] [[], [0]] false) (.cond (.tmp 43) .skip (.exit 0))) (.seq (.block 1 (.region [opD 46 (.faddr 0 (tD 11)), opD 47 (.load false 1 (tD 46)), opD 48 (.faddr 0 (tD 4)), opD 49 (.load false 1 (tD 48)), mvD 50 12, opD 51 (.iaddr 1 (tD 49) (tD 50)), opD 52 (.load false 1 (tD 51)), oqD 53 (.bslice 27 1 1 [vU] [(0, (tD 52))]) (.ty (.int .u64)), oqD 54 (.app 27 1 [vU] 8 (tD 47) (tD 53)) (.ty (.int .u64)), opD 55 (.faddr 0 (tD 11)), onD (.store 1 (tD 55) (tD 54))] [[], [0], [], [2], [], [3, 4], [5], [6], [1, 7], [0, 1, 2, 3, 4, 5, 6, 7, 8], [9, 8, 8, 0, 1, 2, 3, 4, 5, 6, 7, 8]] true)) (.region [mvD 44 12, opD 45 (.bin .sub (tD 44) (cD 1)), mvD 12 45] [[], [0], [1, 0, 1]] false)))))) (.seq (.seq (.region [opD 56 (.faddr 1 (tD 4)), opD 57 (.load false 1 (tD 56)), opD 58 (.len false (tD 57)), opD 59 (.bin .sub (tD 58) (cD 1)), mvD 13 59] [[], [0], [1], [2], [3, 0, 1, 2, 3]] false) (.block 2 (.loop ⟨[13], (.cons (.hole (.int .i64)) .nil), [(480, 38, 7)], (.cons Y13 .nil), [4, 7, 8, 9, 10, 11], [16, 128, 240]⟩
 (.seq (.seq (.region [mvD 60 13, opD 61 (.bin .geq (tD 60) (cD 0))] [[], [0]] false) (.cond (.tmp 61) .skip (.exit 2))) (.seq (.block 3 (.region [opD 64 (.faddr 1 (tD 11)), opD 65 (.load false 1 (tD 64)), opD 66 (.faddr 1 (tD 4)), opD 67 (.load false 1 (tD 66)), mvD 68 13, opD 69 (.iaddr 2 (tD 67) (tD 68)), opD 70 (.load true 2 (tD 69)), oqD 71 (.bslice 40 2 1 [vU, vI] [(0, (tD 70))]) (.ty T_api_Site), oqD 72 (.app 40 2 [vU, vI] 16 (tD 65) (tD 71)) (.ty T_api_Site), opD 73 (.faddr 1 (tD 11)), onD (.store 1 (tD 73) (tD 72))] [[], [0], [], [2], [], [3, 4], [5], [6], [1, 7], [0, 1, 2, 3, 4, 5, 6, 7, 8], [9, 8, 8, 0, 1, 2, 3, 4, 5, 6, 7, 8]] true)) (.region [mvD 62 13, opD 63 (.bin .sub (tD 62) (cD 1)), mvD 13 63] [[], [0], [1, 0, 1]] false)))))) (.seq (.seq (.region [opD 74 (.faddr 2 (tD 4)), opD 75 (.load false 1 (tD 74)), opD 76 (.len false (tD 75)), opD 77 (.bin .sub (tD 76) (cD 1)), mvD 14 77] [[], [0], [1], [2], [3, 0, 1, 2, 3]] false) (.block 4 (.loop ⟨[14], (.cons (.hole (.int .i64)) .nil), [(480, 38, 7)], (.cons Y14 .nil), [4, 7, 8, 9, 10, 11], [16, 128, 240]⟩
 (.seq (.seq (.region [mvD 78 14, opD 79 (.bin .geq (tD 78) (cD 0))] [[], [0]] false) (.cond (.tmp 79) .skip (.exit 4))) (.seq (.block 5 (.region [opD 82 (.faddr 2 (tD 11)), opD 83 (.load false 1 (tD 82)), opD 84 (.faddr 2 (tD 4)), opD 85 (.load false 1 (tD 84)), mvD 86 14, opD 87 (.iaddr 2 (tD 85) (tD 86)), opD 88 (.load true 2 (tD 87)), oqD 89 (.bslice 40 2 1 [vU, vI] [(0, (tD 88))]) (.ty T_api_Site), oqD 90 (.app 40 2 [vU, vI] 16 (tD 83) (tD 89)) (.ty T_api_Site), opD 91 (.faddr 2 (tD 11)), onD (.store 1 (tD 91) (tD 90))] [[], [0], [], [2], [], [3, 4], [5], [6], [1, 7], [0, 1, 2, 3, 4, 5, 6, 7, 8], [9, 8, 8, 0, 1, 2, 3, 4, 5, 6, 7, 8]] true)) (.region [mvD 80 14, opD 81 (.bin .sub (tD 80) (cD 1)), mvD 14 81] [[], [0], [1, 0, 1]] false)))))) (.seq (.region [opD 93 (.load true 11 (tD 10)), opD 94 (.load true 7 (tD 11)), oqD 95 (.call 9 [(tD 93), (tD 94)]) (.ent (e9 fu)), mvD 92 95, opD 96 (.ext (tD 92) 0), opD 97 (.ext (tD 92) 1), mvD 15 96, mvD 16 97] [[], [], [0, 1], [2], [3], [3], [4, 2, 0, 1, 2, 3, 4], [5, 6, 0, 1, 2, 3, 4, 5, 6]] false) (.seq (.region [mvD 98 7, mvD 99 98, ogD 100 99 true (.mov (tD 9)), ogD 101 99 true (.mov (tD 16)), ogD 102 99 true (.bin .eql (tD 100) (tD 101)), opD 103 (.pick (tD 99) (tD 102) (.const vB)), mvD 104 103, ogD 105 104 true (.mov (tD 8)), ogD 106 104 true (.mov (tD 15)), (⟨(some 107), (some (104, true)), (.call 11 [(tD 105), (tD 106)])⟩, (.ent (e11 fu))), opD 108 (.pick (tD 104) (tD 107) (.const vB)), mvD 6 108] [[], [0], [1], [1], [2, 3, 1], [1, 4], [5, 1], [6], [6], [7, 8, 6, 6], [6, 9], [10, 9, 0, 1, 2, 3, 4, 5, 6, 7, 8, 9, 10]] false) .ret))))))))))))))))
set_option maxRecDepth 1000000 in
theorem v7 (fu : Nat) : evF fu (d7 fu) rs7 109 (e7 fu).ash (e7 fu).osh (e7 fu).vsh = p7 fu := by kernel_rfl
set_option maxRecDepth 1000000 in
theorem b7 (fu : Nat) : BodyD Try.prog 7 109 (d7 fu).erase rs7 := bodyD_mk Try.func7 (by kernel_rfl) (by kernel_rfl) (by kernel_rfl) (by kernel_rfl)
theorem g7 (fu : Nat) : (e7 fu).Good Try.prog := good_by orders (b7 fu) (l := [e8 fu, e9 fu, e9 fu, e11 fu]) (by kernel_rfl) ⟨g8 fu, g9 fu, g9 fu, g11 fu, trivial⟩ (by kernel_rfl) (v7 fu)
end Go.Proofs.Ytcfkmeflnglgfaa
