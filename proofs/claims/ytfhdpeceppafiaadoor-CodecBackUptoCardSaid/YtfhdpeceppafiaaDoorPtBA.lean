/-
  The functions, typed.
-/
import Derived.Test.YtfhdpeceppafiaaDoorAsE
import Derived.Test.YtfhdpeceppafiaaDoorDaL
import Derived.Test.YtfhdpeceppafiaaDoorRows
namespace Go.Proofs.YtfhdpeceppafiaaDoor
open Go.RowKit
abbrev T_runtime_errorAddressString : Tp := (.pair .str (.int .u64))
abbrev D_runtime_errorAddressString := (ByteArray) × (Int)
abbrev T_api_Range : Tp := (.pair .str .str)
abbrev D_api_Range := (ByteArray) × (ByteArray)
abbrev T_gazettelaw01_Step : Tp := (.pair (.int .i64) (.int .i64))
abbrev D_gazettelaw01_Step := (Int) × (Int)
abbrev T_reflectlite_ValueError : Tp := (.pair .str (.int .u8))
abbrev D_reflectlite_ValueError := (ByteArray) × (Int)
abbrev T_api_Conf : Tp := (.pair (.sl (.int .i64)) (.sl (.int .i64)))
abbrev D_api_Conf := (List (Int)) × (List (Int))
abbrev T_api_Hard : Tp := (.pair (.int .u64) (.pair (.int .i64) (.int .u64)))
abbrev D_api_Hard := (Int) × ((Int) × (Int))
abbrev T_runtime_boundsError : Tp := (.pair (.int .i64) (.pair (.int .i64) (.pair .bool (.int .u8))))
abbrev D_runtime_boundsError := (Int) × ((Int) × ((Bool) × (Int)))
abbrev T_gazetteref01_Reader : Tp := (.pair (.sl (.int .u8)) (.pair (.int .i64) T_gazettelaw01_Step))
abbrev D_gazetteref01_Reader := (List (Int)) × ((Int) × (D_gazettelaw01_Step))
abbrev T_abi_Method : Tp := (.pair (.int .i32) (.pair (.int .i32) (.pair (.int .i32) (.int .i32))))
abbrev D_abi_Method := (Int) × ((Int) × ((Int) × (Int)))
abbrev T_api_Record : Tp := (.pair (.int .u64) (.pair .str (.pair (.sl (.int .u8)) (.pair (.int .u64) (.int .u64)))))
abbrev D_api_Record := (Int) × ((ByteArray) × ((List (Int)) × ((Int) × (Int))))
abbrev T_abi_UncommonType : Tp := (.pair (.int .i32) (.pair (.int .u16) (.pair (.int .u16) (.pair (.int .u32) (.int .u32)))))
abbrev D_abi_UncommonType := (Int) × ((Int) × ((Int) × ((Int) × (Int))))
abbrev T_api_Snap : Tp := (.pair (.int .u64) (.pair (.int .u64) (.pair T_api_Conf (.sl (.int .u8)))))
abbrev D_api_Snap := (Int) × ((Int) × ((D_api_Conf) × (List (Int))))
abbrev T_api_Entry : Tp := (.pair (.int .u64) (.pair (.int .u64) (.pair (.int .i64) (.pair (.sl (.int .u8)) T_api_Conf))))
abbrev D_api_Entry := (Int) × ((Int) × ((Int) × ((List (Int)) × (D_api_Conf))))
abbrev T_api_Item : Tp := (.pair (.int .i64) (.pair (.int .u64) (.pair T_api_Entry (.pair T_api_Hard (.pair (.int .u64) T_api_Snap)))))
abbrev D_api_Item := (Int) × ((Int) × ((D_api_Entry) × ((D_api_Hard) × ((Int) × (D_api_Snap)))))
abbrev T_gazettelaw01_Thing : Tp := (.pair (.int .i64) (.pair (.int .u64) (.pair (.int .i64) (.pair .bool (.pair (.sl (.int .u8)) (.pair T_api_Conf (.pair T_api_Entry (.pair T_api_Snap (.pair T_api_Range T_api_Record)))))))))
abbrev D_gazettelaw01_Thing := (Int) × ((Int) × ((Int) × ((Bool) × ((List (Int)) × ((D_api_Conf) × ((D_api_Entry) × ((D_api_Snap) × ((D_api_Range) × (D_api_Record)))))))))
theorem orders : Tryd.prog.follows .mixedOrders = true := by kernel_rfl
abbrev Z0 : Type := (Int) × ((Int) × ((Int) × ((Int) × ((Int) × ((List (Int)) × ((List (Int)) × ((List (Int)) × ((Int) × ((Int) × ((Int) × ((Int) × ((Int) × ((Int) × ((List (Int)) × ((List (Int)) × ((List (Int)) × (Unit)))))))))))))))))
abbrev Z1 : Type := (Int) × ((Int) × ((Int) × ((List (Int)) × ((List (Int)) × ((List (Int)) × (Unit))))))
abbrev Y2 : Sh := (.agg 6 (.cons (.hole (.int .u64)) (.cons (.hole (.int .u64)) (.cons (.hole (.int .i64)) (.cons (.hole (.sl (.int .u8))) (.cons (.hole (.sl (.int .i64))) (.cons (.hole (.sl (.int .i64))) .nil)))))))
abbrev Y3 : Sh := (.agg 5 (.cons (.hole (.int .u64)) (.cons (.hole (.int .u64)) (.cons (.hole (.sl (.int .i64))) (.cons (.hole (.sl (.int .i64))) (.cons (.hole (.sl (.int .u8))) .nil))))))
abbrev Y4 : Sh := (.agg 17 (.cons (.hole (.int .i64)) (.cons (.hole (.int .u64)) (.cons (.hole (.int .u64)) (.cons (.hole (.int .u64)) (.cons (.hole (.int .i64)) (.cons (.hole (.sl (.int .u8))) (.cons (.hole (.sl (.int .i64))) (.cons (.hole (.sl (.int .i64))) (.cons (.hole (.int .u64)) (.cons (.hole (.int .i64)) (.cons (.hole (.int .u64)) (.cons (.hole (.int .u64)) (.cons (.hole (.int .u64)) (.cons (.hole (.int .u64)) (.cons (.hole (.sl (.int .i64))) (.cons (.hole (.sl (.int .i64))) (.cons (.hole (.sl (.int .u8))) .nil))))))))))))))))))
abbrev Y5 : Sh := (.agg 3 (.cons (.own .own 5 (.int .u8)) (.cons (.hole (.int .i64)) (.cons (.alt (.ifc 99 (.look (.cons (.hole (.int .i64)) (.cons (.hole (.int .i64)) .nil)))) (.nilv 1)) .nil))))
abbrev Y6 : Sh := (.box 95 3 (.cons (.own .own 5 (.int .u8)) (.cons (.hole (.int .i64)) (.cons (.alt (.ifc 99 (.look (.cons (.hole (.int .i64)) (.cons (.hole (.int .i64)) .nil)))) (.nilv 1)) .nil))))
abbrev Y7 : Sh := (.agg 3 (.cons (.hole (.sl (.int .u8))) (.cons (.hole (.int .i64)) (.cons (.alt (.ifc 99 (.look (.cons (.hole (.int .i64)) (.cons (.hole (.int .i64)) .nil)))) (.nilv 1)) .nil))))
abbrev Y8 : Sh := (.box 95 3 (.cons (.hole (.sl (.int .u8))) (.cons (.hole (.int .i64)) (.cons (.alt (.ifc 99 (.look (.cons (.hole (.int .i64)) (.cons (.hole (.int .i64)) .nil)))) (.nilv 1)) .nil))))
def eqL {α : Type} (l : List α) : Bool := decide (l.length = l.length)
theorem eqL_t {α : Type} (l : List α) : eqL l = true := decide_eq_true rfl
abbrev zR0 := ((false, dflt (.pair (.int .i64) (.pair (.int .i64) .unit)), ()) : Bool × (den (.pair (.int .i64) (.pair (.int .i64) .unit))) × Unit)
def rs34 : List RVx := []
/-- (*gazette/codec.Writer).Uint -/
def p34 (fu : Nat) : ((Unit) × (Unit)) × ((Int) × (Unit)) → Option ((((List (Int)) × (Unit)) × (Unit)) × (Unit)) := fun ⟨⟨_, _⟩, a, _⟩ =>
loopO (S := ((Int) × (Unit)) × (((List (Int)) × (Unit)) × (Unit))) fu (fun ⟨⟨c, _⟩, ⟨⟨f, _⟩, _⟩⟩ =>
 bif decide (c ≥ (128 : Int)) then
 bif eqL f then
 bif decide (List.length f + List.length ([IntKind.wrap .u8 ((BitVec.ofInt (IntKind.bits .u8) (IntKind.wrap .u8 c) ||| BitVec.ofInt (IntKind.bits .u8) (128 : Int)).toNat : Int)]) ≤ maxLen ∧ (List.length f + List.length ([IntKind.wrap .u8 ((BitVec.ofInt (IntKind.bits .u8) (IntKind.wrap .u8 c) ||| BitVec.ofInt (IntKind.bits .u8) (128 : Int)).toNat : Int)])) * 1 ≤ 140737488355328) then
 bif eqL (f ++ [IntKind.wrap .u8 ((BitVec.ofInt (IntKind.bits .u8) (IntKind.wrap .u8 c) ||| BitVec.ofInt (IntKind.bits .u8) (128 : Int)).toNat : Int)]) then
 some (.inl ((Int.fdiv c (2 ^ (min (Int.toNat (7 : Int)) (IntKind.bits .u64))), ()), (((f ++ [IntKind.wrap .u8 ((BitVec.ofInt (IntKind.bits .u8) (IntKind.wrap .u8 c) ||| BitVec.ofInt (IntKind.bits .u8) (128 : Int)).toNat : Int)]), ()), ())))
 else none
 else none
 else none
 else
 inrO (bif eqL f then
 bif decide (List.length f + List.length ([IntKind.wrap .u8 c]) ≤ maxLen ∧ (List.length f + List.length ([IntKind.wrap .u8 c])) * 1 ≤ 140737488355328) then
 bif eqL (f ++ [IntKind.wrap .u8 c]) then
 some ((((f ++ [IntKind.wrap .u8 c]), ()), ()), ())
 else none
 else none
 else none))
 ((a, ()), (([], ()), ()))
def e34 (fu : Nat) : Ent := ⟨34, (.cons (.box 60 1 (.cons .nils .nil)) (.cons (.hole (.int .u64)) .nil)), (.cons (.agg 1 (.cons (.own .own 5 (.int .u8)) .nil)) .nil), (.tup 0 .nil), p34 fu⟩
def d34 (_ : Nat) : DC := (.seq (.block 0 (.loop ⟨[1], (.cons (.hole (.int .u64)) .nil), [(0, 60, 1)], (.cons (.agg 1 (.cons (.own .own 5 (.int .u8)) .nil)) .nil), [0], []⟩
 (.seq (.seq (.region [mvD 4 1, opD 5 (.bin .geq (tD 4) (.const (.int .u64 128)))] [[], [0]] false) (.cond (.tmp 5) .skip (.exit 0))) (.block 1 (.seq (.region [mvD 6 0, mvD 7 0, opD 8 (.pure .nilc [(tD 7)]), opD 9 (.faddr 0 (tD 8)), opD 10 (.load false 1 (tD 9)), mvD 11 1, opD 12 (.conv .u8 (tD 11)), opD 13 (.bin .or (tD 12) (.const (.int .u8 128))), oqD 14 (.bslice 5 1 1 [(.int .u8 0)] [(0, (tD 13))]) (.ty (.int .u8)), oqD 15 (.app 5 1 [(.int .u8 0)] 1 (tD 10) (tD 14)) (.ty (.int .u8)), opD 16 (.pure .nilc [(tD 6)]), opD 17 (.faddr 0 (tD 16)), onD (.store 1 (tD 17) (tD 15))] [[], [], [1], [2], [3], [], [5], [6], [7], [4, 8], [0, 0, 1, 2, 3, 4, 5, 6, 7, 8, 9], [10, 0, 1, 2, 3, 4, 5, 6, 7, 8, 9], [11, 9, 9, 0, 1, 2, 3, 4, 5, 6, 7, 8, 9]] false) (.region [mvD 18 1, opD 19 (.bin .shr (tD 18) (.const (.int .u64 7))), mvD 1 19] [[], [0], [1, 0, 1]] false)))))) (.region [mvD 20 0, mvD 21 0, opD 22 (.pure .nilc [(tD 21)]), opD 23 (.faddr 0 (tD 22)), opD 24 (.load false 1 (tD 23)), mvD 25 1, opD 26 (.conv .u8 (tD 25)), oqD 27 (.bslice 5 1 1 [(.int .u8 0)] [(0, (tD 26))]) (.ty (.int .u8)), oqD 28 (.app 5 1 [(.int .u8 0)] 1 (tD 24) (tD 27)) (.ty (.int .u8)), opD 29 (.pure .nilc [(tD 20)]), opD 30 (.faddr 0 (tD 29)), onD (.store 1 (tD 30) (tD 28))] [[], [], [1], [2], [3], [], [5], [6], [4, 7], [0, 0, 1, 2, 3, 4, 5, 6, 7, 8], [9, 0, 1, 2, 3, 4, 5, 6, 7, 8], [10, 8, 8, 0, 1, 2, 3, 4, 5, 6, 7, 8]] false))
set_option maxRecDepth 1000000 in
theorem v34 (fu : Nat) : evF fu (d34 fu) rs34 31 (e34 fu).ash (e34 fu).osh (e34 fu).vsh = p34 fu := by kernel_rfl
set_option maxRecDepth 1000000 in
theorem b34 (fu : Nat) : BodyD Tryd.prog 34 31 (d34 fu).erase rs34 := bodyD_mk Tryd.func34 (by kernel_rfl) (by kernel_rfl) (by kernel_rfl) (by kernel_rfl)
theorem g34 (fu : Nat) : (e34 fu).Good Tryd.prog := good_by orders (b34 fu) (l := []) (by kernel_rfl) trivial (by kernel_rfl) (v34 fu)
/-- (*gazette/codec.Writer).Uint -/
def p34_1 (fu : Nat) : ((List (Int)) × (Unit)) × ((Int) × (Unit)) → Option ((((List (Int)) × (Unit)) × ((Unit) × (Unit))) × (Unit)) := fun ⟨⟨a, _⟩, c, _⟩ =>
bif eqL a then
 loopO (S := ((Int) × (Unit)) × (((List (Int)) × (Unit)) × (Unit))) fu (fun ⟨⟨f, _⟩, ⟨⟨h, _⟩, _⟩⟩ =>
 bif decide (f ≥ (128 : Int)) then
 bif eqL h then
 bif decide (List.length h + List.length ([IntKind.wrap .u8 ((BitVec.ofInt (IntKind.bits .u8) (IntKind.wrap .u8 f) ||| BitVec.ofInt (IntKind.bits .u8) (128 : Int)).toNat : Int)]) ≤ maxLen ∧ (List.length h + List.length ([IntKind.wrap .u8 ((BitVec.ofInt (IntKind.bits .u8) (IntKind.wrap .u8 f) ||| BitVec.ofInt (IntKind.bits .u8) (128 : Int)).toNat : Int)])) * 1 ≤ 140737488355328) then
 bif eqL (h ++ [IntKind.wrap .u8 ((BitVec.ofInt (IntKind.bits .u8) (IntKind.wrap .u8 f) ||| BitVec.ofInt (IntKind.bits .u8) (128 : Int)).toNat : Int)]) then
 some (.inl ((Int.fdiv f (2 ^ (min (Int.toNat (7 : Int)) (IntKind.bits .u64))), ()), (((h ++ [IntKind.wrap .u8 ((BitVec.ofInt (IntKind.bits .u8) (IntKind.wrap .u8 f) ||| BitVec.ofInt (IntKind.bits .u8) (128 : Int)).toNat : Int)]), ()), ())))
 else none
 else none
 else none
 else
 inrO (bif eqL h then
 bif decide (List.length h + List.length ([IntKind.wrap .u8 f]) ≤ maxLen ∧ (List.length h + List.length ([IntKind.wrap .u8 f])) * 1 ≤ 140737488355328) then
 bif eqL (h ++ [IntKind.wrap .u8 f]) then
 some ((((h ++ [IntKind.wrap .u8 f]), ()), (), ()), ())
 else none
 else none
 else none))
 ((c, ()), ((a, ()), ()))
else none
def e34_1 (fu : Nat) : Ent := ⟨34, (.cons (.box 60 1 (.cons (.own .own 5 (.int .u8)) .nil)) (.cons (.hole (.int .u64)) .nil)), (.cons (.agg 1 (.cons (.own .own 5 (.int .u8)) .nil)) (.cons .dead .nil)), (.tup 0 .nil), p34_1 fu⟩
def d34_1 (_ : Nat) : DC := (.seq (.block 0 (.loop ⟨[1], (.cons (.hole (.int .u64)) .nil), [(0, 60, 1)], (.cons (.agg 1 (.cons (.own .own 5 (.int .u8)) .nil)) .nil), [0], [1]⟩
 (.seq (.seq (.region [mvD 4 1, opD 5 (.bin .geq (tD 4) (.const (.int .u64 128)))] [[], [0]] false) (.cond (.tmp 5) .skip (.exit 0))) (.block 1 (.seq (.region [mvD 6 0, mvD 7 0, opD 8 (.pure .nilc [(tD 7)]), opD 9 (.faddr 0 (tD 8)), opD 10 (.load false 1 (tD 9)), mvD 11 1, opD 12 (.conv .u8 (tD 11)), opD 13 (.bin .or (tD 12) (.const (.int .u8 128))), oqD 14 (.bslice 5 1 1 [(.int .u8 0)] [(0, (tD 13))]) (.ty (.int .u8)), oqD 15 (.app 5 1 [(.int .u8 0)] 1 (tD 10) (tD 14)) (.ty (.int .u8)), opD 16 (.pure .nilc [(tD 6)]), opD 17 (.faddr 0 (tD 16)), onD (.store 1 (tD 17) (tD 15))] [[], [], [1], [2], [3], [], [5], [6], [7], [4, 8], [0, 0, 1, 2, 3, 4, 5, 6, 7, 8, 9], [10, 0, 1, 2, 3, 4, 5, 6, 7, 8, 9], [11, 9, 9, 0, 1, 2, 3, 4, 5, 6, 7, 8, 9]] false) (.region [mvD 18 1, opD 19 (.bin .shr (tD 18) (.const (.int .u64 7))), mvD 1 19] [[], [0], [1, 0, 1]] false)))))) (.region [mvD 20 0, mvD 21 0, opD 22 (.pure .nilc [(tD 21)]), opD 23 (.faddr 0 (tD 22)), opD 24 (.load false 1 (tD 23)), mvD 25 1, opD 26 (.conv .u8 (tD 25)), oqD 27 (.bslice 5 1 1 [(.int .u8 0)] [(0, (tD 26))]) (.ty (.int .u8)), oqD 28 (.app 5 1 [(.int .u8 0)] 1 (tD 24) (tD 27)) (.ty (.int .u8)), opD 29 (.pure .nilc [(tD 20)]), opD 30 (.faddr 0 (tD 29)), onD (.store 1 (tD 30) (tD 28))] [[], [], [1], [2], [3], [], [5], [6], [4, 7], [0, 0, 1, 2, 3, 4, 5, 6, 7, 8], [9, 0, 1, 2, 3, 4, 5, 6, 7, 8], [10, 8, 8, 0, 1, 2, 3, 4, 5, 6, 7, 8]] false))
set_option maxRecDepth 1000000 in
theorem v34_1 (fu : Nat) : evF fu (d34_1 fu) rs34 31 (e34_1 fu).ash (e34_1 fu).osh (e34_1 fu).vsh = p34_1 fu := by kernel_rfl
set_option maxRecDepth 1000000 in
theorem b34_1 (fu : Nat) : BodyD Tryd.prog 34 31 (d34_1 fu).erase rs34 := bodyD_mk Tryd.func34 (by kernel_rfl) (by kernel_rfl) (by kernel_rfl) (by kernel_rfl)
theorem g34_1 (fu : Nat) : (e34_1 fu).Good Tryd.prog := good_by orders (b34_1 fu) (l := []) (by kernel_rfl) trivial (by kernel_rfl) (v34_1 fu)
def rs35 : List RVx := []
/-- (*gazette/codec.Writer).String -/
def p35 (fu : Nat) : ((List (Int)) × (Unit)) × ((ByteArray) × (Unit)) → Option ((((List (Int)) × (Unit)) × ((Unit) × (Unit))) × (Unit)) := fun ⟨⟨a, _⟩, c, _⟩ =>
bif eqL a then
 Option.bind (p34_1 fu ((a, ()), IntKind.wrap .u64 (ByteArray.size c : Int), ())) fun ⟨⟨⟨f, _⟩, _, _⟩, _⟩ =>
 bif eqL f then
 bif decide (List.length f + ByteArray.size c ≤ maxLen ∧ List.length f + ByteArray.size c ≤ 140737488355328) then
 bif eqL (f ++ numsOf c) then
 some ((((f ++ numsOf c), ()), (), ()), ())
 else none
 else none
 else none
else none
def e35 (fu : Nat) : Ent := ⟨35, (.cons (.box 60 1 (.cons (.own .own 5 (.int .u8)) .nil)) (.cons (.hole .str) .nil)), (.cons (.agg 1 (.cons (.own .own 5 (.int .u8)) .nil)) (.cons .dead .nil)), (.tup 0 .nil), p35 fu⟩
def d35 (fu : Nat) : DC := (.seq (.region [mvD 4 0, mvD 5 1, opD 6 (.len true (tD 5)), opD 7 (.conv .u64 (tD 6)), oqD 8 (.call 34 [(tD 4), (tD 7)]) (.ent (e34_1 fu))] [[], [], [1], [2], [0, 3]] false) (.region [mvD 9 0, mvD 10 0, opD 11 (.pure .nilc [(tD 10)]), opD 12 (.faddr 0 (tD 11)), opD 13 (.load false 1 (tD 12)), mvD 14 1, opD 15 (.apps 5 (tD 13) (tD 14)), opD 16 (.pure .nilc [(tD 9)]), opD 17 (.faddr 0 (tD 16)), onD (.store 1 (tD 17) (tD 15))] [[], [], [1], [2], [3], [], [4, 5], [0, 0, 1, 2, 3, 4, 5, 6], [7, 0, 1, 2, 3, 4, 5, 6], [8, 6, 6, 0, 1, 2, 3, 4, 5, 6]] false))
set_option maxRecDepth 1000000 in
theorem v35 (fu : Nat) : evF fu (d35 fu) rs35 18 (e35 fu).ash (e35 fu).osh (e35 fu).vsh = p35 fu := by kernel_rfl
set_option maxRecDepth 1000000 in
theorem b35 (fu : Nat) : BodyD Tryd.prog 35 18 (d35 fu).erase rs35 := bodyD_mk Tryd.func35 (by kernel_rfl) (by kernel_rfl) (by kernel_rfl) (by kernel_rfl)
theorem g35 (fu : Nat) : (e35 fu).Good Tryd.prog := good_by orders (b35 fu) (l := [e34_1 fu]) (by kernel_rfl) ⟨g34_1 fu, trivial⟩ (by kernel_rfl) (v35 fu)
def rs27 : List RVx := [(.tmp 2)]
/-- (*gazette/codec.Writer).Done -/
def p27 (_ : Nat) : ((List (Int)) × (Unit)) × (Unit) → Option ((Unit) × (List (Int))) := fun ⟨⟨a, _⟩, _⟩ =>
bif decide (List.length a ≤ maxLen ∧ List.length a * 1 ≤ 140737488355328) then
 bif eqL a then
 some ((), a)
 else none
else none
def e27 (fu : Nat) : Ent := ⟨27, (.cons (.look (.cons (.hole (.sl (.int .u8))) .nil)) .nil), .nil, (.own .own 5 (.int .u8)), p27 fu⟩
def d27 (_ : Nat) : DC := (.seq (.region [opD 2 (.mov (.const vS))] [[]] false) (.seq (.region [mvD 3 0, opD 4 (.pure .nilc [(tD 3)]), opD 5 (.faddr 0 (tD 4)), opD 6 (.load false 1 (tD 5)), oqD 7 (.app 5 1 [(.int .u8 0)] 1 (.const vS) (tD 6)) (.ty (.int .u8)), mvD 2 7] [[], [0], [1], [2], [3], [4, 4, 0, 1, 2, 3, 4]] false) .ret))
set_option maxRecDepth 1000000 in
theorem v27 (fu : Nat) : evF fu (d27 fu) rs27 8 (e27 fu).ash (e27 fu).osh (e27 fu).vsh = p27 fu := by kernel_rfl
set_option maxRecDepth 1000000 in
theorem b27 (fu : Nat) : BodyD Tryd.prog 27 8 (d27 fu).erase rs27 := bodyD_mk Tryd.func27 (by kernel_rfl) (by kernel_rfl) (by kernel_rfl) (by kernel_rfl)
theorem g27 (fu : Nat) : (e27 fu).Good Tryd.prog := good_by orders (b27 fu) (l := []) (by kernel_rfl) trivial (by kernel_rfl) (v27 fu)
def rs24 : List RVx := [(.tmp 2)]
/-- gazette/codec.Sum -/
def p24 (fu : Nat) : (List (Int)) × (Unit) → Option ((Unit) × (Int)) := fun ⟨a, _⟩ =>
loopO (S := ((Int) × ((Int) × (Unit))) × (Unit)) fu (fun ⟨⟨c, f, _⟩, _⟩ =>
 bif decide (f < (List.length a : Int)) then
 bif decide ((0 : Int) ≤ f ∧ f < (List.length a : Int)) then
 bif decide (Int.toNat f < List.length a) then
 bif decide ((0 : Int) ≤ IntKind.wrap .u32 ((BitVec.ofInt (IntKind.bits .u32) (IntKind.wrap .u32 ((BitVec.ofInt (IntKind.bits .u32) c ^^^ BitVec.ofInt (IntKind.bits .u32) (IntKind.wrap .u32 (List.getD a (Int.toNat f) (dflt (.int .u8))))).toNat : Int)) &&& BitVec.ofInt (IntKind.bits .u32) (15 : Int)).toNat : Int) ∧ IntKind.wrap .u32 ((BitVec.ofInt (IntKind.bits .u32) (IntKind.wrap .u32 ((BitVec.ofInt (IntKind.bits .u32) c ^^^ BitVec.ofInt (IntKind.bits .u32) (IntKind.wrap .u32 (List.getD a (Int.toNat f) (dflt (.int .u8))))).toNat : Int)) &&& BitVec.ofInt (IntKind.bits .u32) (15 : Int)).toNat : Int) < (16 : Int) ∧ List.length gl0 = 16) then
 bif decide (Int.toNat (IntKind.wrap .u32 ((BitVec.ofInt (IntKind.bits .u32) (IntKind.wrap .u32 ((BitVec.ofInt (IntKind.bits .u32) c ^^^ BitVec.ofInt (IntKind.bits .u32) (IntKind.wrap .u32 (List.getD a (Int.toNat f) (dflt (.int .u8))))).toNat : Int)) &&& BitVec.ofInt (IntKind.bits .u32) (15 : Int)).toNat : Int)) < List.length gl0) then
 bif decide ((0 : Int) ≤ IntKind.wrap .u32 ((BitVec.ofInt (IntKind.bits .u32) (IntKind.wrap .u32 ((BitVec.ofInt (IntKind.bits .u32) (Int.fdiv (IntKind.wrap .u32 ((BitVec.ofInt (IntKind.bits .u32) c ^^^ BitVec.ofInt (IntKind.bits .u32) (IntKind.wrap .u32 (List.getD a (Int.toNat f) (dflt (.int .u8))))).toNat : Int)) (2 ^ (min (Int.toNat (4 : Int)) (IntKind.bits .u32)))) ^^^ BitVec.ofInt (IntKind.bits .u32) (List.getD gl0 (Int.toNat (IntKind.wrap .u32 ((BitVec.ofInt (IntKind.bits .u32) (IntKind.wrap .u32 ((BitVec.ofInt (IntKind.bits .u32) c ^^^ BitVec.ofInt (IntKind.bits .u32) (IntKind.wrap .u32 (List.getD a (Int.toNat f) (dflt (.int .u8))))).toNat : Int)) &&& BitVec.ofInt (IntKind.bits .u32) (15 : Int)).toNat : Int))) (dflt (.int .u32)))).toNat : Int)) &&& BitVec.ofInt (IntKind.bits .u32) (15 : Int)).toNat : Int) ∧ IntKind.wrap .u32 ((BitVec.ofInt (IntKind.bits .u32) (IntKind.wrap .u32 ((BitVec.ofInt (IntKind.bits .u32) (Int.fdiv (IntKind.wrap .u32 ((BitVec.ofInt (IntKind.bits .u32) c ^^^ BitVec.ofInt (IntKind.bits .u32) (IntKind.wrap .u32 (List.getD a (Int.toNat f) (dflt (.int .u8))))).toNat : Int)) (2 ^ (min (Int.toNat (4 : Int)) (IntKind.bits .u32)))) ^^^ BitVec.ofInt (IntKind.bits .u32) (List.getD gl0 (Int.toNat (IntKind.wrap .u32 ((BitVec.ofInt (IntKind.bits .u32) (IntKind.wrap .u32 ((BitVec.ofInt (IntKind.bits .u32) c ^^^ BitVec.ofInt (IntKind.bits .u32) (IntKind.wrap .u32 (List.getD a (Int.toNat f) (dflt (.int .u8))))).toNat : Int)) &&& BitVec.ofInt (IntKind.bits .u32) (15 : Int)).toNat : Int))) (dflt (.int .u32)))).toNat : Int)) &&& BitVec.ofInt (IntKind.bits .u32) (15 : Int)).toNat : Int) < (16 : Int) ∧ List.length gl0 = 16) then
 bif decide (Int.toNat (IntKind.wrap .u32 ((BitVec.ofInt (IntKind.bits .u32) (IntKind.wrap .u32 ((BitVec.ofInt (IntKind.bits .u32) (Int.fdiv (IntKind.wrap .u32 ((BitVec.ofInt (IntKind.bits .u32) c ^^^ BitVec.ofInt (IntKind.bits .u32) (IntKind.wrap .u32 (List.getD a (Int.toNat f) (dflt (.int .u8))))).toNat : Int)) (2 ^ (min (Int.toNat (4 : Int)) (IntKind.bits .u32)))) ^^^ BitVec.ofInt (IntKind.bits .u32) (List.getD gl0 (Int.toNat (IntKind.wrap .u32 ((BitVec.ofInt (IntKind.bits .u32) (IntKind.wrap .u32 ((BitVec.ofInt (IntKind.bits .u32) c ^^^ BitVec.ofInt (IntKind.bits .u32) (IntKind.wrap .u32 (List.getD a (Int.toNat f) (dflt (.int .u8))))).toNat : Int)) &&& BitVec.ofInt (IntKind.bits .u32) (15 : Int)).toNat : Int))) (dflt (.int .u32)))).toNat : Int)) &&& BitVec.ofInt (IntKind.bits .u32) (15 : Int)).toNat : Int)) < List.length gl0) then
 some (.inl ((IntKind.wrap .u32 ((BitVec.ofInt (IntKind.bits .u32) (Int.fdiv (IntKind.wrap .u32 ((BitVec.ofInt (IntKind.bits .u32) (Int.fdiv (IntKind.wrap .u32 ((BitVec.ofInt (IntKind.bits .u32) c ^^^ BitVec.ofInt (IntKind.bits .u32) (IntKind.wrap .u32 (List.getD a (Int.toNat f) (dflt (.int .u8))))).toNat : Int)) (2 ^ (min (Int.toNat (4 : Int)) (IntKind.bits .u32)))) ^^^ BitVec.ofInt (IntKind.bits .u32) (List.getD gl0 (Int.toNat (IntKind.wrap .u32 ((BitVec.ofInt (IntKind.bits .u32) (IntKind.wrap .u32 ((BitVec.ofInt (IntKind.bits .u32) c ^^^ BitVec.ofInt (IntKind.bits .u32) (IntKind.wrap .u32 (List.getD a (Int.toNat f) (dflt (.int .u8))))).toNat : Int)) &&& BitVec.ofInt (IntKind.bits .u32) (15 : Int)).toNat : Int))) (dflt (.int .u32)))).toNat : Int)) (2 ^ (min (Int.toNat (4 : Int)) (IntKind.bits .u32)))) ^^^ BitVec.ofInt (IntKind.bits .u32) (List.getD gl0 (Int.toNat (IntKind.wrap .u32 ((BitVec.ofInt (IntKind.bits .u32) (IntKind.wrap .u32 ((BitVec.ofInt (IntKind.bits .u32) (Int.fdiv (IntKind.wrap .u32 ((BitVec.ofInt (IntKind.bits .u32) c ^^^ BitVec.ofInt (IntKind.bits .u32) (IntKind.wrap .u32 (List.getD a (Int.toNat f) (dflt (.int .u8))))).toNat : Int)) (2 ^ (min (Int.toNat (4 : Int)) (IntKind.bits .u32)))) ^^^ BitVec.ofInt (IntKind.bits .u32) (List.getD gl0 (Int.toNat (IntKind.wrap .u32 ((BitVec.ofInt (IntKind.bits .u32) (IntKind.wrap .u32 ((BitVec.ofInt (IntKind.bits .u32) c ^^^ BitVec.ofInt (IntKind.bits .u32) (IntKind.wrap .u32 (List.getD a (Int.toNat f) (dflt (.int .u8))))).toNat : Int)) &&& BitVec.ofInt (IntKind.bits .u32) (15 : Int)).toNat : Int))) (dflt (.int .u32)))).toNat : Int)) &&& BitVec.ofInt (IntKind.bits .u32) (15 : Int)).toNat : Int))) (dflt (.int .u32)))).toNat : Int), IntKind.wrap .i64 (f + (1 : Int)), ()), ()))
 else none
 else none
 else none
 else none
 else none
 else none
 else
 inrO (some ((), IntKind.wrap .u32 ((BitVec.ofInt (IntKind.bits .u32) 4294967295 ^^^ BitVec.ofInt (IntKind.bits .u32) c).toNat : Int))))
 (((4294967295 : Int), (0 : Int), ()), ())
def e24 (fu : Nat) : Ent := ⟨24, (.cons (.hole (.sl (.int .u8))) .nil), .nil, (.hole (.int .u32)), p24 fu⟩
def d24 (_ : Nat) : DC := (.seq (.region [opD 2 (.mov (.const (.int .u32 0)))] [[]] false) (.seq (.region [opD 3 (.mov (.const (.int .u32 4294967295)))] [[]] false) (.seq (.seq (.region [mvD 6 0, opD 7 (.len false (tD 6)), opD 8 (.mov (cD 0))] [[], [0], []] false) (.block 0 (.loop ⟨[3, 8], (.cons (.hole (.int .u32)) (.cons (.hole (.int .i64)) .nil)), [], .nil, [6, 7], []⟩
 (.seq (.region [opD 9 (.bin .lss (tD 8) (tD 7))] [[]] false) (.seq (.cond (.tmp 9) .skip (.exit 0)) (.seq (.block 1 (.seq (.region [opD 10 (.iaddr 1 (tD 6) (tD 8)), opD 11 (.load false 1 (tD 10)), mvD 5 11] [[], [0], [1, 0, 1]] false) (.seq (.region [mvD 12 3, mvD 13 5, opD 14 (.conv .u32 (tD 13)), opD 15 (.bin .xor (tD 12) (tD 14)), mvD 3 15] [[], [], [1], [0, 2], [3, 0, 1, 2, 3]] false) (.seq (.region [mvD 16 3, opD 17 (.bin .shr (tD 16) (.const (.int .u64 4))), mvD 18 3, opD 19 (.bin .and (tD 18) (.const (.int .u32 15))), opD 20 (.pure (.gidx 16) [(.global 0), (tD 19)]), opD 21 (.load false 1 (tD 20)), opD 22 (.bin .xor (tD 17) (tD 21)), mvD 3 22] [[], [0], [], [2], [3], [4], [1, 5], [6, 0, 1, 2, 3, 4, 5, 6]] false) (.region [mvD 23 3, opD 24 (.bin .shr (tD 23) (.const (.int .u64 4))), mvD 25 3, opD 26 (.bin .and (tD 25) (.const (.int .u32 15))), opD 27 (.pure (.gidx 16) [(.global 0), (tD 26)]), opD 28 (.load false 1 (tD 27)), opD 29 (.bin .xor (tD 24) (tD 28)), mvD 3 29] [[], [0], [], [2], [3], [4], [1, 5], [6, 0, 1, 2, 3, 4, 5, 6]] false))))) (.region [opD 30 (.bin .add (tD 8) (cD 1)), mvD 8 30] [[], [0]] false))))))) (.seq (.region [mvD 31 3, opD 32 (.pure .com [(tD 31)]), mvD 2 32] [[], [0], [1, 0, 1]] false) .ret))))
set_option maxRecDepth 1000000 in
theorem v24 (fu : Nat) : evF fu (d24 fu) rs24 33 (e24 fu).ash (e24 fu).osh (e24 fu).vsh = p24 fu := by kernel_rfl
set_option maxRecDepth 1000000 in
theorem b24 (fu : Nat) : BodyD Tryd.prog 24 33 (d24 fu).erase rs24 := bodyD_mk Tryd.func24 (by kernel_rfl) (by kernel_rfl) (by kernel_rfl) (by kernel_rfl)
theorem g24 (fu : Nat) : (e24 fu).Good Tryd.prog := good_by orders (b24 fu) (l := []) (by kernel_rfl) trivial (by kernel_rfl) (v24 fu)
def rs11 : List RVx := [(.tmp 0)]
/-- gazette/gazettelaw01.lives -/
def p11 (fu : Nat) : Unit → Option ((Unit) × (Bool)) := fun _ =>
Option.bind (p34 fu (((), ()), (300 : Int), ())) fun ⟨⟨⟨a, _⟩, _⟩, _⟩ =>
bif eqL a then
 Option.bind (p35 fu ((a, ()), (⟨#[97, 98]⟩ : ByteArray), ())) fun ⟨⟨⟨c, _⟩, _, _⟩, _⟩ =>
 bif eqL c then
 Option.bind (p27 fu ((c, ()), ())) fun ⟨_, f⟩ =>
 bif eqL f then
 bif ByteArray.toList (strOfNums f) == ByteArray.toList (⟨#[172, 2, 2, 97, 98]⟩ : ByteArray) then
 bif decide (9 = List.length ([(49 : Int), (50 : Int), (51 : Int), (52 : Int), (53 : Int), (54 : Int), (55 : Int), (56 : Int), (57 : Int)]) ∧ 0 < 9) then
 Option.bind (p24 fu ([(49 : Int), (50 : Int), (51 : Int), (52 : Int), (53 : Int), (54 : Int), (55 : Int), (56 : Int), (57 : Int)], ())) fun ⟨_, h⟩ =>
 some ((), (h == (3808858755 : Int)))
 else none
 else
 some ((), false)
 else none
 else none
else none
def e11 (fu : Nat) : Ent := ⟨11, .nil, .nil, (.hole .bool), p11 fu⟩
def d11 (fu : Nat) : DC := (.seq (.region [opD 0 (.mov (.const vB))] [[]] false) (.seq (.region [opD 2 (.build 1 [vS] []), opD 3 (.box 60 1 (tD 2)), mvD 1 3] [[], [0], [1, 0, 1]] false) (.seq (.region [mvD 4 1, oqD 5 (.call 34 [(tD 4), (.const (.int .u64 300))]) (.ent (e34 fu))] [[], [0]] false) (.seq (.region [mvD 6 1, oqD 7 (.call 35 [(tD 6), (.const (.string ⟨#[97, 98]⟩))]) (.ent (e35 fu))] [[], [0]] false) (.seq (.region [mvD 8 1, oqD 9 (.call 27 [(tD 8)]) (.ent (e27 fu)), opD 10 (.b2s (tD 9)), opD 11 (.bin .eql (tD 10) (.const (.string ⟨#[172, 2, 2, 97, 98]⟩))), mvD 12 11, (⟨(some 13), (some (12, true)), (.bslice 5 1 9 [(.int .u8 0)] [(0, (.const (.int .u8 49))), (1, (.const (.int .u8 50))), (2, (.const (.int .u8 51))), (3, (.const (.int .u8 52))), (4, (.const (.int .u8 53))), (5, (.const (.int .u8 54))), (6, (.const (.int .u8 55))), (7, (.const (.int .u8 56))), (8, (.const (.int .u8 57)))])⟩, (.ty (.int .u8))), ogD 14 12 true (.b2b (tD 13)), (⟨(some 15), (some (12, true)), (.call 24 [(tD 14)])⟩, (.ent (e24 fu))), ogD 16 12 true (.bin .eql (tD 15) (.const (.int .u32 3808858755))), opD 17 (.pick (tD 12) (tD 16) (.const vB)), mvD 0 17] [[], [0], [1], [2], [3, 1], [4], [5, 4], [6, 4, 4], [7, 4], [4, 8], [9, 7, 0, 1, 2, 3, 4, 5, 6, 7, 8, 9]] false) .ret)))))
set_option maxRecDepth 1000000 in
theorem v11 (fu : Nat) : evF fu (d11 fu) rs11 18 (e11 fu).ash (e11 fu).osh (e11 fu).vsh = p11 fu := by kernel_rfl
set_option maxRecDepth 1000000 in
theorem b11 (fu : Nat) : BodyD Tryd.prog 11 18 (d11 fu).erase rs11 := bodyD_mk Tryd.func11 (by kernel_rfl) (by kernel_rfl) (by kernel_rfl) (by kernel_rfl)
theorem g11 (fu : Nat) : (e11 fu).Good Tryd.prog := good_by orders (b11 fu) (l := [e34 fu, e35 fu, e27 fu, e24 fu]) (by kernel_rfl) ⟨g34 fu, g35 fu, g27 fu, g24 fu, trivial⟩ (by kernel_rfl) (v11 fu)
def rs37 : List RVx := []
/-- (*gazette/codec.Writer).Int -/
def p37 (fu : Nat) : ((Unit) × (Unit)) × ((Int) × (Unit)) → Option ((((List (Int)) × (Unit)) × (Unit)) × (Unit)) := fun ⟨⟨_, _⟩, a, _⟩ =>
Option.bind (p34 fu (((), ()), IntKind.wrap .u64 ((BitVec.ofInt (IntKind.bits .u64) (IntKind.wrap .u64 ((IntKind.wrap .u64 a) * 2 ^ (min (Int.toNat (1 : Int)) (IntKind.bits .u64)))) ^^^ BitVec.ofInt (IntKind.bits .u64) (IntKind.wrap .u64 (Int.fdiv a (2 ^ (min (Int.toNat (63 : Int)) (IntKind.bits .i64)))))).toNat : Int), ())) fun ⟨⟨⟨c, _⟩, _⟩, _⟩ =>
bif eqL c then
 some (((c, ()), ()), ())
else none
def e37 (fu : Nat) : Ent := ⟨37, (.cons (.box 60 1 (.cons .nils .nil)) (.cons (.hole (.int .i64)) .nil)), (.cons (.agg 1 (.cons (.own .own 5 (.int .u8)) .nil)) .nil), (.tup 0 .nil), p37 fu⟩
def d37 (fu : Nat) : DC := (.region [mvD 4 0, mvD 5 1, opD 6 (.conv .u64 (tD 5)), opD 7 (.bin .shl (tD 6) (.const (.int .u64 1))), mvD 8 1, opD 9 (.bin .shr (tD 8) (.const (.int .u64 63))), opD 10 (.conv .u64 (tD 9)), opD 11 (.bin .xor (tD 7) (tD 10)), oqD 12 (.call 34 [(tD 4), (tD 11)]) (.ent (e34 fu))] [[], [], [1], [2], [], [4], [5], [3, 6], [0, 7]] false)
set_option maxRecDepth 1000000 in
theorem v37 (fu : Nat) : evF fu (d37 fu) rs37 13 (e37 fu).ash (e37 fu).osh (e37 fu).vsh = p37 fu := by kernel_rfl
set_option maxRecDepth 1000000 in
theorem b37 (fu : Nat) : BodyD Tryd.prog 37 13 (d37 fu).erase rs37 := bodyD_mk Tryd.func37 (by kernel_rfl) (by kernel_rfl) (by kernel_rfl) (by kernel_rfl)
theorem g37 (fu : Nat) : (e37 fu).Good Tryd.prog := good_by orders (b37 fu) (l := [e34 fu]) (by kernel_rfl) ⟨g34 fu, trivial⟩ (by kernel_rfl) (v37 fu)
/-- (*gazette/codec.Writer).Int -/
def p37_1 (fu : Nat) : ((List (Int)) × (Unit)) × ((Int) × (Unit)) → Option ((((List (Int)) × (Unit)) × ((Unit) × (Unit))) × (Unit)) := fun ⟨⟨a, _⟩, c, _⟩ =>
bif eqL a then
 Option.bind (p34_1 fu ((a, ()), IntKind.wrap .u64 ((BitVec.ofInt (IntKind.bits .u64) (IntKind.wrap .u64 ((IntKind.wrap .u64 c) * 2 ^ (min (Int.toNat (1 : Int)) (IntKind.bits .u64)))) ^^^ BitVec.ofInt (IntKind.bits .u64) (IntKind.wrap .u64 (Int.fdiv c (2 ^ (min (Int.toNat (63 : Int)) (IntKind.bits .i64)))))).toNat : Int), ())) fun ⟨⟨⟨f, _⟩, _, _⟩, _⟩ =>
 bif eqL f then
 some (((f, ()), (), ()), ())
 else none
else none
def e37_1 (fu : Nat) : Ent := ⟨37, (.cons (.box 60 1 (.cons (.own .own 5 (.int .u8)) .nil)) (.cons (.hole (.int .i64)) .nil)), (.cons (.agg 1 (.cons (.own .own 5 (.int .u8)) .nil)) (.cons .dead .nil)), (.tup 0 .nil), p37_1 fu⟩
def d37_1 (fu : Nat) : DC := (.region [mvD 4 0, mvD 5 1, opD 6 (.conv .u64 (tD 5)), opD 7 (.bin .shl (tD 6) (.const (.int .u64 1))), mvD 8 1, opD 9 (.bin .shr (tD 8) (.const (.int .u64 63))), opD 10 (.conv .u64 (tD 9)), opD 11 (.bin .xor (tD 7) (tD 10)), oqD 12 (.call 34 [(tD 4), (tD 11)]) (.ent (e34_1 fu))] [[], [], [1], [2], [], [4], [5], [3, 6], [0, 7]] false)
set_option maxRecDepth 1000000 in
theorem v37_1 (fu : Nat) : evF fu (d37_1 fu) rs37 13 (e37_1 fu).ash (e37_1 fu).osh (e37_1 fu).vsh = p37_1 fu := by kernel_rfl
set_option maxRecDepth 1000000 in
theorem b37_1 (fu : Nat) : BodyD Tryd.prog 37 13 (d37_1 fu).erase rs37 := bodyD_mk Tryd.func37 (by kernel_rfl) (by kernel_rfl) (by kernel_rfl) (by kernel_rfl)
theorem g37_1 (fu : Nat) : (e37_1 fu).Good Tryd.prog := good_by orders (b37_1 fu) (l := [e34_1 fu]) (by kernel_rfl) ⟨g34_1 fu, trivial⟩ (by kernel_rfl) (v37_1 fu)
def rs36 : List RVx := []
/-- (*gazette/codec.Writer).Bytes -/
def p36 (fu : Nat) : ((List (Int)) × (Unit)) × ((List (Int)) × (Unit)) → Option ((((List (Int)) × (Unit)) × ((Unit) × (Unit))) × (Unit)) := fun ⟨⟨a, _⟩, c, _⟩ =>
bif eqL a then
 Option.bind (p34_1 fu ((a, ()), IntKind.wrap .u64 (List.length c : Int), ())) fun ⟨⟨⟨f, _⟩, _, _⟩, _⟩ =>
 bif eqL f then
 bif decide (List.length f + List.length c ≤ maxLen ∧ (List.length f + List.length c) * 1 ≤ 140737488355328) then
 bif eqL (f ++ c) then
 some ((((f ++ c), ()), (), ()), ())
 else none
 else none
 else none
else none
def e36 (fu : Nat) : Ent := ⟨36, (.cons (.box 60 1 (.cons (.own .own 5 (.int .u8)) .nil)) (.cons (.hole (.sl (.int .u8))) .nil)), (.cons (.agg 1 (.cons (.own .own 5 (.int .u8)) .nil)) (.cons .dead .nil)), (.tup 0 .nil), p36 fu⟩
def d36 (fu : Nat) : DC := (.seq (.region [mvD 4 0, mvD 5 1, opD 6 (.len false (tD 5)), opD 7 (.conv .u64 (tD 6)), oqD 8 (.call 34 [(tD 4), (tD 7)]) (.ent (e34_1 fu))] [[], [], [1], [2], [0, 3]] false) (.region [mvD 9 0, mvD 10 0, opD 11 (.pure .nilc [(tD 10)]), opD 12 (.faddr 0 (tD 11)), opD 13 (.load false 1 (tD 12)), mvD 14 1, oqD 15 (.app 5 1 [(.int .u8 0)] 1 (tD 13) (tD 14)) (.ty (.int .u8)), opD 16 (.pure .nilc [(tD 9)]), opD 17 (.faddr 0 (tD 16)), onD (.store 1 (tD 17) (tD 15))] [[], [], [1], [2], [3], [], [4, 5], [0, 0, 1, 2, 3, 4, 5, 6], [7, 0, 1, 2, 3, 4, 5, 6], [8, 6, 6, 0, 1, 2, 3, 4, 5, 6]] false))
set_option maxRecDepth 1000000 in
theorem v36 (fu : Nat) : evF fu (d36 fu) rs36 18 (e36 fu).ash (e36 fu).osh (e36 fu).vsh = p36 fu := by kernel_rfl
set_option maxRecDepth 1000000 in
theorem b36 (fu : Nat) : BodyD Tryd.prog 36 18 (d36 fu).erase rs36 := bodyD_mk Tryd.func36 (by kernel_rfl) (by kernel_rfl) (by kernel_rfl) (by kernel_rfl)
theorem g36 (fu : Nat) : (e36 fu).Good Tryd.prog := good_by orders (b36 fu) (l := [e34_1 fu]) (by kernel_rfl) ⟨g34_1 fu, trivial⟩ (by kernel_rfl) (v36 fu)
def rs92 : List RVx := []
/-- (*gazette/codec.Writer).nodes -/
def p92 (fu : Nat) : ((List (Int)) × (Unit)) × ((List (Int)) × (Unit)) → Option ((((List (Int)) × (Unit)) × ((Unit) × (Unit))) × (Unit)) := fun ⟨⟨a, _⟩, c, _⟩ =>
bif eqL a then
 Option.bind (p34_1 fu ((a, ()), IntKind.wrap .u64 (List.length c : Int), ())) fun ⟨⟨⟨f, _⟩, _, _⟩, _⟩ =>
 bif eqL f then
 loopO (S := ((Int) × (Unit)) × (((List (Int)) × (Unit)) × (Unit))) fu (fun ⟨⟨h, _⟩, ⟨⟨i, _⟩, _⟩⟩ =>
 bif decide (h < (List.length c : Int)) then
 bif decide ((0 : Int) ≤ h ∧ h < (List.length c : Int)) then
 bif decide (Int.toNat h < List.length c) then
 bif eqL i then
 Option.bind (p37_1 fu ((i, ()), (List.getD c (Int.toNat h) (dflt (.int .i64))), ())) fun ⟨⟨⟨j, _⟩, _, _⟩, _⟩ =>
 bif eqL j then
 some (.inl ((IntKind.wrap .i64 (h + (1 : Int)), ()), ((j, ()), ())))
 else none
 else none
 else none
 else none
 else
 inrO (bif eqL i then
 some (((i, ()), (), ()), ())
 else none))
 (((0 : Int), ()), ((f, ()), ()))
 else none
else none
def e92 (fu : Nat) : Ent := ⟨92, (.cons (.box 60 1 (.cons (.own .own 5 (.int .u8)) .nil)) (.cons (.hole (.sl (.int .i64))) .nil)), (.cons (.agg 1 (.cons (.own .own 5 (.int .u8)) .nil)) (.cons .dead .nil)), (.tup 0 .nil), p92 fu⟩
def d92 (fu : Nat) : DC := (.seq (.region [mvD 6 0, mvD 7 1, opD 8 (.len false (tD 7)), opD 9 (.conv .u64 (tD 8)), oqD 10 (.call 34 [(tD 6), (tD 9)]) (.ent (e34_1 fu))] [[], [], [1], [2], [0, 3]] false) (.seq (.region [mvD 11 1, opD 12 (.len false (tD 11)), opD 13 (.mov (cD 0))] [[], [0], []] false) (.block 0 (.loop ⟨[13], (.cons (.hole (.int .i64)) .nil), [(0, 60, 1)], (.cons (.agg 1 (.cons (.own .own 5 (.int .u8)) .nil)) .nil), [0, 11, 12], [1]⟩
 (.seq (.region [opD 14 (.bin .lss (tD 13) (tD 12))] [[]] false) (.seq (.cond (.tmp 14) .skip (.exit 0)) (.seq (.block 1 (.seq (.region [opD 15 (.iaddr 1 (tD 11) (tD 13)), opD 16 (.load false 1 (tD 15)), mvD 5 16] [[], [0], [1, 0, 1]] false) (.region [mvD 17 0, mvD 18 5, oqD 19 (.call 37 [(tD 17), (tD 18)]) (.ent (e37_1 fu))] [[], [], [0, 1]] false))) (.region [opD 20 (.bin .add (tD 13) (cD 1)), mvD 13 20] [[], [0]] false))))))))
set_option maxRecDepth 1000000 in
theorem v92 (fu : Nat) : evF fu (d92 fu) rs92 21 (e92 fu).ash (e92 fu).osh (e92 fu).vsh = p92 fu := by kernel_rfl
set_option maxRecDepth 1000000 in
theorem b92 (fu : Nat) : BodyD Tryd.prog 92 21 (d92 fu).erase rs92 := bodyD_mk Tryd.func92 (by kernel_rfl) (by kernel_rfl) (by kernel_rfl) (by kernel_rfl)
theorem g92 (fu : Nat) : (e92 fu).Good Tryd.prog := good_by orders (b92 fu) (l := [e34_1 fu, e37_1 fu]) (by kernel_rfl) ⟨g34_1 fu, g37_1 fu, trivial⟩ (by kernel_rfl) (v92 fu)
def rs57 : List RVx := []
/-- (*gazette/codec.Writer).Conf -/
def p57 (fu : Nat) : ((List (Int)) × (Unit)) × (((List (Int)) × ((List (Int)) × (Unit))) × (Unit)) → Option ((((List (Int)) × (Unit)) × ((Unit) × (Unit))) × (Unit)) := fun ⟨⟨a, _⟩, ⟨c, f, _⟩, _⟩ =>
bif eqL a then
 Option.bind (p92 fu ((a, ()), c, ())) fun ⟨⟨⟨h, _⟩, _, _⟩, _⟩ =>
 bif eqL h then
 Option.bind (p92 fu ((h, ()), f, ())) fun ⟨⟨⟨i, _⟩, _, _⟩, _⟩ =>
 bif eqL i then
 some (((i, ()), (), ()), ())
 else none
 else none
else none
def e57 (fu : Nat) : Ent := ⟨57, (.cons (.box 60 1 (.cons (.own .own 5 (.int .u8)) .nil)) (.cons (.agg 2 (.cons (.hole (.sl (.int .i64))) (.cons (.hole (.sl (.int .i64))) .nil))) .nil)), (.cons (.agg 1 (.cons (.own .own 5 (.int .u8)) .nil)) (.cons .dead .nil)), (.tup 0 .nil), p57 fu⟩
def d57 (fu : Nat) : DC := (.seq (.region [opD 3 (.box 31 2 (tD 1))] [[]] false) (.seq (.region [mvD 4 0, opD 5 (.faddr 0 (tD 3)), opD 6 (.load false 1 (tD 5)), oqD 7 (.call 92 [(tD 4), (tD 6)]) (.ent (e92 fu))] [[], [], [1], [0, 2]] false) (.region [mvD 8 0, opD 9 (.faddr 1 (tD 3)), opD 10 (.load false 1 (tD 9)), oqD 11 (.call 92 [(tD 8), (tD 10)]) (.ent (e92 fu))] [[], [], [1], [0, 2]] false)))
set_option maxRecDepth 1000000 in
theorem v57 (fu : Nat) : evF fu (d57 fu) rs57 12 (e57 fu).ash (e57 fu).osh (e57 fu).vsh = p57 fu := by kernel_rfl
set_option maxRecDepth 1000000 in
theorem b57 (fu : Nat) : BodyD Tryd.prog 57 12 (d57 fu).erase rs57 := bodyD_mk Tryd.func57 (by kernel_rfl) (by kernel_rfl) (by kernel_rfl) (by kernel_rfl)
theorem g57 (fu : Nat) : (e57 fu).Good Tryd.prog := good_by orders (b57 fu) (l := [e92 fu, e92 fu]) (by kernel_rfl) ⟨g92 fu, g92 fu, trivial⟩ (by kernel_rfl) (v57 fu)
def rs38 : List RVx := []
/-- (*gazette/codec.Writer).Entry -/
def p38 (fu : Nat) : ((List (Int)) × (Unit)) × ((Z1) × (Unit)) → Option ((((List (Int)) × (Unit)) × ((Unit) × (Unit))) × (Unit)) := fun ⟨⟨a, _⟩, ⟨c, f, h, i, j, k, _⟩, _⟩ =>
bif eqL a then
 Option.bind (p34_1 fu ((a, ()), c, ())) fun ⟨⟨⟨l, _⟩, _, _⟩, _⟩ =>
 bif eqL l then
 Option.bind (p34_1 fu ((l, ()), f, ())) fun ⟨⟨⟨m, _⟩, _, _⟩, _⟩ =>
 bif eqL m then
 Option.bind (p37_1 fu ((m, ()), h, ())) fun ⟨⟨⟨n, _⟩, _, _⟩, _⟩ =>
 bif eqL n then
 Option.bind (p36 fu ((n, ()), i, ())) fun ⟨⟨⟨o, _⟩, _, _⟩, _⟩ =>
 bif eqL o then
 Option.bind (p57 fu ((o, ()), (j, k, ()), ())) fun ⟨⟨⟨q, _⟩, _, _⟩, _⟩ =>
 bif eqL q then
 some (((q, ()), (), ()), ())
 else none
 else none
 else none
 else none
 else none
else none
def e38 (fu : Nat) : Ent := ⟨38, (.cons (.box 60 1 (.cons (.own .own 5 (.int .u8)) .nil)) (.cons Y2 .nil)), (.cons (.agg 1 (.cons (.own .own 5 (.int .u8)) .nil)) (.cons .dead .nil)), (.tup 0 .nil), p38 fu⟩
def d38 (fu : Nat) : DC := (.seq (.region [opD 3 (.box 33 6 (tD 1))] [[]] false) (.seq (.region [mvD 4 0, opD 5 (.faddr 0 (tD 3)), opD 6 (.load false 1 (tD 5)), oqD 7 (.call 34 [(tD 4), (tD 6)]) (.ent (e34_1 fu))] [[], [], [1], [0, 2]] false) (.seq (.region [mvD 8 0, opD 9 (.faddr 1 (tD 3)), opD 10 (.load false 1 (tD 9)), oqD 11 (.call 34 [(tD 8), (tD 10)]) (.ent (e34_1 fu))] [[], [], [1], [0, 2]] false) (.seq (.region [mvD 12 0, opD 13 (.faddr 2 (tD 3)), opD 14 (.load false 1 (tD 13)), oqD 15 (.call 37 [(tD 12), (tD 14)]) (.ent (e37_1 fu))] [[], [], [1], [0, 2]] false) (.seq (.region [mvD 16 0, opD 17 (.faddr 3 (tD 3)), opD 18 (.load false 1 (tD 17)), oqD 19 (.call 36 [(tD 16), (tD 18)]) (.ent (e36 fu))] [[], [], [1], [0, 2]] false) (.region [mvD 20 0, opD 21 (.faddr 4 (tD 3)), opD 22 (.load true 2 (tD 21)), oqD 23 (.call 57 [(tD 20), (tD 22)]) (.ent (e57 fu))] [[], [], [1], [0, 2]] false))))))
set_option maxRecDepth 1000000 in
theorem v38 (fu : Nat) : evF fu (d38 fu) rs38 24 (e38 fu).ash (e38 fu).osh (e38 fu).vsh = p38 fu := by kernel_rfl
set_option maxRecDepth 1000000 in
theorem b38 (fu : Nat) : BodyD Tryd.prog 38 24 (d38 fu).erase rs38 := bodyD_mk Tryd.func38 (by kernel_rfl) (by kernel_rfl) (by kernel_rfl) (by kernel_rfl)
theorem g38 (fu : Nat) : (e38 fu).Good Tryd.prog := good_by orders (b38 fu) (l := [e34_1 fu, e34_1 fu, e37_1 fu, e36 fu, e57 fu]) (by kernel_rfl) ⟨g34_1 fu, g34_1 fu, g37_1 fu, g36 fu, g57 fu, trivial⟩ (by kernel_rfl) (v38 fu)
def rs39 : List RVx := []
/-- (*gazette/codec.Writer).Snap -/
def p39 (fu : Nat) : ((List (Int)) × (Unit)) × (((Int) × ((Int) × ((List (Int)) × ((List (Int)) × ((List (Int)) × (Unit)))))) × (Unit)) → Option ((((List (Int)) × (Unit)) × ((Unit) × (Unit))) × (Unit)) := fun ⟨⟨a, _⟩, ⟨c, f, h, i, j, _⟩, _⟩ =>
bif eqL a then
 Option.bind (p34_1 fu ((a, ()), c, ())) fun ⟨⟨⟨k, _⟩, _, _⟩, _⟩ =>
 bif eqL k then
 Option.bind (p34_1 fu ((k, ()), f, ())) fun ⟨⟨⟨l, _⟩, _, _⟩, _⟩ =>
 bif eqL l then
 Option.bind (p57 fu ((l, ()), (h, i, ()), ())) fun ⟨⟨⟨m, _⟩, _, _⟩, _⟩ =>
 bif eqL m then
 Option.bind (p36 fu ((m, ()), j, ())) fun ⟨⟨⟨n, _⟩, _, _⟩, _⟩ =>
 bif eqL n then
 some (((n, ()), (), ()), ())
 else none
 else none
 else none
 else none
else none
def e39 (fu : Nat) : Ent := ⟨39, (.cons (.box 60 1 (.cons (.own .own 5 (.int .u8)) .nil)) (.cons Y3 .nil)), (.cons (.agg 1 (.cons (.own .own 5 (.int .u8)) .nil)) (.cons .dead .nil)), (.tup 0 .nil), p39 fu⟩
def d39 (fu : Nat) : DC := (.seq (.region [opD 3 (.box 37 5 (tD 1))] [[]] false) (.seq (.region [mvD 4 0, opD 5 (.faddr 0 (tD 3)), opD 6 (.load false 1 (tD 5)), oqD 7 (.call 34 [(tD 4), (tD 6)]) (.ent (e34_1 fu))] [[], [], [1], [0, 2]] false) (.seq (.region [mvD 8 0, opD 9 (.faddr 1 (tD 3)), opD 10 (.load false 1 (tD 9)), oqD 11 (.call 34 [(tD 8), (tD 10)]) (.ent (e34_1 fu))] [[], [], [1], [0, 2]] false) (.seq (.region [mvD 12 0, opD 13 (.faddr 2 (tD 3)), opD 14 (.load true 2 (tD 13)), oqD 15 (.call 57 [(tD 12), (tD 14)]) (.ent (e57 fu))] [[], [], [1], [0, 2]] false) (.region [mvD 16 0, opD 17 (.faddr 4 (tD 3)), opD 18 (.load false 1 (tD 17)), oqD 19 (.call 36 [(tD 16), (tD 18)]) (.ent (e36 fu))] [[], [], [1], [0, 2]] false)))))
set_option maxRecDepth 1000000 in
theorem v39 (fu : Nat) : evF fu (d39 fu) rs39 20 (e39 fu).ash (e39 fu).osh (e39 fu).vsh = p39 fu := by kernel_rfl
set_option maxRecDepth 1000000 in
theorem b39 (fu : Nat) : BodyD Tryd.prog 39 20 (d39 fu).erase rs39 := bodyD_mk Tryd.func39 (by kernel_rfl) (by kernel_rfl) (by kernel_rfl) (by kernel_rfl)
theorem g39 (fu : Nat) : (e39 fu).Good Tryd.prog := good_by orders (b39 fu) (l := [e34_1 fu, e34_1 fu, e57 fu, e36 fu]) (by kernel_rfl) ⟨g34_1 fu, g34_1 fu, g57 fu, g36 fu, trivial⟩ (by kernel_rfl) (v39 fu)
def rs13 : List RVx := [(.tmp 2)]
/-- gazette/codec.Item -/
def p13 (fu : Nat) : (Z0) × (Unit) → Option ((Unit) × (List (Int))) := fun ⟨⟨a, c, f, h, i, j, k, l, m, n, o, q, s, t, u, w, x, _⟩, _⟩ =>
Option.bind (p37 fu (((), ()), a, ())) fun ⟨⟨⟨y, _⟩, _⟩, _⟩ =>
bif eqL y then
 Option.bind (p34_1 fu ((y, ()), c, ())) fun ⟨⟨⟨z, _⟩, _, _⟩, _⟩ =>
 bif (a == (1 : Int)) then
 bif eqL z then
 Option.bind (p38 fu ((z, ()), (f, h, i, j, k, l, ()), ())) fun ⟨⟨⟨a0, _⟩, _, _⟩, _⟩ =>
 bif eqL a0 then
 Option.bind (p27 fu ((a0, ()), ())) fun ⟨_, c0⟩ =>
 bif eqL c0 then
 some ((), c0)
 else none
 else none
 else none
 else
 bif (a == (2 : Int)) then
 bif eqL z then
 Option.bind (p34_1 fu ((z, ()), m, ())) fun ⟨⟨⟨f0, _⟩, _, _⟩, _⟩ =>
 bif eqL f0 then
 Option.bind (p37_1 fu ((f0, ()), n, ())) fun ⟨⟨⟨h0, _⟩, _, _⟩, _⟩ =>
 bif eqL h0 then
 Option.bind (p34_1 fu ((h0, ()), o, ())) fun ⟨⟨⟨i0, _⟩, _, _⟩, _⟩ =>
 bif eqL i0 then
 Option.bind (p27 fu ((i0, ()), ())) fun ⟨_, j0⟩ =>
 bif eqL j0 then
 some ((), j0)
 else none
 else none
 else none
 else none
 else none
 else
 bif (a == (3 : Int)) then
 bif eqL z then
 Option.bind (p34_1 fu ((z, ()), q, ())) fun ⟨⟨⟨k0, _⟩, _, _⟩, _⟩ =>
 bif eqL k0 then
 Option.bind (p27 fu ((k0, ()), ())) fun ⟨_, l0⟩ =>
 bif eqL l0 then
 some ((), l0)
 else none
 else none
 else none
 else
 bif (a == (4 : Int)) then
 bif eqL z then
 Option.bind (p39 fu ((z, ()), (s, t, u, w, x, ()), ())) fun ⟨⟨⟨m0, _⟩, _, _⟩, _⟩ =>
 bif eqL m0 then
 Option.bind (p27 fu ((m0, ()), ())) fun ⟨_, n0⟩ =>
 bif eqL n0 then
 some ((), n0)
 else none
 else none
 else none
 else
 bif (a == (5 : Int)) then
 bif eqL z then
 Option.bind (p27 fu ((z, ()), ())) fun ⟨_, o0⟩ =>
 bif eqL o0 then
 some ((), o0)
 else none
 else none
 else
 some ((), [])
else none
def e13 (fu : Nat) : Ent := ⟨13, (.cons Y4 .nil), .nil, (.own .own 5 (.int .u8)), p13 fu⟩
def d13 (fu : Nat) : DC := (.seq (.region [opD 1 (.box 39 17 (tD 0)), opD 2 (.mov (.const vS))] [[], []] false) (.seq (.region [opD 4 (.build 1 [vS] []), opD 5 (.box 60 1 (tD 4)), mvD 3 5] [[], [0], [1, 0, 1]] false) (.seq (.region [mvD 6 3, opD 7 (.faddr 0 (tD 1)), opD 8 (.load false 1 (tD 7)), oqD 9 (.call 37 [(tD 6), (tD 8)]) (.ent (e37 fu))] [[], [], [1], [0, 2]] false) (.seq (.region [mvD 10 3, opD 11 (.faddr 1 (tD 1)), opD 12 (.load false 1 (tD 11)), oqD 13 (.call 34 [(tD 10), (tD 12)]) (.ent (e34_1 fu))] [[], [], [1], [0, 2]] false) (.seq (.seq (.region [opD 14 (.faddr 0 (tD 1)), opD 15 (.load false 1 (tD 14))] [[], [0]] false) (.block 0 (.seq (.region [opD 17 (.bin .eql (tD 15) (cD 1)), mvD 16 17] [[], [0]] false) (.cond (.tmp 16) (.region [mvD 18 3, opD 19 (.faddr 2 (tD 1)), opD 20 (.load true 6 (tD 19)), oqD 21 (.call 38 [(tD 18), (tD 20)]) (.ent (e38 fu))] [[], [], [1], [0, 2]] false) (.seq (.region [opD 23 (.bin .eql (tD 15) (cD 2)), mvD 22 23] [[], [0]] false) (.cond (.tmp 22) (.seq (.region [mvD 24 3, opD 25 (.faddr 8 (tD 1)), opD 26 (.faddr 0 (tD 25)), opD 27 (.load false 1 (tD 26)), oqD 28 (.call 34 [(tD 24), (tD 27)]) (.ent (e34_1 fu))] [[], [], [1], [2], [0, 3]] false) (.seq (.region [mvD 29 3, opD 30 (.faddr 8 (tD 1)), opD 31 (.faddr 1 (tD 30)), opD 32 (.load false 1 (tD 31)), oqD 33 (.call 37 [(tD 29), (tD 32)]) (.ent (e37_1 fu))] [[], [], [1], [2], [0, 3]] false) (.region [mvD 34 3, opD 35 (.faddr 8 (tD 1)), opD 36 (.faddr 2 (tD 35)), opD 37 (.load false 1 (tD 36)), oqD 38 (.call 34 [(tD 34), (tD 37)]) (.ent (e34_1 fu))] [[], [], [1], [2], [0, 3]] false))) (.seq (.region [opD 40 (.bin .eql (tD 15) (cD 3)), mvD 39 40] [[], [0]] false) (.cond (.tmp 39) (.region [mvD 41 3, opD 42 (.faddr 11 (tD 1)), opD 43 (.load false 1 (tD 42)), oqD 44 (.call 34 [(tD 41), (tD 43)]) (.ent (e34_1 fu))] [[], [], [1], [0, 2]] false) (.seq (.region [opD 46 (.bin .eql (tD 15) (cD 4)), mvD 45 46] [[], [0]] false) (.cond (.tmp 45) (.region [mvD 47 3, opD 48 (.faddr 12 (tD 1)), opD 49 (.load true 5 (tD 48)), oqD 50 (.call 39 [(tD 47), (tD 49)]) (.ent (e39 fu))] [[], [], [1], [0, 2]] false) (.seq (.region [opD 52 (.bin .eql (tD 15) (cD 5)), mvD 51 52] [[], [0]] false) (.cond (.tmp 51) .skip (.seq (.region [opD 2 (.mov (.const vS))] [[]] false) .ret))))))))))))) (.seq (.region [mvD 53 3, oqD 54 (.call 27 [(tD 53)]) (.ent (e27 fu)), mvD 2 54] [[], [0], [1, 1, 0, 1]] false) .ret))))))
set_option maxRecDepth 1000000 in
theorem v13 (fu : Nat) : evF fu (d13 fu) rs13 55 (e13 fu).ash (e13 fu).osh (e13 fu).vsh = p13 fu := by kernel_rfl
set_option maxRecDepth 1000000 in
theorem b13 (fu : Nat) : BodyD Tryd.prog 13 55 (d13 fu).erase rs13 := bodyD_mk Tryd.func13 (by kernel_rfl) (by kernel_rfl) (by kernel_rfl) (by kernel_rfl)
theorem g13 (fu : Nat) : (e13 fu).Good Tryd.prog := good_by orders (b13 fu) (l := [e37 fu, e34_1 fu, e38 fu, e34_1 fu, e37_1 fu, e34_1 fu, e34_1 fu, e39 fu, e27 fu]) (by kernel_rfl) ⟨g37 fu, g34_1 fu, g38 fu, g34_1 fu, g37_1 fu, g34_1 fu, g34_1 fu, g39 fu, g27 fu, trivial⟩ (by kernel_rfl) (v13 fu)
def rs14 : List RVx := [(.tmp 2)]
/-- gazette/codec.NewReader -/
def p14 (_ : Nat) : (List (Int)) × (Unit) → Option ((Unit) × ((List (Int)) × ((Int) × ((Unit) × (Unit))))) := fun ⟨a, _⟩ =>
bif decide (List.length a ≤ maxLen ∧ List.length a * 1 ≤ 140737488355328) then
 bif eqL a then
 some ((), (a, (0 : Int), (), ()))
 else none
else none
def e14 (fu : Nat) : Ent := ⟨14, (.cons (.hole (.sl (.int .u8))) .nil), .nil, (.box 95 3 (.cons (.own .own 5 (.int .u8)) (.cons (.hole (.int .i64)) (.cons (.nilv 1) .nil)))), p14 fu⟩
def d14 (_ : Nat) : DC := (.seq (.region [opD 2 (.mov (.const (.pointer none)))] [[]] false) (.seq (.region [mvD 3 0, oqD 4 (.app 5 1 [(.int .u8 0)] 1 (.const vS) (tD 3)) (.ty (.int .u8)), opD 5 (.build 3 [vS, vI, .nilIface] [(0, (1, (tD 4)))]), opD 6 (.box 95 3 (tD 5)), mvD 2 6] [[], [0], [1], [2], [3, 1, 0, 1, 2, 3]] false) .ret))
set_option maxRecDepth 1000000 in
theorem v14 (fu : Nat) : evF fu (d14 fu) rs14 7 (e14 fu).ash (e14 fu).osh (e14 fu).vsh = p14 fu := by kernel_rfl
set_option maxRecDepth 1000000 in
theorem b14 (fu : Nat) : BodyD Tryd.prog 14 7 (d14 fu).erase rs14 := bodyD_mk Tryd.func14 (by kernel_rfl) (by kernel_rfl) (by kernel_rfl) (by kernel_rfl)
theorem g14 (fu : Nat) : (e14 fu).Good Tryd.prog := good_by orders (b14 fu) (l := []) (by kernel_rfl) trivial (by kernel_rfl) (v14 fu)
def rs40 : List RVx := [(.tmp 2), (.tmp 3), (.tmp 4)]
/-- gazette/codec.number -/
def p40 (fu : Nat) : (List (Int)) × (Unit) → Option ((Unit) × ((Int) × ((Int) × ((Int) × (Unit))))) := fun ⟨a, _⟩ =>
loopO (S := ((Int) × ((Int) × (Unit))) × (Unit)) fu (fun ⟨⟨c, f, _⟩, _⟩ =>
 bif decide (f < (10 : Int)) then
 bif (f == (List.length a : Int)) then
 inrO (some ((), ((0 : Int), (0 : Int), (11 : Int), ())))
 else
 bif decide ((0 : Int) ≤ f ∧ f < (List.length a : Int)) then
 bif decide (Int.toNat f < List.length a) then
 orK (E := ((Int) × ((Bool) × ((Bool) × ((Bool) × (Unit))))) × (Unit))
 (bif (f == (9 : Int)) then
 bif ((List.getD a (Int.toNat f) (dflt (.int .u8))) != (1 : Int)) then
 inrO (inrO (some ((), ((0 : Int), (0 : Int), (12 : Int), ()))))
 else
 bif ((List.getD a (Int.toNat f) (dflt (.int .u8))) == (0 : Int)) then
 bif decide (f > (0 : Int)) then
 inrO (inrO (some ((), ((0 : Int), (0 : Int), (12 : Int), ()))))
 else
 some (.inl (((List.getD a (Int.toNat f) (dflt (.int .u8))), ((List.getD a (Int.toNat f) (dflt (.int .u8))) == (0 : Int)), true, decide (f > (0 : Int)), ()), ()))
 else
 some (.inl (((List.getD a (Int.toNat f) (dflt (.int .u8))), ((List.getD a (Int.toNat f) (dflt (.int .u8))) == (0 : Int)), false, false, ()), ()))
 else
 bif ((List.getD a (Int.toNat f) (dflt (.int .u8))) == (0 : Int)) then
 bif decide (f > (0 : Int)) then
 inrO (inrO (some ((), ((0 : Int), (0 : Int), (12 : Int), ()))))
 else
 some (.inl (((List.getD a (Int.toNat f) (dflt (.int .u8))), ((List.getD a (Int.toNat f) (dflt (.int .u8))) == (0 : Int)), true, decide (f > (0 : Int)), ()), ()))
 else
 some (.inl (((List.getD a (Int.toNat f) (dflt (.int .u8))), ((List.getD a (Int.toNat f) (dflt (.int .u8))) == (0 : Int)), false, false, ()), ())))
 fun ⟨⟨_, _, _, _, _⟩, _⟩ =>
 bif decide ((0 : Int) ≤ (IntKind.wrap .i64 ((7 : Int) * f))) then
 bif decide ((List.getD a (Int.toNat f) (dflt (.int .u8))) < (128 : Int)) then
 inrO (some ((), (IntKind.wrap .u64 ((BitVec.ofInt (IntKind.bits .u64) c ||| BitVec.ofInt (IntKind.bits .u64) (IntKind.wrap .u64 ((IntKind.wrap .u64 (IntKind.wrap .u8 ((BitVec.ofInt (IntKind.bits .u8) (List.getD a (Int.toNat f) (dflt (.int .u8))) &&& BitVec.ofInt (IntKind.bits .u8) (127 : Int)).toNat : Int))) * 2 ^ (min (Int.toNat (IntKind.wrap .i64 ((7 : Int) * f))) (IntKind.bits .u64))))).toNat : Int), IntKind.wrap .i64 (f + (1 : Int)), (0 : Int), ())))
 else
 some (.inl ((IntKind.wrap .u64 ((BitVec.ofInt (IntKind.bits .u64) c ||| BitVec.ofInt (IntKind.bits .u64) (IntKind.wrap .u64 ((IntKind.wrap .u64 (IntKind.wrap .u8 ((BitVec.ofInt (IntKind.bits .u8) (List.getD a (Int.toNat f) (dflt (.int .u8))) &&& BitVec.ofInt (IntKind.bits .u8) (127 : Int)).toNat : Int))) * 2 ^ (min (Int.toNat (IntKind.wrap .i64 ((7 : Int) * f))) (IntKind.bits .u64))))).toNat : Int), IntKind.wrap .i64 (f + (1 : Int)), ()), ()))
 else none
 else none
 else none
 else
 inrO (some ((), ((0 : Int), (0 : Int), (12 : Int), ()))))
 (((0 : Int), (0 : Int), ()), ())
def e40 (fu : Nat) : Ent := ⟨40, (.cons (.hole (.sl (.int .u8))) .nil), .nil, (.tup 3 (.cons (.hole (.int .u64)) (.cons (.hole (.int .i64)) (.cons (.hole (.int .i64)) .nil)))), p40 fu⟩
def d40 (_ : Nat) : DC := (.seq (.region [opD 2 (.mov (.const vU)), opD 3 (.mov (cD 0)), opD 4 (.mov (cD 0))] [[], [0], [1]] false) (.seq (.region [opD 5 (.mov (.const vU))] [[]] false) (.seq (.seq (.region [opD 9 (.mov (cD 0))] [[]] false) (.block 0 (.loop ⟨[5, 9], (.cons (.hole (.int .u64)) (.cons (.hole (.int .i64)) .nil)), [], .nil, [0], []⟩
 (.seq (.region [opD 10 (.bin .lss (tD 9) (cD 10))] [[]] false) (.seq (.cond (.tmp 10) .skip (.exit 0)) (.seq (.block 1 (.seq (.region [mvD 11 9, mvD 6 11] [[], [0, 0]] false) (.seq (.seq (.region [mvD 12 6, mvD 13 0, opD 14 (.len false (tD 13)), opD 15 (.bin .eql (tD 12) (tD 14))] [[], [], [1], [0, 2]] false) (.cond (.tmp 15) (.seq (.region [opD 2 (.mov (.const vU)), opD 3 (.mov (cD 0)), opD 4 (.mov (cD 11))] [[], [0, 0], [1, 0, 1]] false) .ret) .skip)) (.seq (.region [mvD 16 0, mvD 17 6, opD 18 (.iaddr 1 (tD 16) (tD 17)), opD 19 (.load false 1 (tD 18)), mvD 7 19] [[], [], [0, 1], [2], [3, 0, 1, 2, 3]] false) (.seq (.region [mvD 20 6, opD 21 (.bin .eql (tD 20) (cD 9)), mvD 8 21] [[], [0], [1, 0, 1]] false) (.join ⟨[28, 29, 30, 33], (.cons (.hole (.int .u8)) (.cons (.hole .bool) (.cons (.hole .bool) (.cons (.hole .bool) .nil)))), [], .nil, [0, 5, 6, 7, 9], []⟩
 (.seq (.region [mvD 22 8, mvD 23 22, ogD 24 23 true (.mov (tD 7)), ogD 25 23 true (.bin .neq (tD 24) (.const (.int .u8 1))), opD 26 (.pick (tD 23) (tD 25) (.const vB)), mvD 27 26, ogD 28 27 false (.mov (tD 7)), ogD 29 27 false (.bin .eql (tD 28) (.const (.int .u8 0))), ogD 30 27 false (.mov (tD 29)), ogD 31 30 true (.mov (tD 6)), ogD 32 30 true (.bin .gtr (tD 31) (cD 0)), ogD 33 27 false (.pick (tD 30) (tD 32) (.const vB)), opD 34 (.pick (tD 27) (.const (.bool true)) (tD 33))] [[], [0], [1], [2, 1], [1, 3], [4, 1], [5], [6, 5], [7, 5, 5], [8], [9, 8], [8, 10, 5], [5, 11]] false) (.cond (.tmp 34) (.exit 0) .skip))
 (.seq (.region [mvD 35 5, mvD 36 7, opD 37 (.bin .and (tD 36) (.const (.int .u8 127))), opD 38 (.conv .u64 (tD 37)), mvD 39 6, opD 40 (.bin .mul (cD 7) (tD 39)), opD 41 (.bin .shl (tD 38) (tD 40)), opD 42 (.bin .or (tD 35) (tD 41)), mvD 5 42] [[], [], [1], [2], [], [4], [3, 5], [0, 6], [7, 0, 1, 2, 3, 4, 5, 6, 7]] false) (.seq (.region [mvD 43 7, opD 44 (.bin .lss (tD 43) (.const (.int .u8 128)))] [[], [0]] false) (.cond (.tmp 44) (.seq (.region [mvD 45 5, mvD 46 6, opD 47 (.bin .add (tD 46) (cD 1)), mvD 2 45, mvD 3 47, opD 4 (.mov (cD 0))] [[], [], [1], [0, 0], [2, 3, 0, 1, 2, 3], [4, 0, 1, 2, 3, 4]] false) .ret) .skip))))))))) (.region [opD 48 (.bin .add (tD 9) (cD 1)), mvD 9 48] [[], [0]] false))))))) (.seq (.region [opD 2 (.mov (.const vU)), opD 3 (.mov (cD 0)), opD 4 (.mov (cD 12))] [[], [0, 0], [1, 0, 1]] false) .ret))))
set_option maxRecDepth 1000000 in
theorem v40 (fu : Nat) : evF fu (d40 fu) rs40 49 (e40 fu).ash (e40 fu).osh (e40 fu).vsh = p40 fu := by kernel_rfl
set_option maxRecDepth 1000000 in
theorem b40 (fu : Nat) : BodyD Tryd.prog 40 49 (d40 fu).erase rs40 := bodyD_mk Tryd.func40 (by kernel_rfl) (by kernel_rfl) (by kernel_rfl) (by kernel_rfl)
theorem g40 (fu : Nat) : (e40 fu).Good Tryd.prog := good_by orders (b40 fu) (l := []) (by kernel_rfl) trivial (by kernel_rfl) (v40 fu)
def rs43 : List RVx := []
/-- (*gazette/codec.Reader).failAt -/
def p43 (_ : Nat) : ((List (Int)) × ((Int) × ((Unit) × (Unit)))) × ((Int) × ((Int) × (Unit))) → Option ((((List (Int)) × ((Int) × (((Bool) × (((Int) × ((Int) × (Unit))) × (Unit))) × (Unit)))) × ((Unit) × (Unit))) × (Unit)) := fun ⟨⟨a, c, _, _⟩, f, h, _⟩ =>
bif (h != (0 : Int)) then
 bif eqL a then
 some (((a, c, (true, (h, f, ()), dflt .unit), ()), (), ()), ())
 else none
else
 bif eqL a then
 some (((a, c, zR0, ()), (), ()), ())
 else none
def e43 (fu : Nat) : Ent := ⟨43, (.cons (.box 95 3 (.cons (.own .own 5 (.int .u8)) (.cons (.hole (.int .i64)) (.cons (.nilv 1) .nil)))) (.cons (.hole (.int .i64)) (.cons (.hole (.int .i64)) .nil))), (.cons Y5 (.cons .dead .nil)), (.tup 0 .nil), p43 fu⟩
def d43 (_ : Nat) : DC := (.seq (.region [mvD 6 0, opD 7 (.pure .nilc [(tD 6)]), opD 8 (.faddr 2 (tD 7)), opD 9 (.load false 1 (tD 8)), opD 10 (.pure (.nilq 1 false) [(tD 9)]), mvD 11 10, ogD 12 11 true (.mov (tD 2)), ogD 13 11 true (.bin .neq (tD 12) (cD 0)), opD 14 (.pick (tD 11) (tD 13) (.const vB))] [[], [0], [1], [2], [3], [4], [5], [6, 5], [5, 7]] false) (.cond (.tmp 14) (.region [mvD 15 0, mvD 16 2, mvD 17 1, opD 18 (.build 2 [vI, vI] [(0, (1, (tD 16))), (1, (1, (tD 17)))]), opD 19 (.box 103 2 (tD 18)), opD 20 (.ifc 99 (tD 19)), opD 21 (.pure .nilc [(tD 15)]), opD 22 (.faddr 2 (tD 21)), onD (.store 1 (tD 22) (tD 20))] [[], [], [], [1, 2], [3], [4], [0, 0, 1, 2, 3, 4, 5], [6, 0, 1, 2, 3, 4, 5], [7, 5, 0, 1, 2, 3, 4, 5]] false) .skip))
set_option maxRecDepth 1000000 in
theorem v43 (fu : Nat) : evF fu (d43 fu) rs43 23 (e43 fu).ash (e43 fu).osh (e43 fu).vsh = p43 fu := by kernel_rfl
set_option maxRecDepth 1000000 in
theorem b43 (fu : Nat) : BodyD Tryd.prog 43 23 (d43 fu).erase rs43 := bodyD_mk Tryd.func43 (by kernel_rfl) (by kernel_rfl) (by kernel_rfl) (by kernel_rfl)
theorem g43 (fu : Nat) : (e43 fu).Good Tryd.prog := good_by orders (b43 fu) (l := []) (by kernel_rfl) trivial (by kernel_rfl) (v43 fu)
def rs41 : List RVx := []
/-- (*gazette/codec.Reader).Fail -/
def p41 (fu : Nat) : ((List (Int)) × ((Int) × ((Unit) × (Unit)))) × ((Int) × (Unit)) → Option ((((List (Int)) × ((Int) × (((Bool) × (((Int) × ((Int) × (Unit))) × (Unit))) × (Unit)))) × ((Unit) × (Unit))) × (Unit)) := fun ⟨⟨a, c, _, _⟩, f, _⟩ =>
bif eqL a then
 Option.bind (p43 fu ((a, c, (), ()), c, f, ())) fun ⟨⟨⟨h, i, ⟨j, ⟨k, l, _⟩, _⟩, _⟩, _, _⟩, _⟩ =>
 bif j then
 bif eqL h then
 some (((h, i, (true, (k, l, ()), dflt .unit), ()), (), ()), ())
 else none
 else
 bif eqL h then
 some (((h, i, zR0, ()), (), ()), ())
 else none
else none
def e41 (fu : Nat) : Ent := ⟨41, (.cons (.box 95 3 (.cons (.own .own 5 (.int .u8)) (.cons (.hole (.int .i64)) (.cons (.nilv 1) .nil)))) (.cons (.hole (.int .i64)) .nil)), (.cons Y5 (.cons .dead .nil)), (.tup 0 .nil), p41 fu⟩
def d41 (fu : Nat) : DC := (.region [mvD 4 0, mvD 5 0, opD 6 (.pure .nilc [(tD 5)]), opD 7 (.faddr 1 (tD 6)), opD 8 (.load false 1 (tD 7)), mvD 9 1, oqD 10 (.call 43 [(tD 4), (tD 8), (tD 9)]) (.ent (e43 fu))] [[], [], [1], [2], [3], [], [0, 4, 5]] false)
set_option maxRecDepth 1000000 in
theorem v41 (fu : Nat) : evF fu (d41 fu) rs41 11 (e41 fu).ash (e41 fu).osh (e41 fu).vsh = p41 fu := by kernel_rfl
set_option maxRecDepth 1000000 in
theorem b41 (fu : Nat) : BodyD Tryd.prog 41 11 (d41 fu).erase rs41 := bodyD_mk Tryd.func41 (by kernel_rfl) (by kernel_rfl) (by kernel_rfl) (by kernel_rfl)
theorem g41 (fu : Nat) : (e41 fu).Good Tryd.prog := good_by orders (b41 fu) (l := [e43 fu]) (by kernel_rfl) ⟨g43 fu, trivial⟩ (by kernel_rfl) (v41 fu)
def rs15 : List RVx := [(.tmp 2)]
/-- (*gazette/codec.Reader).Uint -/
def p15 (fu : Nat) : ((List (Int)) × ((Int) × ((Unit) × (Unit)))) × (Unit) → Option ((((List (Int)) × ((Int) × (((Bool) × (((Int) × ((Int) × (Unit))) × (Unit))) × (Unit)))) × ((Unit) × (Unit))) × (Int)) := fun ⟨⟨a, c, _, _⟩, _⟩ =>
bif decide ((0 : Int) ≤ c) then
 bif decide (Int.toNat c ≤ List.length a ∧ 0 + (List.length a) ≤ List.length a) then
 bif decide ((Int.toNat c) + ((List.length a) - (Int.toNat c)) ≤ List.length a) then
 Option.bind (p40 fu (sub' a (Int.toNat c) ((List.length a) - (Int.toNat c)), ())) fun ⟨_, ⟨f, h, i, _⟩⟩ =>
 bif eqL a then
 Option.bind (p41 fu ((a, c, (), ()), i, ())) fun ⟨⟨⟨j, k, ⟨l, ⟨m, n, _⟩, _⟩, _⟩, _, _⟩, _⟩ =>
 bif l then
 bif eqL j then
 some (((j, IntKind.wrap .i64 (k + h), (true, (m, n, ()), dflt .unit), ()), (), ()), f)
 else none
 else
 bif eqL j then
 some (((j, IntKind.wrap .i64 (k + h), zR0, ()), (), ()), f)
 else none
 else none
 else none
 else none
else none
def e15 (fu : Nat) : Ent := ⟨15, (.cons (.box 95 3 (.cons (.own .own 5 (.int .u8)) (.cons (.hole (.int .i64)) (.cons (.nilv 1) .nil)))) .nil), (.cons Y5 (.cons .dead .nil)), (.hole (.int .u64)), p15 fu⟩
def d15 (fu : Nat) : DC := (.seq (.region [opD 2 (.mov (.const vU))] [[]] false) (.seq (.seq (.region [mvD 6 0, opD 7 (.pure .nilc [(tD 6)]), opD 8 (.faddr 2 (tD 7)), opD 9 (.load false 1 (tD 8)), opD 10 (.pure (.nilq 1 true) [(tD 9)])] [[], [0], [1], [2], [3]] false) (.cond (.tmp 10) (.seq (.region [opD 2 (.mov (.const vU))] [[]] false) .ret) .skip)) (.seq (.region [mvD 12 0, opD 13 (.pure .nilc [(tD 12)]), opD 14 (.faddr 0 (tD 13)), opD 15 (.load false 1 (tD 14)), mvD 16 0, opD 17 (.pure .nilc [(tD 16)]), opD 18 (.faddr 1 (tD 17)), opD 19 (.load false 1 (tD 18)), opD 20 (.slc 1 (tD 15) (some (tD 19)) none), oqD 21 (.call 40 [(tD 20)]) (.ent (e40 fu)), mvD 11 21, opD 22 (.ext (tD 11) 0), opD 23 (.ext (tD 11) 1), opD 24 (.ext (tD 11) 2), mvD 3 22, mvD 4 23, mvD 5 24] [[], [0], [1], [2], [], [4], [5], [6], [3, 7], [8], [9], [10], [10], [10], [11, 9, 0, 1, 2, 3, 4, 5, 6, 7, 8, 9, 10, 11], [12, 14, 0, 1, 2, 3, 4, 5, 6, 7, 8, 9, 10, 11, 12, 14], [13, 15, 0, 1, 2, 3, 4, 5, 6, 7, 8, 9, 10, 11, 12, 13, 14, 15]] true) (.seq (.region [mvD 25 0, mvD 26 5, oqD 27 (.call 41 [(tD 25), (tD 26)]) (.ent (e41 fu))] [[], [], [0, 1]] false) (.seq (.region [mvD 28 0, opD 29 (.pure .nilc [(tD 28)]), opD 30 (.faddr 1 (tD 29)), opD 31 (.load false 1 (tD 30)), mvD 32 4, opD 33 (.bin .add (tD 31) (tD 32)), opD 34 (.pure .nilc [(tD 28)]), opD 35 (.faddr 1 (tD 34)), onD (.store 1 (tD 35) (tD 33))] [[], [0], [1], [2], [], [3, 4], [0, 0, 1, 2, 3, 4, 5], [6, 0, 1, 2, 3, 4, 5], [7, 5, 0, 1, 2, 3, 4, 5]] false) (.seq (.region [mvD 36 3, mvD 2 36] [[], [0, 0]] false) .ret))))))
set_option maxRecDepth 1000000 in
theorem v15 (fu : Nat) : evF fu (d15 fu) rs15 37 (e15 fu).ash (e15 fu).osh (e15 fu).vsh = p15 fu := by kernel_rfl
set_option maxRecDepth 1000000 in
theorem b15 (fu : Nat) : BodyD Tryd.prog 15 37 (d15 fu).erase rs15 := bodyD_mk Tryd.func15 (by kernel_rfl) (by kernel_rfl) (by kernel_rfl) (by kernel_rfl)
theorem g15 (fu : Nat) : (e15 fu).Good Tryd.prog := good_by orders (b15 fu) (l := [e40 fu, e41 fu]) (by kernel_rfl) ⟨g40 fu, g41 fu, trivial⟩ (by kernel_rfl) (v15 fu)
def rs48 : List RVx := [(.tmp 2)]
/-- (*gazette/codec.Reader).Int -/
def p48 (fu : Nat) : ((List (Int)) × ((Int) × ((Unit) × (Unit)))) × (Unit) → Option ((((List (Int)) × ((Int) × (((Bool) × (((Int) × ((Int) × (Unit))) × (Unit))) × (Unit)))) × ((Unit) × (Unit))) × (Int)) := fun ⟨⟨a, c, _, _⟩, _⟩ =>
bif eqL a then
 Option.bind (p15 fu ((a, c, (), ()), ())) fun ⟨⟨⟨f, h, ⟨i, ⟨j, k, _⟩, _⟩, _⟩, _, _⟩, l⟩ =>
 bif i then
 bif eqL f then
 some (((f, h, (true, (j, k, ()), dflt .unit), ()), (), ()), IntKind.wrap .i64 (IntKind.wrap .u64 ((BitVec.ofInt (IntKind.bits .u64) (Int.fdiv l (2 ^ (min (Int.toNat (1 : Int)) (IntKind.bits .u64)))) ^^^ BitVec.ofInt (IntKind.bits .u64) (IntKind.wrap .u64 (0 - (IntKind.wrap .u64 ((BitVec.ofInt (IntKind.bits .u64) l &&& BitVec.ofInt (IntKind.bits .u64) (1 : Int)).toNat : Int))))).toNat : Int)))
 else none
 else
 bif eqL f then
 some (((f, h, zR0, ()), (), ()), IntKind.wrap .i64 (IntKind.wrap .u64 ((BitVec.ofInt (IntKind.bits .u64) (Int.fdiv l (2 ^ (min (Int.toNat (1 : Int)) (IntKind.bits .u64)))) ^^^ BitVec.ofInt (IntKind.bits .u64) (IntKind.wrap .u64 (0 - (IntKind.wrap .u64 ((BitVec.ofInt (IntKind.bits .u64) l &&& BitVec.ofInt (IntKind.bits .u64) (1 : Int)).toNat : Int))))).toNat : Int)))
 else none
else none
def e48 (fu : Nat) : Ent := ⟨48, (.cons (.box 95 3 (.cons (.own .own 5 (.int .u8)) (.cons (.hole (.int .i64)) (.cons (.nilv 1) .nil)))) .nil), (.cons Y5 (.cons .dead .nil)), (.hole (.int .i64)), p48 fu⟩
def d48 (fu : Nat) : DC := (.seq (.region [opD 2 (.mov (cD 0))] [[]] false) (.seq (.region [mvD 4 0, oqD 5 (.call 15 [(tD 4)]) (.ent (e15 fu)), mvD 3 5] [[], [0], [1, 1, 0, 1]] false) (.seq (.region [mvD 6 3, opD 7 (.bin .shr (tD 6) (.const (.int .u64 1))), mvD 8 3, opD 9 (.bin .and (tD 8) (.const (.int .u64 1))), opD 10 (.pure .neg [(tD 9)]), opD 11 (.bin .xor (tD 7) (tD 10)), opD 12 (.conv .i64 (tD 11)), mvD 2 12] [[], [0], [], [2], [3], [1, 4], [5], [6, 0, 1, 2, 3, 4, 5, 6]] false) .ret)))
set_option maxRecDepth 1000000 in
theorem v48 (fu : Nat) : evF fu (d48 fu) rs48 13 (e48 fu).ash (e48 fu).osh (e48 fu).vsh = p48 fu := by kernel_rfl
set_option maxRecDepth 1000000 in
theorem b48 (fu : Nat) : BodyD Tryd.prog 48 13 (d48 fu).erase rs48 := bodyD_mk Tryd.func48 (by kernel_rfl) (by kernel_rfl) (by kernel_rfl) (by kernel_rfl)
theorem g48 (fu : Nat) : (e48 fu).Good Tryd.prog := good_by orders (b48 fu) (l := [e15 fu]) (by kernel_rfl) ⟨g15 fu, trivial⟩ (by kernel_rfl) (v48 fu)
/-- (*gazette/codec.Reader).failAt -/
def p43_2 (_ : Nat) : ((List (Int)) × ((Int) × (((Bool) × (((Int) × ((Int) × (Unit))) × (Unit))) × (Unit)))) × ((Int) × ((Int) × (Unit))) → Option ((((List (Int)) × ((Int) × (((Bool) × (((Int) × ((Int) × (Unit))) × (Unit))) × (Unit)))) × ((Unit) × (Unit))) × (Unit)) := fun ⟨⟨a, c, ⟨f, ⟨h, i, _⟩, _⟩, _⟩, j, k, _⟩ =>
bif f then
 bif eqL a then
 some (((a, c, (true, (h, i, ()), dflt .unit), ()), (), ()), ())
 else none
else
 bif (k != (0 : Int)) then
 bif eqL a then
 some (((a, c, (true, (k, j, ()), dflt .unit), ()), (), ()), ())
 else none
 else
 bif eqL a then
 some (((a, c, zR0, ()), (), ()), ())
 else none
def e43_2 (fu : Nat) : Ent := ⟨43, (.cons Y6 (.cons (.hole (.int .i64)) (.cons (.hole (.int .i64)) .nil))), (.cons Y5 (.cons .dead .nil)), (.tup 0 .nil), p43_2 fu⟩
def d43_2 (_ : Nat) : DC := (.seq (.region [mvD 6 0, opD 7 (.pure .nilc [(tD 6)]), opD 8 (.faddr 2 (tD 7)), opD 9 (.load false 1 (tD 8)), opD 10 (.pure (.nilq 1 false) [(tD 9)]), mvD 11 10, ogD 12 11 true (.mov (tD 2)), ogD 13 11 true (.bin .neq (tD 12) (cD 0)), opD 14 (.pick (tD 11) (tD 13) (.const vB))] [[], [0], [1], [2], [3], [4], [5], [6, 5], [5, 7]] false) (.cond (.tmp 14) (.region [mvD 15 0, mvD 16 2, mvD 17 1, opD 18 (.build 2 [vI, vI] [(0, (1, (tD 16))), (1, (1, (tD 17)))]), opD 19 (.box 103 2 (tD 18)), opD 20 (.ifc 99 (tD 19)), opD 21 (.pure .nilc [(tD 15)]), opD 22 (.faddr 2 (tD 21)), onD (.store 1 (tD 22) (tD 20))] [[], [], [], [1, 2], [3], [4], [0, 0, 1, 2, 3, 4, 5], [6, 0, 1, 2, 3, 4, 5], [7, 5, 0, 1, 2, 3, 4, 5]] false) .skip))
set_option maxRecDepth 1000000 in
theorem v43_2 (fu : Nat) : evF fu (d43_2 fu) rs43 23 (e43_2 fu).ash (e43_2 fu).osh (e43_2 fu).vsh = p43_2 fu := by kernel_rfl
set_option maxRecDepth 1000000 in
theorem b43_2 (fu : Nat) : BodyD Tryd.prog 43 23 (d43_2 fu).erase rs43 := bodyD_mk Tryd.func43 (by kernel_rfl) (by kernel_rfl) (by kernel_rfl) (by kernel_rfl)
theorem g43_2 (fu : Nat) : (e43_2 fu).Good Tryd.prog := good_by orders (b43_2 fu) (l := []) (by kernel_rfl) trivial (by kernel_rfl) (v43_2 fu)
def rs46 : List RVx := [(.tmp 2)]
/-- gazette/codec.itemKind -/
def p46 (fu : Nat) : ((List (Int)) × ((Int) × ((Unit) × (Unit)))) × (Unit) → Option ((((List (Int)) × ((Int) × (((Bool) × (((Int) × ((Int) × (Unit))) × (Unit))) × (Unit)))) × ((Unit) × (Unit))) × (Int)) := fun ⟨⟨a, c, _, _⟩, _⟩ =>
bif eqL a then
 Option.bind (p48 fu ((a, c, (), ()), ())) fun ⟨⟨⟨f, h, ⟨i, ⟨j, k, _⟩, _⟩, _⟩, _, _⟩, l⟩ =>
 bif i then
 orK (E := ((Bool) × (Unit)) × (Unit))
 (bif decide (l < (1 : Int)) then
 some (.inl ((true, ()), ()))
 else
 some (.inl ((decide (l > (5 : Int)), ()), ())))
 fun ⟨⟨m, _⟩, _⟩ =>
 bif m then
 bif eqL f then
 Option.bind (p43_2 fu ((f, h, (true, (j, k, ()), dflt .unit), ()), c, (16 : Int), ())) fun ⟨⟨⟨n, o, ⟨q, ⟨s, t, _⟩, _⟩, _⟩, _, _⟩, _⟩ =>
 bif q then
 bif eqL n then
 some (((n, o, (true, (s, t, ()), dflt .unit), ()), (), ()), l)
 else none
 else
 bif eqL n then
 some (((n, o, zR0, ()), (), ()), l)
 else none
 else none
 else
 bif eqL f then
 some (((f, h, (true, (j, k, ()), dflt .unit), ()), (), ()), l)
 else none
 else
 orK (E := ((Bool) × (Unit)) × (Unit))
 (bif decide (l < (1 : Int)) then
 some (.inl ((true, ()), ()))
 else
 some (.inl ((decide (l > (5 : Int)), ()), ())))
 fun ⟨⟨m, _⟩, _⟩ =>
 bif m then
 bif eqL f then
 Option.bind (p43_2 fu ((f, h, zR0, ()), c, (16 : Int), ())) fun ⟨⟨⟨u, w, ⟨x, ⟨y, z, _⟩, _⟩, _⟩, _, _⟩, _⟩ =>
 bif x then
 bif eqL u then
 some (((u, w, (true, (y, z, ()), dflt .unit), ()), (), ()), l)
 else none
 else
 bif eqL u then
 some (((u, w, zR0, ()), (), ()), l)
 else none
 else none
 else
 bif eqL f then
 some (((f, h, zR0, ()), (), ()), l)
 else none
else none
def e46 (fu : Nat) : Ent := ⟨46, (.cons (.box 95 3 (.cons (.own .own 5 (.int .u8)) (.cons (.hole (.int .i64)) (.cons (.nilv 1) .nil)))) .nil), (.cons Y5 (.cons .dead .nil)), (.hole (.int .i64)), p46 fu⟩
def d46 (fu : Nat) : DC := (.seq (.region [opD 2 (.mov (cD 0))] [[]] false) (.seq (.region [mvD 5 0, opD 6 (.pure .nilc [(tD 5)]), opD 7 (.faddr 1 (tD 6)), opD 8 (.load false 1 (tD 7)), mvD 3 8] [[], [0], [1], [2], [3, 0, 1, 2, 3]] false) (.seq (.region [mvD 9 0, oqD 10 (.call 48 [(tD 9)]) (.ent (e48 fu)), mvD 4 10] [[], [0], [1, 1, 0, 1]] false) (.seq (.join ⟨[16], (.cons (.hole .bool) .nil), [], .nil, [0, 3, 4], [0, 1, 116]⟩
 (.region [mvD 11 4, opD 12 (.bin .lss (tD 11) (cD 1)), mvD 13 12, ogD 14 13 false (.mov (tD 4)), ogD 15 13 false (.bin .gtr (tD 14) (cD 5)), opD 16 (.pick (tD 13) (.const (.bool true)) (tD 15))] [[], [0], [1], [2], [3, 2], [2, 4]] false)
 (.cond (.tmp 16) (.region [mvD 17 0, mvD 18 3, oqD 19 (.call 43 [(tD 17), (tD 18), (cD 16)]) (.ent (e43_2 fu))] [[], [], [0, 1]] false) .skip)) (.seq (.region [mvD 20 4, mvD 2 20] [[], [0, 0]] false) .ret)))))
set_option maxRecDepth 1000000 in
theorem v46 (fu : Nat) : evF fu (d46 fu) rs46 21 (e46 fu).ash (e46 fu).osh (e46 fu).vsh = p46 fu := by kernel_rfl
set_option maxRecDepth 1000000 in
theorem b46 (fu : Nat) : BodyD Tryd.prog 46 21 (d46 fu).erase rs46 := bodyD_mk Tryd.func46 (by kernel_rfl) (by kernel_rfl) (by kernel_rfl) (by kernel_rfl)
theorem g46 (fu : Nat) : (e46 fu).Good Tryd.prog := good_by orders (b46 fu) (l := [e48 fu, e43_2 fu]) (by kernel_rfl) ⟨g48 fu, g43_2 fu, trivial⟩ (by kernel_rfl) (v46 fu)
/-- (*gazette/codec.Reader).Uint -/
def p15_2 (fu : Nat) : ((List (Int)) × ((Int) × (((Bool) × (((Int) × ((Int) × (Unit))) × (Unit))) × (Unit)))) × (Unit) → Option ((((List (Int)) × ((Int) × (((Bool) × (((Int) × ((Int) × (Unit))) × (Unit))) × (Unit)))) × ((Unit) × (Unit))) × (Int)) := fun ⟨⟨a, c, ⟨f, ⟨h, i, _⟩, _⟩, _⟩, _⟩ =>
bif f then
 bif eqL a then
 some (((a, c, (true, (h, i, ()), dflt .unit), ()), (), ()), (0 : Int))
 else none
else
 bif decide ((0 : Int) ≤ c) then
 bif decide (Int.toNat c ≤ List.length a ∧ 0 + (List.length a) ≤ List.length a) then
 bif decide ((Int.toNat c) + ((List.length a) - (Int.toNat c)) ≤ List.length a) then
 Option.bind (p40 fu (sub' a (Int.toNat c) ((List.length a) - (Int.toNat c)), ())) fun ⟨_, ⟨j, k, l, _⟩⟩ =>
 bif eqL a then
 Option.bind (p41 fu ((a, c, (), ()), l, ())) fun ⟨⟨⟨m, n, ⟨o, ⟨q, s, _⟩, _⟩, _⟩, _, _⟩, _⟩ =>
 bif o then
 bif eqL m then
 some (((m, IntKind.wrap .i64 (n + k), (true, (q, s, ()), dflt .unit), ()), (), ()), j)
 else none
 else
 bif eqL m then
 some (((m, IntKind.wrap .i64 (n + k), zR0, ()), (), ()), j)
 else none
 else none
 else none
 else none
 else none
def e15_2 (fu : Nat) : Ent := ⟨15, (.cons Y6 .nil), (.cons Y5 (.cons .dead .nil)), (.hole (.int .u64)), p15_2 fu⟩
def d15_2 (fu : Nat) : DC := (.seq (.region [opD 2 (.mov (.const vU))] [[]] false) (.seq (.seq (.region [mvD 6 0, opD 7 (.pure .nilc [(tD 6)]), opD 8 (.faddr 2 (tD 7)), opD 9 (.load false 1 (tD 8)), opD 10 (.pure (.nilq 1 true) [(tD 9)])] [[], [0], [1], [2], [3]] false) (.cond (.tmp 10) (.seq (.region [opD 2 (.mov (.const vU))] [[]] false) .ret) .skip)) (.seq (.region [mvD 12 0, opD 13 (.pure .nilc [(tD 12)]), opD 14 (.faddr 0 (tD 13)), opD 15 (.load false 1 (tD 14)), mvD 16 0, opD 17 (.pure .nilc [(tD 16)]), opD 18 (.faddr 1 (tD 17)), opD 19 (.load false 1 (tD 18)), opD 20 (.slc 1 (tD 15) (some (tD 19)) none), oqD 21 (.call 40 [(tD 20)]) (.ent (e40 fu)), mvD 11 21, opD 22 (.ext (tD 11) 0), opD 23 (.ext (tD 11) 1), opD 24 (.ext (tD 11) 2), mvD 3 22, mvD 4 23, mvD 5 24] [[], [0], [1], [2], [], [4], [5], [6], [3, 7], [8], [9], [10], [10], [10], [11, 9, 0, 1, 2, 3, 4, 5, 6, 7, 8, 9, 10, 11], [12, 14, 0, 1, 2, 3, 4, 5, 6, 7, 8, 9, 10, 11, 12, 14], [13, 15, 0, 1, 2, 3, 4, 5, 6, 7, 8, 9, 10, 11, 12, 13, 14, 15]] true) (.seq (.region [mvD 25 0, mvD 26 5, oqD 27 (.call 41 [(tD 25), (tD 26)]) (.ent (e41 fu))] [[], [], [0, 1]] false) (.seq (.region [mvD 28 0, opD 29 (.pure .nilc [(tD 28)]), opD 30 (.faddr 1 (tD 29)), opD 31 (.load false 1 (tD 30)), mvD 32 4, opD 33 (.bin .add (tD 31) (tD 32)), opD 34 (.pure .nilc [(tD 28)]), opD 35 (.faddr 1 (tD 34)), onD (.store 1 (tD 35) (tD 33))] [[], [0], [1], [2], [], [3, 4], [0, 0, 1, 2, 3, 4, 5], [6, 0, 1, 2, 3, 4, 5], [7, 5, 0, 1, 2, 3, 4, 5]] false) (.seq (.region [mvD 36 3, mvD 2 36] [[], [0, 0]] false) .ret))))))
set_option maxRecDepth 1000000 in
theorem v15_2 (fu : Nat) : evF fu (d15_2 fu) rs15 37 (e15_2 fu).ash (e15_2 fu).osh (e15_2 fu).vsh = p15_2 fu := by kernel_rfl
set_option maxRecDepth 1000000 in
theorem b15_2 (fu : Nat) : BodyD Tryd.prog 15 37 (d15_2 fu).erase rs15 := bodyD_mk Tryd.func15 (by kernel_rfl) (by kernel_rfl) (by kernel_rfl) (by kernel_rfl)
theorem g15_2 (fu : Nat) : (e15_2 fu).Good Tryd.prog := good_by orders (b15_2 fu) (l := [e40 fu, e41 fu]) (by kernel_rfl) ⟨g40 fu, g41 fu, trivial⟩ (by kernel_rfl) (v15_2 fu)
/-- (*gazette/codec.Reader).Int -/
def p48_2 (fu : Nat) : ((List (Int)) × ((Int) × (((Bool) × (((Int) × ((Int) × (Unit))) × (Unit))) × (Unit)))) × (Unit) → Option ((((List (Int)) × ((Int) × (((Bool) × (((Int) × ((Int) × (Unit))) × (Unit))) × (Unit)))) × ((Unit) × (Unit))) × (Int)) := fun ⟨⟨a, c, ⟨f, ⟨h, i, _⟩, _⟩, _⟩, _⟩ =>
bif f then
 bif eqL a then
 Option.bind (p15_2 fu ((a, c, (true, (h, i, ()), dflt .unit), ()), ())) fun ⟨⟨⟨j, k, ⟨l, ⟨m, n, _⟩, _⟩, _⟩, _, _⟩, o⟩ =>
 bif l then
 bif eqL j then
 some (((j, k, (true, (m, n, ()), dflt .unit), ()), (), ()), IntKind.wrap .i64 (IntKind.wrap .u64 ((BitVec.ofInt (IntKind.bits .u64) (Int.fdiv o (2 ^ (min (Int.toNat (1 : Int)) (IntKind.bits .u64)))) ^^^ BitVec.ofInt (IntKind.bits .u64) (IntKind.wrap .u64 (0 - (IntKind.wrap .u64 ((BitVec.ofInt (IntKind.bits .u64) o &&& BitVec.ofInt (IntKind.bits .u64) (1 : Int)).toNat : Int))))).toNat : Int)))
 else none
 else
 bif eqL j then
 some (((j, k, zR0, ()), (), ()), IntKind.wrap .i64 (IntKind.wrap .u64 ((BitVec.ofInt (IntKind.bits .u64) (Int.fdiv o (2 ^ (min (Int.toNat (1 : Int)) (IntKind.bits .u64)))) ^^^ BitVec.ofInt (IntKind.bits .u64) (IntKind.wrap .u64 (0 - (IntKind.wrap .u64 ((BitVec.ofInt (IntKind.bits .u64) o &&& BitVec.ofInt (IntKind.bits .u64) (1 : Int)).toNat : Int))))).toNat : Int)))
 else none
 else none
else
 bif eqL a then
 Option.bind (p15_2 fu ((a, c, zR0, ()), ())) fun ⟨⟨⟨q, s, ⟨t, ⟨u, w, _⟩, _⟩, _⟩, _, _⟩, x⟩ =>
 bif t then
 bif eqL q then
 some (((q, s, (true, (u, w, ()), dflt .unit), ()), (), ()), IntKind.wrap .i64 (IntKind.wrap .u64 ((BitVec.ofInt (IntKind.bits .u64) (Int.fdiv x (2 ^ (min (Int.toNat (1 : Int)) (IntKind.bits .u64)))) ^^^ BitVec.ofInt (IntKind.bits .u64) (IntKind.wrap .u64 (0 - (IntKind.wrap .u64 ((BitVec.ofInt (IntKind.bits .u64) x &&& BitVec.ofInt (IntKind.bits .u64) (1 : Int)).toNat : Int))))).toNat : Int)))
 else none
 else
 bif eqL q then
 some (((q, s, zR0, ()), (), ()), IntKind.wrap .i64 (IntKind.wrap .u64 ((BitVec.ofInt (IntKind.bits .u64) (Int.fdiv x (2 ^ (min (Int.toNat (1 : Int)) (IntKind.bits .u64)))) ^^^ BitVec.ofInt (IntKind.bits .u64) (IntKind.wrap .u64 (0 - (IntKind.wrap .u64 ((BitVec.ofInt (IntKind.bits .u64) x &&& BitVec.ofInt (IntKind.bits .u64) (1 : Int)).toNat : Int))))).toNat : Int)))
 else none
 else none
def e48_2 (fu : Nat) : Ent := ⟨48, (.cons Y6 .nil), (.cons Y5 (.cons .dead .nil)), (.hole (.int .i64)), p48_2 fu⟩
def d48_2 (fu : Nat) : DC := (.seq (.region [opD 2 (.mov (cD 0))] [[]] false) (.seq (.region [mvD 4 0, oqD 5 (.call 15 [(tD 4)]) (.ent (e15_2 fu)), mvD 3 5] [[], [0], [1, 1, 0, 1]] false) (.seq (.region [mvD 6 3, opD 7 (.bin .shr (tD 6) (.const (.int .u64 1))), mvD 8 3, opD 9 (.bin .and (tD 8) (.const (.int .u64 1))), opD 10 (.pure .neg [(tD 9)]), opD 11 (.bin .xor (tD 7) (tD 10)), opD 12 (.conv .i64 (tD 11)), mvD 2 12] [[], [0], [], [2], [3], [1, 4], [5], [6, 0, 1, 2, 3, 4, 5, 6]] false) .ret)))
set_option maxRecDepth 1000000 in
theorem v48_2 (fu : Nat) : evF fu (d48_2 fu) rs48 13 (e48_2 fu).ash (e48_2 fu).osh (e48_2 fu).vsh = p48_2 fu := by kernel_rfl
set_option maxRecDepth 1000000 in
theorem b48_2 (fu : Nat) : BodyD Tryd.prog 48 13 (d48_2 fu).erase rs48 := bodyD_mk Tryd.func48 (by kernel_rfl) (by kernel_rfl) (by kernel_rfl) (by kernel_rfl)
theorem g48_2 (fu : Nat) : (e48_2 fu).Good Tryd.prog := good_by orders (b48_2 fu) (l := [e15_2 fu]) (by kernel_rfl) ⟨g15_2 fu, trivial⟩ (by kernel_rfl) (v48_2 fu)
def rs89 : List RVx := [(.tmp 2)]
/-- (*gazette/codec.Reader).entryKind -/
def p89_2 (fu : Nat) : ((List (Int)) × ((Int) × (((Bool) × (((Int) × ((Int) × (Unit))) × (Unit))) × (Unit)))) × (Unit) → Option ((((List (Int)) × ((Int) × (((Bool) × (((Int) × ((Int) × (Unit))) × (Unit))) × (Unit)))) × ((Unit) × (Unit))) × (Int)) := fun ⟨⟨a, c, ⟨f, ⟨h, i, _⟩, _⟩, _⟩, _⟩ =>
bif f then
 bif eqL a then
 Option.bind (p48_2 fu ((a, c, (true, (h, i, ()), dflt .unit), ()), ())) fun ⟨⟨⟨j, k, ⟨l, ⟨m, n, _⟩, _⟩, _⟩, _, _⟩, o⟩ =>
 bif l then
 orK (E := ((Bool) × (Unit)) × (Unit))
 (bif decide (o < (1 : Int)) then
 some (.inl ((true, ()), ()))
 else
 some (.inl ((decide (o > (3 : Int)), ()), ())))
 fun ⟨⟨q, _⟩, _⟩ =>
 bif q then
 bif eqL j then
 Option.bind (p43_2 fu ((j, k, (true, (m, n, ()), dflt .unit), ()), c, (16 : Int), ())) fun ⟨⟨⟨s, t, ⟨u, ⟨w, x, _⟩, _⟩, _⟩, _, _⟩, _⟩ =>
 bif u then
 bif eqL s then
 some (((s, t, (true, (w, x, ()), dflt .unit), ()), (), ()), o)
 else none
 else
 bif eqL s then
 some (((s, t, zR0, ()), (), ()), o)
 else none
 else none
 else
 bif eqL j then
 some (((j, k, (true, (m, n, ()), dflt .unit), ()), (), ()), o)
 else none
 else
 orK (E := ((Bool) × (Unit)) × (Unit))
 (bif decide (o < (1 : Int)) then
 some (.inl ((true, ()), ()))
 else
 some (.inl ((decide (o > (3 : Int)), ()), ())))
 fun ⟨⟨q, _⟩, _⟩ =>
 bif q then
 bif eqL j then
 Option.bind (p43_2 fu ((j, k, zR0, ()), c, (16 : Int), ())) fun ⟨⟨⟨y, z, ⟨a0, ⟨c0, f0, _⟩, _⟩, _⟩, _, _⟩, _⟩ =>
 bif a0 then
 bif eqL y then
 some (((y, z, (true, (c0, f0, ()), dflt .unit), ()), (), ()), o)
 else none
 else
 bif eqL y then
 some (((y, z, zR0, ()), (), ()), o)
 else none
 else none
 else
 bif eqL j then
 some (((j, k, zR0, ()), (), ()), o)
 else none
 else none
else
 bif eqL a then
 Option.bind (p48_2 fu ((a, c, zR0, ()), ())) fun ⟨⟨⟨h0, i0, ⟨j0, ⟨k0, l0, _⟩, _⟩, _⟩, _, _⟩, m0⟩ =>
 bif j0 then
 orK (E := ((Bool) × (Unit)) × (Unit))
 (bif decide (m0 < (1 : Int)) then
 some (.inl ((true, ()), ()))
 else
 some (.inl ((decide (m0 > (3 : Int)), ()), ())))
 fun ⟨⟨q, _⟩, _⟩ =>
 bif q then
 bif eqL h0 then
 Option.bind (p43_2 fu ((h0, i0, (true, (k0, l0, ()), dflt .unit), ()), c, (16 : Int), ())) fun ⟨⟨⟨n0, o0, ⟨q0, ⟨s0, t0, _⟩, _⟩, _⟩, _, _⟩, _⟩ =>
 bif q0 then
 bif eqL n0 then
 some (((n0, o0, (true, (s0, t0, ()), dflt .unit), ()), (), ()), m0)
 else none
 else
 bif eqL n0 then
 some (((n0, o0, zR0, ()), (), ()), m0)
 else none
 else none
 else
 bif eqL h0 then
 some (((h0, i0, (true, (k0, l0, ()), dflt .unit), ()), (), ()), m0)
 else none
 else
 orK (E := ((Bool) × (Unit)) × (Unit))
 (bif decide (m0 < (1 : Int)) then
 some (.inl ((true, ()), ()))
 else
 some (.inl ((decide (m0 > (3 : Int)), ()), ())))
 fun ⟨⟨q, _⟩, _⟩ =>
 bif q then
 bif eqL h0 then
 Option.bind (p43_2 fu ((h0, i0, zR0, ()), c, (16 : Int), ())) fun ⟨⟨⟨u0, w0, ⟨x0, ⟨y0, z0, _⟩, _⟩, _⟩, _, _⟩, _⟩ =>
 bif x0 then
 bif eqL u0 then
 some (((u0, w0, (true, (y0, z0, ()), dflt .unit), ()), (), ()), m0)
 else none
 else
 bif eqL u0 then
 some (((u0, w0, zR0, ()), (), ()), m0)
 else none
 else none
 else
 bif eqL h0 then
 some (((h0, i0, zR0, ()), (), ()), m0)
 else none
 else none
def e89_2 (fu : Nat) : Ent := ⟨89, (.cons Y6 .nil), (.cons Y5 (.cons .dead .nil)), (.hole (.int .i64)), p89_2 fu⟩
def d89_2 (fu : Nat) : DC := (.seq (.region [opD 2 (.mov (cD 0))] [[]] false) (.seq (.region [mvD 5 0, opD 6 (.pure .nilc [(tD 5)]), opD 7 (.faddr 1 (tD 6)), opD 8 (.load false 1 (tD 7)), mvD 3 8] [[], [0], [1], [2], [3, 0, 1, 2, 3]] false) (.seq (.region [mvD 9 0, oqD 10 (.call 48 [(tD 9)]) (.ent (e48_2 fu)), mvD 4 10] [[], [0], [1, 1, 0, 1]] false) (.seq (.join ⟨[16], (.cons (.hole .bool) .nil), [], .nil, [0, 3, 4], [0, 1, 116]⟩
 (.region [mvD 11 4, opD 12 (.bin .lss (tD 11) (cD 1)), mvD 13 12, ogD 14 13 false (.mov (tD 4)), ogD 15 13 false (.bin .gtr (tD 14) (cD 3)), opD 16 (.pick (tD 13) (.const (.bool true)) (tD 15))] [[], [0], [1], [2], [3, 2], [2, 4]] false)
 (.cond (.tmp 16) (.region [mvD 17 0, mvD 18 3, oqD 19 (.call 43 [(tD 17), (tD 18), (cD 16)]) (.ent (e43_2 fu))] [[], [], [0, 1]] false) .skip)) (.seq (.region [mvD 20 4, mvD 2 20] [[], [0, 0]] false) .ret)))))
set_option maxRecDepth 1000000 in
theorem v89_2 (fu : Nat) : evF fu (d89_2 fu) rs89 21 (e89_2 fu).ash (e89_2 fu).osh (e89_2 fu).vsh = p89_2 fu := by kernel_rfl
set_option maxRecDepth 1000000 in
theorem b89_2 (fu : Nat) : BodyD Tryd.prog 89 21 (d89_2 fu).erase rs89 := bodyD_mk Tryd.func89 (by kernel_rfl) (by kernel_rfl) (by kernel_rfl) (by kernel_rfl)
theorem g89_2 (fu : Nat) : (e89_2 fu).Good Tryd.prog := good_by orders (b89_2 fu) (l := [e48_2 fu, e43_2 fu]) (by kernel_rfl) ⟨g48_2 fu, g43_2 fu, trivial⟩ (by kernel_rfl) (v89_2 fu)
def rs44 : List RVx := [(.tmp 4)]
/-- gazette/codec.whole[int] -/
def p44_2 (_ : Nat) : ((List (Int)) × ((Int) × (((Bool) × (((Int) × ((Int) × (Unit))) × (Unit))) × (Unit)))) × ((Int) × (Unit)) → Option ((((List (Int)) × ((Int) × (((Bool) × (((Int) × ((Int) × (Unit))) × (Unit))) × (Unit)))) × ((Unit) × (Unit))) × (Int)) := fun ⟨⟨a, c, ⟨f, ⟨h, i, _⟩, _⟩, _⟩, j, _⟩ =>
bif f then
 bif eqL a then
 some (((a, c, (true, (h, i, ()), dflt .unit), ()), (), ()), (0 : Int))
 else none
else
 bif eqL a then
 some (((a, c, zR0, ()), (), ()), j)
 else none
def e44_2 (fu : Nat) : Ent := ⟨44, (.cons Y6 (.cons (.hole (.int .i64)) .nil)), (.cons Y5 (.cons .dead .nil)), (.hole (.int .i64)), p44_2 fu⟩
def d44_2 (_ : Nat) : DC := (.seq (.region [opD 4 (.mov (cD 0))] [[]] false) (.seq (.seq (.region [mvD 6 0, opD 7 (.pure .nilc [(tD 6)]), opD 8 (.faddr 2 (tD 7)), opD 9 (.load false 1 (tD 8)), opD 10 (.pure (.nilq 1 true) [(tD 9)])] [[], [0], [1], [2], [3]] false) (.cond (.tmp 10) (.seq (.region [opD 5 (.mov (cD 0))] [[]] false) (.seq (.region [mvD 11 5, mvD 4 11] [[], [0, 0]] false) .ret)) .skip)) (.seq (.region [mvD 12 1, mvD 4 12] [[], [0, 0]] false) .ret)))
set_option maxRecDepth 1000000 in
theorem v44_2 (fu : Nat) : evF fu (d44_2 fu) rs44 13 (e44_2 fu).ash (e44_2 fu).osh (e44_2 fu).vsh = p44_2 fu := by kernel_rfl
set_option maxRecDepth 1000000 in
theorem b44_2 (fu : Nat) : BodyD Tryd.prog 44 13 (d44_2 fu).erase rs44 := bodyD_mk Tryd.func44 (by kernel_rfl) (by kernel_rfl) (by kernel_rfl) (by kernel_rfl)
theorem g44_2 (fu : Nat) : (e44_2 fu).Good Tryd.prog := good_by orders (b44_2 fu) (l := []) (by kernel_rfl) trivial (by kernel_rfl) (v44_2 fu)
def rs45 : List RVx := [(.tmp 4)]
/-- (*gazette/codec.Reader).take -/
def p45_2 (fu : Nat) : ((List (Int)) × ((Int) × (((Bool) × (((Int) × ((Int) × (Unit))) × (Unit))) × (Unit)))) × ((Int) × (Unit)) → Option ((((List (Int)) × ((Int) × (((Bool) × (((Int) × ((Int) × (Unit))) × (Unit))) × (Unit)))) × ((Unit) × (Unit))) × (List (Int))) := fun ⟨⟨a, c, ⟨f, ⟨h, i, _⟩, _⟩, _⟩, j, _⟩ =>
bif f then
 bif eqL a then
 some (((a, c, (true, (h, i, ()), dflt .unit), ()), (), ()), [])
 else none
else
 bif decide (j > (IntKind.wrap .i64 (((List.length a) : Int) - c))) then
 bif eqL a then
 Option.bind (p41 fu ((a, c, (), ()), (11 : Int), ())) fun ⟨⟨⟨k, l, ⟨m, ⟨n, o, _⟩, _⟩, _⟩, _, _⟩, _⟩ =>
 bif m then
 bif eqL k then
 some (((k, l, (true, (n, o, ()), dflt .unit), ()), (), ()), [])
 else none
 else
 bif decide ((0 : Int) ≤ IntKind.wrap .i64 ((IntKind.wrap .i64 (l + j)) - j)) then
 bif decide ((0 : Int) ≤ IntKind.wrap .i64 (l + j)) then
 bif decide (Int.toNat (IntKind.wrap .i64 ((IntKind.wrap .i64 (l + j)) - j)) ≤ Int.toNat (IntKind.wrap .i64 (l + j)) ∧ 0 + (Int.toNat (IntKind.wrap .i64 (l + j))) ≤ List.length k) then
 bif decide ((Int.toNat (IntKind.wrap .i64 ((IntKind.wrap .i64 (l + j)) - j))) + ((Int.toNat (IntKind.wrap .i64 (l + j))) - (Int.toNat (IntKind.wrap .i64 ((IntKind.wrap .i64 (l + j)) - j)))) ≤ List.length k) then
 bif decide (List.length (sub' k (Int.toNat (IntKind.wrap .i64 ((IntKind.wrap .i64 (l + j)) - j))) ((Int.toNat (IntKind.wrap .i64 (l + j))) - (Int.toNat (IntKind.wrap .i64 ((IntKind.wrap .i64 (l + j)) - j))))) ≤ maxLen ∧ List.length (sub' k (Int.toNat (IntKind.wrap .i64 ((IntKind.wrap .i64 (l + j)) - j))) ((Int.toNat (IntKind.wrap .i64 (l + j))) - (Int.toNat (IntKind.wrap .i64 ((IntKind.wrap .i64 (l + j)) - j))))) * 1 ≤ 140737488355328) then
 bif eqL k then
 bif eqL (sub' k (Int.toNat (IntKind.wrap .i64 ((IntKind.wrap .i64 (l + j)) - j))) ((Int.toNat (IntKind.wrap .i64 (l + j))) - (Int.toNat (IntKind.wrap .i64 ((IntKind.wrap .i64 (l + j)) - j))))) then
 some (((k, IntKind.wrap .i64 (l + j), zR0, ()), (), ()), sub' k (Int.toNat (IntKind.wrap .i64 ((IntKind.wrap .i64 (l + j)) - j))) ((Int.toNat (IntKind.wrap .i64 (l + j))) - (Int.toNat (IntKind.wrap .i64 ((IntKind.wrap .i64 (l + j)) - j)))))
 else none
 else none
 else none
 else none
 else none
 else none
 else none
 else none
 else
 bif decide ((0 : Int) ≤ IntKind.wrap .i64 ((IntKind.wrap .i64 (c + j)) - j)) then
 bif decide ((0 : Int) ≤ IntKind.wrap .i64 (c + j)) then
 bif decide (Int.toNat (IntKind.wrap .i64 ((IntKind.wrap .i64 (c + j)) - j)) ≤ Int.toNat (IntKind.wrap .i64 (c + j)) ∧ 0 + (Int.toNat (IntKind.wrap .i64 (c + j))) ≤ List.length a) then
 bif decide ((Int.toNat (IntKind.wrap .i64 ((IntKind.wrap .i64 (c + j)) - j))) + ((Int.toNat (IntKind.wrap .i64 (c + j))) - (Int.toNat (IntKind.wrap .i64 ((IntKind.wrap .i64 (c + j)) - j)))) ≤ List.length a) then
 bif decide (List.length (sub' a (Int.toNat (IntKind.wrap .i64 ((IntKind.wrap .i64 (c + j)) - j))) ((Int.toNat (IntKind.wrap .i64 (c + j))) - (Int.toNat (IntKind.wrap .i64 ((IntKind.wrap .i64 (c + j)) - j))))) ≤ maxLen ∧ List.length (sub' a (Int.toNat (IntKind.wrap .i64 ((IntKind.wrap .i64 (c + j)) - j))) ((Int.toNat (IntKind.wrap .i64 (c + j))) - (Int.toNat (IntKind.wrap .i64 ((IntKind.wrap .i64 (c + j)) - j))))) * 1 ≤ 140737488355328) then
 bif eqL a then
 bif eqL (sub' a (Int.toNat (IntKind.wrap .i64 ((IntKind.wrap .i64 (c + j)) - j))) ((Int.toNat (IntKind.wrap .i64 (c + j))) - (Int.toNat (IntKind.wrap .i64 ((IntKind.wrap .i64 (c + j)) - j))))) then
 some (((a, IntKind.wrap .i64 (c + j), zR0, ()), (), ()), sub' a (Int.toNat (IntKind.wrap .i64 ((IntKind.wrap .i64 (c + j)) - j))) ((Int.toNat (IntKind.wrap .i64 (c + j))) - (Int.toNat (IntKind.wrap .i64 ((IntKind.wrap .i64 (c + j)) - j)))))
 else none
 else none
 else none
 else none
 else none
 else none
 else none
def e45_2 (fu : Nat) : Ent := ⟨45, (.cons Y6 (.cons (.hole (.int .i64)) .nil)), (.cons Y5 (.cons .dead .nil)), (.own .own 5 (.int .u8)), p45_2 fu⟩
def d45_2 (fu : Nat) : DC := (.seq (.region [opD 4 (.mov (.const vS))] [[]] false) (.seq (.seq (.region [mvD 5 0, opD 6 (.pure .nilc [(tD 5)]), opD 7 (.faddr 2 (tD 6)), opD 8 (.load false 1 (tD 7)), opD 9 (.pure (.nilq 1 false) [(tD 8)]), mvD 10 9, ogD 11 10 true (.mov (tD 1)), ogD 12 10 true (.mov (tD 0)), ogD 13 10 true (.pure .nilc [(tD 12)]), ogD 14 10 true (.faddr 0 (tD 13)), ogD 15 10 true (.load false 1 (tD 14)), ogD 16 10 true (.len false (tD 15)), ogD 17 10 true (.mov (tD 0)), ogD 18 10 true (.pure .nilc [(tD 17)]), ogD 19 10 true (.faddr 1 (tD 18)), ogD 20 10 true (.load false 1 (tD 19)), ogD 21 10 true (.bin .sub (tD 16) (tD 20)), ogD 22 10 true (.bin .gtr (tD 11) (tD 21)), opD 23 (.pick (tD 10) (tD 22) (.const vB))] [[], [0], [1], [2], [3], [4], [5], [5], [7, 5], [8, 5], [9, 5], [10, 5], [5], [12, 5], [13, 5], [14, 5], [11, 15, 5], [6, 16, 5], [5, 17]] true) (.cond (.tmp 23) (.region [mvD 24 0, oqD 25 (.call 41 [(tD 24), (cD 11)]) (.ent (e41 fu))] [[], [0]] false) .skip)) (.seq (.seq (.region [mvD 26 0, opD 27 (.pure .nilc [(tD 26)]), opD 28 (.faddr 2 (tD 27)), opD 29 (.load false 1 (tD 28)), opD 30 (.pure (.nilq 1 true) [(tD 29)])] [[], [0], [1], [2], [3]] false) (.cond (.tmp 30) (.seq (.region [opD 4 (.mov (.const vS))] [[]] false) .ret) .skip)) (.seq (.region [mvD 31 0, opD 32 (.pure .nilc [(tD 31)]), opD 33 (.faddr 1 (tD 32)), opD 34 (.load false 1 (tD 33)), mvD 35 1, opD 36 (.bin .add (tD 34) (tD 35)), opD 37 (.pure .nilc [(tD 31)]), opD 38 (.faddr 1 (tD 37)), onD (.store 1 (tD 38) (tD 36))] [[], [0], [1], [2], [], [3, 4], [0, 0, 1, 2, 3, 4, 5], [6, 0, 1, 2, 3, 4, 5], [7, 5, 0, 1, 2, 3, 4, 5]] false) (.seq (.region [mvD 39 0, opD 40 (.pure .nilc [(tD 39)]), opD 41 (.faddr 0 (tD 40)), opD 42 (.load false 1 (tD 41)), mvD 43 0, opD 44 (.pure .nilc [(tD 43)]), opD 45 (.faddr 1 (tD 44)), opD 46 (.load false 1 (tD 45)), mvD 47 1, opD 48 (.bin .sub (tD 46) (tD 47)), mvD 49 0, opD 50 (.pure .nilc [(tD 49)]), opD 51 (.faddr 1 (tD 50)), opD 52 (.load false 1 (tD 51)), opD 53 (.slc 1 (tD 42) (some (tD 48)) (some (tD 52))), oqD 54 (.app 5 1 [(.int .u8 0)] 1 (.const vS) (tD 53)) (.ty (.int .u8)), mvD 4 54] [[], [0], [1], [2], [], [4], [5], [6], [], [7, 8], [], [10], [11], [12], [3, 9, 13], [14], [15, 15, 0, 1, 2, 3, 4, 5, 6, 7, 8, 9, 10, 11, 12, 13, 14, 15]] true) .ret)))))
set_option maxRecDepth 1000000 in
theorem v45_2 (fu : Nat) : evF fu (d45_2 fu) rs45 55 (e45_2 fu).ash (e45_2 fu).osh (e45_2 fu).vsh = p45_2 fu := by kernel_rfl
set_option maxRecDepth 1000000 in
theorem b45_2 (fu : Nat) : BodyD Tryd.prog 45 55 (d45_2 fu).erase rs45 := bodyD_mk Tryd.func45 (by kernel_rfl) (by kernel_rfl) (by kernel_rfl) (by kernel_rfl)
theorem g45_2 (fu : Nat) : (e45_2 fu).Good Tryd.prog := good_by orders (b45_2 fu) (l := [e41 fu]) (by kernel_rfl) ⟨g41 fu, trivial⟩ (by kernel_rfl) (v45_2 fu)
def rs17 : List RVx := [(.tmp 4)]
/-- (*gazette/codec.Reader).Count -/
def p17_2 (fu : Nat) : ((List (Int)) × ((Int) × (((Bool) × (((Int) × ((Int) × (Unit))) × (Unit))) × (Unit)))) × ((Int) × (Unit)) → Option ((((List (Int)) × ((Int) × (((Bool) × (((Int) × ((Int) × (Unit))) × (Unit))) × (Unit)))) × ((Unit) × (Unit))) × (Int)) := fun ⟨⟨a, c, ⟨f, ⟨h, i, _⟩, _⟩, _⟩, j, _⟩ =>
bif f then
 bif eqL a then
 Option.bind (p15_2 fu ((a, c, (true, (h, i, ()), dflt .unit), ()), ())) fun ⟨⟨⟨k, l, ⟨m, ⟨n, o, _⟩, _⟩, _⟩, _, _⟩, q⟩ =>
 bif m then
 orK (E := (Unit) × (((List (Int)) × ((Int) × (((Bool) × (((Int) × ((Int) × (Unit))) × (Unit))) × (Unit)))) × (Unit)))
 (orK (E := ((Bool) × (Unit)) × (Unit))
 (bif decide (j < (0 : Int)) then
 some (.inl ((true, ()), ()))
 else
 some (.inl ((decide (q > (IntKind.wrap .u64 j)), ()), ())))
 fun ⟨⟨s, _⟩, _⟩ =>
 bif s then
 bif eqL k then
 Option.bind (p43_2 fu ((k, l, (true, (n, o, ()), dflt .unit), ()), c, (13 : Int), ())) fun ⟨⟨⟨t, u, ⟨w, ⟨x, y, _⟩, _⟩, _⟩, _, _⟩, _⟩ =>
 bif w then
 bif eqL t then
 some (.inl ((), ((t, u, (true, (x, y, ()), dflt .unit), ()), ())))
 else none
 else
 bif eqL t then
 some (.inl ((), ((t, u, zR0, ()), ())))
 else none
 else none
 else
 bif eqL k then
 some (.inl ((), ((k, l, (true, (n, o, ()), dflt .unit), ()), ())))
 else none)
 fun ⟨_, ⟨⟨z, a0, ⟨c0, ⟨f0, h0, _⟩, _⟩, _⟩, _⟩⟩ =>
 bif c0 then
 orK (E := (Unit) × (((List (Int)) × ((Int) × (((Bool) × (((Int) × ((Int) × (Unit))) × (Unit))) × (Unit)))) × (Unit)))
 (bif decide (q > (IntKind.wrap .u64 (IntKind.wrap .i64 (((List.length z) : Int) - a0)))) then
 bif eqL z then
 Option.bind (p43_2 fu ((z, a0, (true, (f0, h0, ()), dflt .unit), ()), c, (11 : Int), ())) fun ⟨⟨⟨i0, j0, ⟨k0, ⟨l0, m0, _⟩, _⟩, _⟩, _, _⟩, _⟩ =>
 bif k0 then
 bif eqL i0 then
 some (.inl ((), ((i0, j0, (true, (l0, m0, ()), dflt .unit), ()), ())))
 else none
 else
 bif eqL i0 then
 some (.inl ((), ((i0, j0, zR0, ()), ())))
 else none
 else none
 else
 bif eqL z then
 some (.inl ((), ((z, a0, (true, (f0, h0, ()), dflt .unit), ()), ())))
 else none)
 fun ⟨_, ⟨⟨z, a0, ⟨c0, ⟨f0, h0, _⟩, _⟩, _⟩, _⟩⟩ =>
 bif c0 then
 bif eqL z then
 Option.bind (p44_2 fu ((z, a0, (true, (f0, h0, ()), dflt .unit), ()), IntKind.wrap .i64 q, ())) fun ⟨⟨⟨n0, o0, ⟨q0, ⟨s0, t0, _⟩, _⟩, _⟩, _, _⟩, u0⟩ =>
 bif q0 then
 bif eqL n0 then
 some (((n0, o0, (true, (s0, t0, ()), dflt .unit), ()), (), ()), u0)
 else none
 else
 bif eqL n0 then
 some (((n0, o0, zR0, ()), (), ()), u0)
 else none
 else none
 else
 bif eqL z then
 Option.bind (p44_2 fu ((z, a0, zR0, ()), IntKind.wrap .i64 q, ())) fun ⟨⟨⟨w0, x0, ⟨y0, ⟨z0, a1, _⟩, _⟩, _⟩, _, _⟩, c1⟩ =>
 bif y0 then
 bif eqL w0 then
 some (((w0, x0, (true, (z0, a1, ()), dflt .unit), ()), (), ()), c1)
 else none
 else
 bif eqL w0 then
 some (((w0, x0, zR0, ()), (), ()), c1)
 else none
 else none
 else
 orK (E := (Unit) × (((List (Int)) × ((Int) × (((Bool) × (((Int) × ((Int) × (Unit))) × (Unit))) × (Unit)))) × (Unit)))
 (bif decide (q > (IntKind.wrap .u64 (IntKind.wrap .i64 (((List.length z) : Int) - a0)))) then
 bif eqL z then
 Option.bind (p43_2 fu ((z, a0, zR0, ()), c, (11 : Int), ())) fun ⟨⟨⟨f1, h1, ⟨i1, ⟨j1, k1, _⟩, _⟩, _⟩, _, _⟩, _⟩ =>
 bif i1 then
 bif eqL f1 then
 some (.inl ((), ((f1, h1, (true, (j1, k1, ()), dflt .unit), ()), ())))
 else none
 else
 bif eqL f1 then
 some (.inl ((), ((f1, h1, zR0, ()), ())))
 else none
 else none
 else
 bif eqL z then
 some (.inl ((), ((z, a0, zR0, ()), ())))
 else none)
 fun ⟨_, ⟨⟨z, a0, ⟨c0, ⟨f0, h0, _⟩, _⟩, _⟩, _⟩⟩ =>
 bif c0 then
 bif eqL z then
 Option.bind (p44_2 fu ((z, a0, (true, (f0, h0, ()), dflt .unit), ()), IntKind.wrap .i64 q, ())) fun ⟨⟨⟨l1, m1, ⟨n1, ⟨o1, q1, _⟩, _⟩, _⟩, _, _⟩, s1⟩ =>
 bif n1 then
 bif eqL l1 then
 some (((l1, m1, (true, (o1, q1, ()), dflt .unit), ()), (), ()), s1)
 else none
 else
 bif eqL l1 then
 some (((l1, m1, zR0, ()), (), ()), s1)
 else none
 else none
 else
 bif eqL z then
 Option.bind (p44_2 fu ((z, a0, zR0, ()), IntKind.wrap .i64 q, ())) fun ⟨⟨⟨t1, u1, ⟨w1, ⟨x1, y1, _⟩, _⟩, _⟩, _, _⟩, z1⟩ =>
 bif w1 then
 bif eqL t1 then
 some (((t1, u1, (true, (x1, y1, ()), dflt .unit), ()), (), ()), z1)
 else none
 else
 bif eqL t1 then
 some (((t1, u1, zR0, ()), (), ()), z1)
 else none
 else none
 else
 orK (E := (Unit) × (((List (Int)) × ((Int) × (((Bool) × (((Int) × ((Int) × (Unit))) × (Unit))) × (Unit)))) × (Unit)))
 (orK (E := ((Bool) × (Unit)) × (Unit))
 (bif decide (j < (0 : Int)) then
 some (.inl ((true, ()), ()))
 else
 some (.inl ((decide (q > (IntKind.wrap .u64 j)), ()), ())))
 fun ⟨⟨s, _⟩, _⟩ =>
 bif s then
 bif eqL k then
 Option.bind (p43_2 fu ((k, l, zR0, ()), c, (13 : Int), ())) fun ⟨⟨⟨a2, c2, ⟨f2, ⟨h2, i2, _⟩, _⟩, _⟩, _, _⟩, _⟩ =>
 bif f2 then
 bif eqL a2 then
 some (.inl ((), ((a2, c2, (true, (h2, i2, ()), dflt .unit), ()), ())))
 else none
 else
 bif eqL a2 then
 some (.inl ((), ((a2, c2, zR0, ()), ())))
 else none
 else none
 else
 bif eqL k then
 some (.inl ((), ((k, l, zR0, ()), ())))
 else none)
 fun ⟨_, ⟨⟨z, a0, ⟨c0, ⟨f0, h0, _⟩, _⟩, _⟩, _⟩⟩ =>
 bif c0 then
 orK (E := (Unit) × (((List (Int)) × ((Int) × (((Bool) × (((Int) × ((Int) × (Unit))) × (Unit))) × (Unit)))) × (Unit)))
 (bif decide (q > (IntKind.wrap .u64 (IntKind.wrap .i64 (((List.length z) : Int) - a0)))) then
 bif eqL z then
 Option.bind (p43_2 fu ((z, a0, (true, (f0, h0, ()), dflt .unit), ()), c, (11 : Int), ())) fun ⟨⟨⟨j2, k2, ⟨l2, ⟨m2, n2, _⟩, _⟩, _⟩, _, _⟩, _⟩ =>
 bif l2 then
 bif eqL j2 then
 some (.inl ((), ((j2, k2, (true, (m2, n2, ()), dflt .unit), ()), ())))
 else none
 else
 bif eqL j2 then
 some (.inl ((), ((j2, k2, zR0, ()), ())))
 else none
 else none
 else
 bif eqL z then
 some (.inl ((), ((z, a0, (true, (f0, h0, ()), dflt .unit), ()), ())))
 else none)
 fun ⟨_, ⟨⟨z, a0, ⟨c0, ⟨f0, h0, _⟩, _⟩, _⟩, _⟩⟩ =>
 bif c0 then
 bif eqL z then
 Option.bind (p44_2 fu ((z, a0, (true, (f0, h0, ()), dflt .unit), ()), IntKind.wrap .i64 q, ())) fun ⟨⟨⟨o2, q2, ⟨s2, ⟨t2, u2, _⟩, _⟩, _⟩, _, _⟩, w2⟩ =>
 bif s2 then
 bif eqL o2 then
 some (((o2, q2, (true, (t2, u2, ()), dflt .unit), ()), (), ()), w2)
 else none
 else
 bif eqL o2 then
 some (((o2, q2, zR0, ()), (), ()), w2)
 else none
 else none
 else
 bif eqL z then
 Option.bind (p44_2 fu ((z, a0, zR0, ()), IntKind.wrap .i64 q, ())) fun ⟨⟨⟨x2, y2, ⟨z2, ⟨a3, c3, _⟩, _⟩, _⟩, _, _⟩, f3⟩ =>
 bif z2 then
 bif eqL x2 then
 some (((x2, y2, (true, (a3, c3, ()), dflt .unit), ()), (), ()), f3)
 else none
 else
 bif eqL x2 then
 some (((x2, y2, zR0, ()), (), ()), f3)
 else none
 else none
 else
 orK (E := (Unit) × (((List (Int)) × ((Int) × (((Bool) × (((Int) × ((Int) × (Unit))) × (Unit))) × (Unit)))) × (Unit)))
 (bif decide (q > (IntKind.wrap .u64 (IntKind.wrap .i64 (((List.length z) : Int) - a0)))) then
 bif eqL z then
 Option.bind (p43_2 fu ((z, a0, zR0, ()), c, (11 : Int), ())) fun ⟨⟨⟨h3, i3, ⟨j3, ⟨k3, l3, _⟩, _⟩, _⟩, _, _⟩, _⟩ =>
 bif j3 then
 bif eqL h3 then
 some (.inl ((), ((h3, i3, (true, (k3, l3, ()), dflt .unit), ()), ())))
 else none
 else
 bif eqL h3 then
 some (.inl ((), ((h3, i3, zR0, ()), ())))
 else none
 else none
 else
 bif eqL z then
 some (.inl ((), ((z, a0, zR0, ()), ())))
 else none)
 fun ⟨_, ⟨⟨z, a0, ⟨c0, ⟨f0, h0, _⟩, _⟩, _⟩, _⟩⟩ =>
 bif c0 then
 bif eqL z then
 Option.bind (p44_2 fu ((z, a0, (true, (f0, h0, ()), dflt .unit), ()), IntKind.wrap .i64 q, ())) fun ⟨⟨⟨m3, n3, ⟨o3, ⟨q3, s3, _⟩, _⟩, _⟩, _, _⟩, t3⟩ =>
 bif o3 then
 bif eqL m3 then
 some (((m3, n3, (true, (q3, s3, ()), dflt .unit), ()), (), ()), t3)
 else none
 else
 bif eqL m3 then
 some (((m3, n3, zR0, ()), (), ()), t3)
 else none
 else none
 else
 bif eqL z then
 Option.bind (p44_2 fu ((z, a0, zR0, ()), IntKind.wrap .i64 q, ())) fun ⟨⟨⟨u3, w3, ⟨x3, ⟨y3, z3, _⟩, _⟩, _⟩, _, _⟩, a4⟩ =>
 bif x3 then
 bif eqL u3 then
 some (((u3, w3, (true, (y3, z3, ()), dflt .unit), ()), (), ()), a4)
 else none
 else
 bif eqL u3 then
 some (((u3, w3, zR0, ()), (), ()), a4)
 else none
 else none
 else none
else
 bif eqL a then
 Option.bind (p15_2 fu ((a, c, zR0, ()), ())) fun ⟨⟨⟨c4, f4, ⟨h4, ⟨i4, j4, _⟩, _⟩, _⟩, _, _⟩, k4⟩ =>
 bif h4 then
 orK (E := (Unit) × (((List (Int)) × ((Int) × (((Bool) × (((Int) × ((Int) × (Unit))) × (Unit))) × (Unit)))) × (Unit)))
 (orK (E := ((Bool) × (Unit)) × (Unit))
 (bif decide (j < (0 : Int)) then
 some (.inl ((true, ()), ()))
 else
 some (.inl ((decide (k4 > (IntKind.wrap .u64 j)), ()), ())))
 fun ⟨⟨s, _⟩, _⟩ =>
 bif s then
 bif eqL c4 then
 Option.bind (p43_2 fu ((c4, f4, (true, (i4, j4, ()), dflt .unit), ()), c, (13 : Int), ())) fun ⟨⟨⟨l4, m4, ⟨n4, ⟨o4, q4, _⟩, _⟩, _⟩, _, _⟩, _⟩ =>
 bif n4 then
 bif eqL l4 then
 some (.inl ((), ((l4, m4, (true, (o4, q4, ()), dflt .unit), ()), ())))
 else none
 else
 bif eqL l4 then
 some (.inl ((), ((l4, m4, zR0, ()), ())))
 else none
 else none
 else
 bif eqL c4 then
 some (.inl ((), ((c4, f4, (true, (i4, j4, ()), dflt .unit), ()), ())))
 else none)
 fun ⟨_, ⟨⟨z, a0, ⟨c0, ⟨f0, h0, _⟩, _⟩, _⟩, _⟩⟩ =>
 bif c0 then
 orK (E := (Unit) × (((List (Int)) × ((Int) × (((Bool) × (((Int) × ((Int) × (Unit))) × (Unit))) × (Unit)))) × (Unit)))
 (bif decide (k4 > (IntKind.wrap .u64 (IntKind.wrap .i64 (((List.length z) : Int) - a0)))) then
 bif eqL z then
 Option.bind (p43_2 fu ((z, a0, (true, (f0, h0, ()), dflt .unit), ()), c, (11 : Int), ())) fun ⟨⟨⟨s4, t4, ⟨u4, ⟨w4, x4, _⟩, _⟩, _⟩, _, _⟩, _⟩ =>
 bif u4 then
 bif eqL s4 then
 some (.inl ((), ((s4, t4, (true, (w4, x4, ()), dflt .unit), ()), ())))
 else none
 else
 bif eqL s4 then
 some (.inl ((), ((s4, t4, zR0, ()), ())))
 else none
 else none
 else
 bif eqL z then
 some (.inl ((), ((z, a0, (true, (f0, h0, ()), dflt .unit), ()), ())))
 else none)
 fun ⟨_, ⟨⟨z, a0, ⟨c0, ⟨f0, h0, _⟩, _⟩, _⟩, _⟩⟩ =>
 bif c0 then
 bif eqL z then
 Option.bind (p44_2 fu ((z, a0, (true, (f0, h0, ()), dflt .unit), ()), IntKind.wrap .i64 k4, ())) fun ⟨⟨⟨y4, z4, ⟨a5, ⟨c5, f5, _⟩, _⟩, _⟩, _, _⟩, h5⟩ =>
 bif a5 then
 bif eqL y4 then
 some (((y4, z4, (true, (c5, f5, ()), dflt .unit), ()), (), ()), h5)
 else none
 else
 bif eqL y4 then
 some (((y4, z4, zR0, ()), (), ()), h5)
 else none
 else none
 else
 bif eqL z then
 Option.bind (p44_2 fu ((z, a0, zR0, ()), IntKind.wrap .i64 k4, ())) fun ⟨⟨⟨i5, j5, ⟨k5, ⟨l5, m5, _⟩, _⟩, _⟩, _, _⟩, n5⟩ =>
 bif k5 then
 bif eqL i5 then
 some (((i5, j5, (true, (l5, m5, ()), dflt .unit), ()), (), ()), n5)
 else none
 else
 bif eqL i5 then
 some (((i5, j5, zR0, ()), (), ()), n5)
 else none
 else none
 else
 orK (E := (Unit) × (((List (Int)) × ((Int) × (((Bool) × (((Int) × ((Int) × (Unit))) × (Unit))) × (Unit)))) × (Unit)))
 (bif decide (k4 > (IntKind.wrap .u64 (IntKind.wrap .i64 (((List.length z) : Int) - a0)))) then
 bif eqL z then
 Option.bind (p43_2 fu ((z, a0, zR0, ()), c, (11 : Int), ())) fun ⟨⟨⟨o5, q5, ⟨s5, ⟨t5, u5, _⟩, _⟩, _⟩, _, _⟩, _⟩ =>
 bif s5 then
 bif eqL o5 then
 some (.inl ((), ((o5, q5, (true, (t5, u5, ()), dflt .unit), ()), ())))
 else none
 else
 bif eqL o5 then
 some (.inl ((), ((o5, q5, zR0, ()), ())))
 else none
 else none
 else
 bif eqL z then
 some (.inl ((), ((z, a0, zR0, ()), ())))
 else none)
 fun ⟨_, ⟨⟨z, a0, ⟨c0, ⟨f0, h0, _⟩, _⟩, _⟩, _⟩⟩ =>
 bif c0 then
 bif eqL z then
 Option.bind (p44_2 fu ((z, a0, (true, (f0, h0, ()), dflt .unit), ()), IntKind.wrap .i64 k4, ())) fun ⟨⟨⟨w5, x5, ⟨y5, ⟨z5, a6, _⟩, _⟩, _⟩, _, _⟩, c6⟩ =>
 bif y5 then
 bif eqL w5 then
 some (((w5, x5, (true, (z5, a6, ()), dflt .unit), ()), (), ()), c6)
 else none
 else
 bif eqL w5 then
 some (((w5, x5, zR0, ()), (), ()), c6)
 else none
 else none
 else
 bif eqL z then
 Option.bind (p44_2 fu ((z, a0, zR0, ()), IntKind.wrap .i64 k4, ())) fun ⟨⟨⟨f6, h6, ⟨i6, ⟨j6, k6, _⟩, _⟩, _⟩, _, _⟩, l6⟩ =>
 bif i6 then
 bif eqL f6 then
 some (((f6, h6, (true, (j6, k6, ()), dflt .unit), ()), (), ()), l6)
 else none
 else
 bif eqL f6 then
 some (((f6, h6, zR0, ()), (), ()), l6)
 else none
 else none
 else
 orK (E := (Unit) × (((List (Int)) × ((Int) × (((Bool) × (((Int) × ((Int) × (Unit))) × (Unit))) × (Unit)))) × (Unit)))
 (orK (E := ((Bool) × (Unit)) × (Unit))
 (bif decide (j < (0 : Int)) then
 some (.inl ((true, ()), ()))
 else
 some (.inl ((decide (k4 > (IntKind.wrap .u64 j)), ()), ())))
 fun ⟨⟨s, _⟩, _⟩ =>
 bif s then
 bif eqL c4 then
 Option.bind (p43_2 fu ((c4, f4, zR0, ()), c, (13 : Int), ())) fun ⟨⟨⟨m6, n6, ⟨o6, ⟨q6, s6, _⟩, _⟩, _⟩, _, _⟩, _⟩ =>
 bif o6 then
 bif eqL m6 then
 some (.inl ((), ((m6, n6, (true, (q6, s6, ()), dflt .unit), ()), ())))
 else none
 else
 bif eqL m6 then
 some (.inl ((), ((m6, n6, zR0, ()), ())))
 else none
 else none
 else
 bif eqL c4 then
 some (.inl ((), ((c4, f4, zR0, ()), ())))
 else none)
 fun ⟨_, ⟨⟨z, a0, ⟨c0, ⟨f0, h0, _⟩, _⟩, _⟩, _⟩⟩ =>
 bif c0 then
 orK (E := (Unit) × (((List (Int)) × ((Int) × (((Bool) × (((Int) × ((Int) × (Unit))) × (Unit))) × (Unit)))) × (Unit)))
 (bif decide (k4 > (IntKind.wrap .u64 (IntKind.wrap .i64 (((List.length z) : Int) - a0)))) then
 bif eqL z then
 Option.bind (p43_2 fu ((z, a0, (true, (f0, h0, ()), dflt .unit), ()), c, (11 : Int), ())) fun ⟨⟨⟨t6, u6, ⟨w6, ⟨x6, y6, _⟩, _⟩, _⟩, _, _⟩, _⟩ =>
 bif w6 then
 bif eqL t6 then
 some (.inl ((), ((t6, u6, (true, (x6, y6, ()), dflt .unit), ()), ())))
 else none
 else
 bif eqL t6 then
 some (.inl ((), ((t6, u6, zR0, ()), ())))
 else none
 else none
 else
 bif eqL z then
 some (.inl ((), ((z, a0, (true, (f0, h0, ()), dflt .unit), ()), ())))
 else none)
 fun ⟨_, ⟨⟨z, a0, ⟨c0, ⟨f0, h0, _⟩, _⟩, _⟩, _⟩⟩ =>
 bif c0 then
 bif eqL z then
 Option.bind (p44_2 fu ((z, a0, (true, (f0, h0, ()), dflt .unit), ()), IntKind.wrap .i64 k4, ())) fun ⟨⟨⟨z6, a7, ⟨c7, ⟨f7, h7, _⟩, _⟩, _⟩, _, _⟩, i7⟩ =>
 bif c7 then
 bif eqL z6 then
 some (((z6, a7, (true, (f7, h7, ()), dflt .unit), ()), (), ()), i7)
 else none
 else
 bif eqL z6 then
 some (((z6, a7, zR0, ()), (), ()), i7)
 else none
 else none
 else
 bif eqL z then
 Option.bind (p44_2 fu ((z, a0, zR0, ()), IntKind.wrap .i64 k4, ())) fun ⟨⟨⟨j7, k7, ⟨l7, ⟨m7, n7, _⟩, _⟩, _⟩, _, _⟩, o7⟩ =>
 bif l7 then
 bif eqL j7 then
 some (((j7, k7, (true, (m7, n7, ()), dflt .unit), ()), (), ()), o7)
 else none
 else
 bif eqL j7 then
 some (((j7, k7, zR0, ()), (), ()), o7)
 else none
 else none
 else
 orK (E := (Unit) × (((List (Int)) × ((Int) × (((Bool) × (((Int) × ((Int) × (Unit))) × (Unit))) × (Unit)))) × (Unit)))
 (bif decide (k4 > (IntKind.wrap .u64 (IntKind.wrap .i64 (((List.length z) : Int) - a0)))) then
 bif eqL z then
 Option.bind (p43_2 fu ((z, a0, zR0, ()), c, (11 : Int), ())) fun ⟨⟨⟨q7, s7, ⟨t7, ⟨u7, w7, _⟩, _⟩, _⟩, _, _⟩, _⟩ =>
 bif t7 then
 bif eqL q7 then
 some (.inl ((), ((q7, s7, (true, (u7, w7, ()), dflt .unit), ()), ())))
 else none
 else
 bif eqL q7 then
 some (.inl ((), ((q7, s7, zR0, ()), ())))
 else none
 else none
 else
 bif eqL z then
 some (.inl ((), ((z, a0, zR0, ()), ())))
 else none)
 fun ⟨_, ⟨⟨z, a0, ⟨c0, ⟨f0, h0, _⟩, _⟩, _⟩, _⟩⟩ =>
 bif c0 then
 bif eqL z then
 Option.bind (p44_2 fu ((z, a0, (true, (f0, h0, ()), dflt .unit), ()), IntKind.wrap .i64 k4, ())) fun ⟨⟨⟨x7, y7, ⟨z7, ⟨a8, c8, _⟩, _⟩, _⟩, _, _⟩, f8⟩ =>
 bif z7 then
 bif eqL x7 then
 some (((x7, y7, (true, (a8, c8, ()), dflt .unit), ()), (), ()), f8)
 else none
 else
 bif eqL x7 then
 some (((x7, y7, zR0, ()), (), ()), f8)
 else none
 else none
 else
 bif eqL z then
 Option.bind (p44_2 fu ((z, a0, zR0, ()), IntKind.wrap .i64 k4, ())) fun ⟨⟨⟨h8, i8, ⟨j8, ⟨k8, l8, _⟩, _⟩, _⟩, _, _⟩, m8⟩ =>
 bif j8 then
 bif eqL h8 then
 some (((h8, i8, (true, (k8, l8, ()), dflt .unit), ()), (), ()), m8)
 else none
 else
 bif eqL h8 then
 some (((h8, i8, zR0, ()), (), ()), m8)
 else none
 else none
 else none
def e17_2 (fu : Nat) : Ent := ⟨17, (.cons Y6 (.cons (.hole (.int .i64)) .nil)), (.cons Y5 (.cons .dead .nil)), (.hole (.int .i64)), p17_2 fu⟩
def d17_2 (fu : Nat) : DC := (.seq (.region [opD 4 (.mov (cD 0))] [[]] false) (.seq (.region [mvD 7 0, opD 8 (.pure .nilc [(tD 7)]), opD 9 (.faddr 1 (tD 8)), opD 10 (.load false 1 (tD 9)), mvD 5 10] [[], [0], [1], [2], [3, 0, 1, 2, 3]] false) (.seq (.region [mvD 11 0, oqD 12 (.call 15 [(tD 11)]) (.ent (e15_2 fu)), mvD 6 12] [[], [0], [1, 1, 0, 1]] false) (.join ⟨[], .nil, [(0, 95, 3)], (.cons Y5 .nil), [0, 5, 6], [1]⟩
 (.join ⟨[20], (.cons (.hole .bool) .nil), [], .nil, [0, 5, 6], [0, 1, 116]⟩
 (.region [mvD 13 1, opD 14 (.bin .lss (tD 13) (cD 0)), mvD 15 14, ogD 16 15 false (.mov (tD 6)), ogD 17 15 false (.mov (tD 1)), ogD 18 15 false (.conv .u64 (tD 17)), ogD 19 15 false (.bin .gtr (tD 16) (tD 18)), opD 20 (.pick (tD 15) (.const (.bool true)) (tD 19))] [[], [0], [1], [2], [2], [4, 2], [3, 5, 2], [2, 6]] false)
 (.cond (.tmp 20) (.region [mvD 21 0, mvD 22 5, oqD 23 (.call 43 [(tD 21), (tD 22), (cD 13)]) (.ent (e43_2 fu))] [[], [], [0, 1]] false) .skip))
 (.join ⟨[], .nil, [(0, 95, 3)], (.cons Y5 .nil), [0, 6], [1]⟩
 (.seq (.region [mvD 24 6, mvD 25 0, opD 26 (.pure .nilc [(tD 25)]), opD 27 (.faddr 0 (tD 26)), opD 28 (.load false 1 (tD 27)), opD 29 (.len false (tD 28)), mvD 30 0, opD 31 (.pure .nilc [(tD 30)]), opD 32 (.faddr 1 (tD 31)), opD 33 (.load false 1 (tD 32)), opD 34 (.bin .sub (tD 29) (tD 33)), opD 35 (.conv .u64 (tD 34)), opD 36 (.bin .gtr (tD 24) (tD 35))] [[], [], [1], [2], [3], [4], [], [6], [7], [8], [5, 9], [10], [0, 11]] true) (.cond (.tmp 36) (.region [mvD 37 0, mvD 38 5, oqD 39 (.call 43 [(tD 37), (tD 38), (cD 11)]) (.ent (e43_2 fu))] [[], [], [0, 1]] false) .skip))
 (.seq (.region [mvD 40 0, mvD 41 6, opD 42 (.conv .i64 (tD 41)), oqD 43 (.call 44 [(tD 40), (tD 42)]) (.ent (e44_2 fu)), mvD 4 43] [[], [], [1], [0, 2], [3, 3, 0, 1, 2, 3]] false) .ret))))))
set_option maxRecDepth 1000000 in
theorem v17_2 (fu : Nat) : evF fu (d17_2 fu) rs17 44 (e17_2 fu).ash (e17_2 fu).osh (e17_2 fu).vsh = p17_2 fu := by kernel_rfl
set_option maxRecDepth 1000000 in
theorem b17_2 (fu : Nat) : BodyD Tryd.prog 17 44 (d17_2 fu).erase rs17 := bodyD_mk Tryd.func17 (by kernel_rfl) (by kernel_rfl) (by kernel_rfl) (by kernel_rfl)
theorem g17_2 (fu : Nat) : (e17_2 fu).Good Tryd.prog := good_by orders (b17_2 fu) (l := [e15_2 fu, e43_2 fu, e43_2 fu, e44_2 fu]) (by kernel_rfl) ⟨g15_2 fu, g43_2 fu, g43_2 fu, g44_2 fu, trivial⟩ (by kernel_rfl) (v17_2 fu)
def rs67 : List RVx := [(.tmp 4)]
/-- (*gazette/codec.Reader).Bytes -/
def p67_2 (fu : Nat) : ((List (Int)) × ((Int) × (((Bool) × (((Int) × ((Int) × (Unit))) × (Unit))) × (Unit)))) × ((Int) × (Unit)) → Option ((((List (Int)) × ((Int) × (((Bool) × (((Int) × ((Int) × (Unit))) × (Unit))) × (Unit)))) × ((Unit) × (Unit))) × (List (Int))) := fun ⟨⟨a, c, ⟨f, ⟨h, i, _⟩, _⟩, _⟩, j, _⟩ =>
bif f then
 bif eqL a then
 Option.bind (p17_2 fu ((a, c, (true, (h, i, ()), dflt .unit), ()), j, ())) fun ⟨⟨⟨k, l, ⟨m, ⟨n, o, _⟩, _⟩, _⟩, _, _⟩, q⟩ =>
 bif m then
 bif eqL k then
 Option.bind (p45_2 fu ((k, l, (true, (n, o, ()), dflt .unit), ()), q, ())) fun ⟨⟨⟨s, t, ⟨u, ⟨w, x, _⟩, _⟩, _⟩, _, _⟩, y⟩ =>
 bif u then
 bif eqL s then
 bif eqL y then
 some (((s, t, (true, (w, x, ()), dflt .unit), ()), (), ()), y)
 else none
 else none
 else
 bif eqL s then
 bif eqL y then
 some (((s, t, zR0, ()), (), ()), y)
 else none
 else none
 else none
 else
 bif eqL k then
 Option.bind (p45_2 fu ((k, l, zR0, ()), q, ())) fun ⟨⟨⟨z, a0, ⟨c0, ⟨f0, h0, _⟩, _⟩, _⟩, _, _⟩, i0⟩ =>
 bif c0 then
 bif eqL z then
 bif eqL i0 then
 some (((z, a0, (true, (f0, h0, ()), dflt .unit), ()), (), ()), i0)
 else none
 else none
 else
 bif eqL z then
 bif eqL i0 then
 some (((z, a0, zR0, ()), (), ()), i0)
 else none
 else none
 else none
 else none
else
 bif eqL a then
 Option.bind (p17_2 fu ((a, c, zR0, ()), j, ())) fun ⟨⟨⟨j0, k0, ⟨l0, ⟨m0, n0, _⟩, _⟩, _⟩, _, _⟩, o0⟩ =>
 bif l0 then
 bif eqL j0 then
 Option.bind (p45_2 fu ((j0, k0, (true, (m0, n0, ()), dflt .unit), ()), o0, ())) fun ⟨⟨⟨q0, s0, ⟨t0, ⟨u0, w0, _⟩, _⟩, _⟩, _, _⟩, x0⟩ =>
 bif t0 then
 bif eqL q0 then
 bif eqL x0 then
 some (((q0, s0, (true, (u0, w0, ()), dflt .unit), ()), (), ()), x0)
 else none
 else none
 else
 bif eqL q0 then
 bif eqL x0 then
 some (((q0, s0, zR0, ()), (), ()), x0)
 else none
 else none
 else none
 else
 bif eqL j0 then
 Option.bind (p45_2 fu ((j0, k0, zR0, ()), o0, ())) fun ⟨⟨⟨y0, z0, ⟨a1, ⟨c1, f1, _⟩, _⟩, _⟩, _, _⟩, h1⟩ =>
 bif a1 then
 bif eqL y0 then
 bif eqL h1 then
 some (((y0, z0, (true, (c1, f1, ()), dflt .unit), ()), (), ()), h1)
 else none
 else none
 else
 bif eqL y0 then
 bif eqL h1 then
 some (((y0, z0, zR0, ()), (), ()), h1)
 else none
 else none
 else none
 else none
def e67_2 (fu : Nat) : Ent := ⟨67, (.cons Y6 (.cons (.hole (.int .i64)) .nil)), (.cons Y5 (.cons .dead .nil)), (.own .own 5 (.int .u8)), p67_2 fu⟩
def d67_2 (fu : Nat) : DC := (.seq (.region [opD 4 (.mov (.const vS))] [[]] false) (.seq (.region [mvD 5 0, mvD 6 0, mvD 7 1, oqD 8 (.call 17 [(tD 6), (tD 7)]) (.ent (e17_2 fu)), oqD 9 (.call 45 [(tD 5), (tD 8)]) (.ent (e45_2 fu)), mvD 4 9] [[], [], [], [1, 2], [0, 3, 3], [4, 4, 0, 1, 2, 3, 4]] false) .ret))
set_option maxRecDepth 1000000 in
theorem v67_2 (fu : Nat) : evF fu (d67_2 fu) rs67 10 (e67_2 fu).ash (e67_2 fu).osh (e67_2 fu).vsh = p67_2 fu := by kernel_rfl
set_option maxRecDepth 1000000 in
theorem b67_2 (fu : Nat) : BodyD Tryd.prog 67 10 (d67_2 fu).erase rs67 := bodyD_mk Tryd.func67 (by kernel_rfl) (by kernel_rfl) (by kernel_rfl) (by kernel_rfl)
theorem g67_2 (fu : Nat) : (e67_2 fu).Good Tryd.prog := good_by orders (b67_2 fu) (l := [e17_2 fu, e45_2 fu]) (by kernel_rfl) ⟨g17_2 fu, g45_2 fu, trivial⟩ (by kernel_rfl) (v67_2 fu)
def rs96 : List RVx := [(.tmp 2)]
/-- (*gazette/codec.Reader).nodes -/
def p96_2 (fu : Nat) : ((List (Int)) × ((Int) × (((Bool) × (((Int) × ((Int) × (Unit))) × (Unit))) × (Unit)))) × (Unit) → Option ((((List (Int)) × ((Int) × (((Bool) × (((Int) × ((Int) × (Unit))) × (Unit))) × (Unit)))) × ((Unit) × (Unit))) × (List (Int))) := fun ⟨⟨a, c, ⟨f, ⟨h, i, _⟩, _⟩, _⟩, _⟩ =>
bif f then
 bif eqL a then
 Option.bind (p17_2 fu ((a, c, (true, (h, i, ()), dflt .unit), ()), (7 : Int), ())) fun ⟨⟨⟨j, k, ⟨l, ⟨m, n, _⟩, _⟩, _⟩, _, _⟩, o⟩ =>
 bif l then
 bif eqL j then
 loopO (S := ((List (Int)) × ((Int) × (Unit))) × (((List (Int)) × ((Int) × (((Bool) × (((Int) × ((Int) × (Unit))) × (Unit))) × (Unit)))) × (Unit))) fu (fun ⟨⟨q, s, _⟩, ⟨⟨t, u, ⟨w, ⟨x, y, _⟩, _⟩, _⟩, _⟩⟩ =>
 bif w then
 bif decide (s < o) then
 bif eqL t then
 Option.bind (p48_2 fu ((t, u, (true, (x, y, ()), dflt .unit), ()), ())) fun ⟨⟨⟨z, a0, ⟨c0, ⟨f0, h0, _⟩, _⟩, _⟩, _, _⟩, i0⟩ =>
 bif c0 then
 bif eqL q then
 bif decide (List.length q + List.length ([i0]) ≤ maxLen ∧ (List.length q + List.length ([i0])) * 8 ≤ 140737488355328) then
 bif eqL (q ++ [i0]) then
 bif eqL z then
 some (.inl (((q ++ [i0]), IntKind.wrap .i64 (s + (1 : Int)), ()), ((z, a0, (true, (f0, h0, ()), dflt .unit), ()), ())))
 else none
 else none
 else none
 else none
 else
 bif eqL q then
 bif decide (List.length q + List.length ([i0]) ≤ maxLen ∧ (List.length q + List.length ([i0])) * 8 ≤ 140737488355328) then
 bif eqL (q ++ [i0]) then
 bif eqL z then
 some (.inl (((q ++ [i0]), IntKind.wrap .i64 (s + (1 : Int)), ()), ((z, a0, zR0, ()), ())))
 else none
 else none
 else none
 else none
 else none
 else
 inrO (bif eqL t then
 bif eqL q then
 some (((t, u, (true, (x, y, ()), dflt .unit), ()), (), ()), q)
 else none
 else none)
 else
 bif decide (s < o) then
 bif eqL t then
 Option.bind (p48_2 fu ((t, u, zR0, ()), ())) fun ⟨⟨⟨j0, k0, ⟨l0, ⟨m0, n0, _⟩, _⟩, _⟩, _, _⟩, o0⟩ =>
 bif l0 then
 bif eqL q then
 bif decide (List.length q + List.length ([o0]) ≤ maxLen ∧ (List.length q + List.length ([o0])) * 8 ≤ 140737488355328) then
 bif eqL (q ++ [o0]) then
 bif eqL j0 then
 some (.inl (((q ++ [o0]), IntKind.wrap .i64 (s + (1 : Int)), ()), ((j0, k0, (true, (m0, n0, ()), dflt .unit), ()), ())))
 else none
 else none
 else none
 else none
 else
 bif eqL q then
 bif decide (List.length q + List.length ([o0]) ≤ maxLen ∧ (List.length q + List.length ([o0])) * 8 ≤ 140737488355328) then
 bif eqL (q ++ [o0]) then
 bif eqL j0 then
 some (.inl (((q ++ [o0]), IntKind.wrap .i64 (s + (1 : Int)), ()), ((j0, k0, zR0, ()), ())))
 else none
 else none
 else none
 else none
 else none
 else
 inrO (bif eqL t then
 bif eqL q then
 some (((t, u, zR0, ()), (), ()), q)
 else none
 else none))
 (([], (0 : Int), ()), ((j, k, (true, (m, n, ()), dflt .unit), ()), ()))
 else none
 else
 bif eqL j then
 loopO (S := ((List (Int)) × ((Int) × (Unit))) × (((List (Int)) × ((Int) × (((Bool) × (((Int) × ((Int) × (Unit))) × (Unit))) × (Unit)))) × (Unit))) fu (fun ⟨⟨q, s, _⟩, ⟨⟨t, u, ⟨w, ⟨x, y, _⟩, _⟩, _⟩, _⟩⟩ =>
 bif w then
 bif decide (s < o) then
 bif eqL t then
 Option.bind (p48_2 fu ((t, u, (true, (x, y, ()), dflt .unit), ()), ())) fun ⟨⟨⟨q0, s0, ⟨t0, ⟨u0, w0, _⟩, _⟩, _⟩, _, _⟩, x0⟩ =>
 bif t0 then
 bif eqL q then
 bif decide (List.length q + List.length ([x0]) ≤ maxLen ∧ (List.length q + List.length ([x0])) * 8 ≤ 140737488355328) then
 bif eqL (q ++ [x0]) then
 bif eqL q0 then
 some (.inl (((q ++ [x0]), IntKind.wrap .i64 (s + (1 : Int)), ()), ((q0, s0, (true, (u0, w0, ()), dflt .unit), ()), ())))
 else none
 else none
 else none
 else none
 else
 bif eqL q then
 bif decide (List.length q + List.length ([x0]) ≤ maxLen ∧ (List.length q + List.length ([x0])) * 8 ≤ 140737488355328) then
 bif eqL (q ++ [x0]) then
 bif eqL q0 then
 some (.inl (((q ++ [x0]), IntKind.wrap .i64 (s + (1 : Int)), ()), ((q0, s0, zR0, ()), ())))
 else none
 else none
 else none
 else none
 else none
 else
 inrO (bif eqL t then
 bif eqL q then
 some (((t, u, (true, (x, y, ()), dflt .unit), ()), (), ()), q)
 else none
 else none)
 else
 bif decide (s < o) then
 bif eqL t then
 Option.bind (p48_2 fu ((t, u, zR0, ()), ())) fun ⟨⟨⟨y0, z0, ⟨a1, ⟨c1, f1, _⟩, _⟩, _⟩, _, _⟩, h1⟩ =>
 bif a1 then
 bif eqL q then
 bif decide (List.length q + List.length ([h1]) ≤ maxLen ∧ (List.length q + List.length ([h1])) * 8 ≤ 140737488355328) then
 bif eqL (q ++ [h1]) then
 bif eqL y0 then
 some (.inl (((q ++ [h1]), IntKind.wrap .i64 (s + (1 : Int)), ()), ((y0, z0, (true, (c1, f1, ()), dflt .unit), ()), ())))
 else none
 else none
 else none
 else none
 else
 bif eqL q then
 bif decide (List.length q + List.length ([h1]) ≤ maxLen ∧ (List.length q + List.length ([h1])) * 8 ≤ 140737488355328) then
 bif eqL (q ++ [h1]) then
 bif eqL y0 then
 some (.inl (((q ++ [h1]), IntKind.wrap .i64 (s + (1 : Int)), ()), ((y0, z0, zR0, ()), ())))
 else none
 else none
 else none
 else none
 else none
 else
 inrO (bif eqL t then
 bif eqL q then
 some (((t, u, zR0, ()), (), ()), q)
 else none
 else none))
 (([], (0 : Int), ()), ((j, k, zR0, ()), ()))
 else none
 else none
else
 bif eqL a then
 Option.bind (p17_2 fu ((a, c, zR0, ()), (7 : Int), ())) fun ⟨⟨⟨i1, j1, ⟨k1, ⟨l1, m1, _⟩, _⟩, _⟩, _, _⟩, n1⟩ =>
 bif k1 then
 bif eqL i1 then
 loopO (S := ((List (Int)) × ((Int) × (Unit))) × (((List (Int)) × ((Int) × (((Bool) × (((Int) × ((Int) × (Unit))) × (Unit))) × (Unit)))) × (Unit))) fu (fun ⟨⟨q, s, _⟩, ⟨⟨t, u, ⟨w, ⟨x, y, _⟩, _⟩, _⟩, _⟩⟩ =>
 bif w then
 bif decide (s < n1) then
 bif eqL t then
 Option.bind (p48_2 fu ((t, u, (true, (x, y, ()), dflt .unit), ()), ())) fun ⟨⟨⟨o1, q1, ⟨s1, ⟨t1, u1, _⟩, _⟩, _⟩, _, _⟩, w1⟩ =>
 bif s1 then
 bif eqL q then
 bif decide (List.length q + List.length ([w1]) ≤ maxLen ∧ (List.length q + List.length ([w1])) * 8 ≤ 140737488355328) then
 bif eqL (q ++ [w1]) then
 bif eqL o1 then
 some (.inl (((q ++ [w1]), IntKind.wrap .i64 (s + (1 : Int)), ()), ((o1, q1, (true, (t1, u1, ()), dflt .unit), ()), ())))
 else none
 else none
 else none
 else none
 else
 bif eqL q then
 bif decide (List.length q + List.length ([w1]) ≤ maxLen ∧ (List.length q + List.length ([w1])) * 8 ≤ 140737488355328) then
 bif eqL (q ++ [w1]) then
 bif eqL o1 then
 some (.inl (((q ++ [w1]), IntKind.wrap .i64 (s + (1 : Int)), ()), ((o1, q1, zR0, ()), ())))
 else none
 else none
 else none
 else none
 else none
 else
 inrO (bif eqL t then
 bif eqL q then
 some (((t, u, (true, (x, y, ()), dflt .unit), ()), (), ()), q)
 else none
 else none)
 else
 bif decide (s < n1) then
 bif eqL t then
 Option.bind (p48_2 fu ((t, u, zR0, ()), ())) fun ⟨⟨⟨x1, y1, ⟨z1, ⟨a2, c2, _⟩, _⟩, _⟩, _, _⟩, f2⟩ =>
 bif z1 then
 bif eqL q then
 bif decide (List.length q + List.length ([f2]) ≤ maxLen ∧ (List.length q + List.length ([f2])) * 8 ≤ 140737488355328) then
 bif eqL (q ++ [f2]) then
 bif eqL x1 then
 some (.inl (((q ++ [f2]), IntKind.wrap .i64 (s + (1 : Int)), ()), ((x1, y1, (true, (a2, c2, ()), dflt .unit), ()), ())))
 else none
 else none
 else none
 else none
 else
 bif eqL q then
 bif decide (List.length q + List.length ([f2]) ≤ maxLen ∧ (List.length q + List.length ([f2])) * 8 ≤ 140737488355328) then
 bif eqL (q ++ [f2]) then
 bif eqL x1 then
 some (.inl (((q ++ [f2]), IntKind.wrap .i64 (s + (1 : Int)), ()), ((x1, y1, zR0, ()), ())))
 else none
 else none
 else none
 else none
 else none
 else
 inrO (bif eqL t then
 bif eqL q then
 some (((t, u, zR0, ()), (), ()), q)
 else none
 else none))
 (([], (0 : Int), ()), ((i1, j1, (true, (l1, m1, ()), dflt .unit), ()), ()))
 else none
 else
 bif eqL i1 then
 loopO (S := ((List (Int)) × ((Int) × (Unit))) × (((List (Int)) × ((Int) × (((Bool) × (((Int) × ((Int) × (Unit))) × (Unit))) × (Unit)))) × (Unit))) fu (fun ⟨⟨q, s, _⟩, ⟨⟨t, u, ⟨w, ⟨x, y, _⟩, _⟩, _⟩, _⟩⟩ =>
 bif w then
 bif decide (s < n1) then
 bif eqL t then
 Option.bind (p48_2 fu ((t, u, (true, (x, y, ()), dflt .unit), ()), ())) fun ⟨⟨⟨h2, i2, ⟨j2, ⟨k2, l2, _⟩, _⟩, _⟩, _, _⟩, m2⟩ =>
 bif j2 then
 bif eqL q then
 bif decide (List.length q + List.length ([m2]) ≤ maxLen ∧ (List.length q + List.length ([m2])) * 8 ≤ 140737488355328) then
 bif eqL (q ++ [m2]) then
 bif eqL h2 then
 some (.inl (((q ++ [m2]), IntKind.wrap .i64 (s + (1 : Int)), ()), ((h2, i2, (true, (k2, l2, ()), dflt .unit), ()), ())))
 else none
 else none
 else none
 else none
 else
 bif eqL q then
 bif decide (List.length q + List.length ([m2]) ≤ maxLen ∧ (List.length q + List.length ([m2])) * 8 ≤ 140737488355328) then
 bif eqL (q ++ [m2]) then
 bif eqL h2 then
 some (.inl (((q ++ [m2]), IntKind.wrap .i64 (s + (1 : Int)), ()), ((h2, i2, zR0, ()), ())))
 else none
 else none
 else none
 else none
 else none
 else
 inrO (bif eqL t then
 bif eqL q then
 some (((t, u, (true, (x, y, ()), dflt .unit), ()), (), ()), q)
 else none
 else none)
 else
 bif decide (s < n1) then
 bif eqL t then
 Option.bind (p48_2 fu ((t, u, zR0, ()), ())) fun ⟨⟨⟨n2, o2, ⟨q2, ⟨s2, t2, _⟩, _⟩, _⟩, _, _⟩, u2⟩ =>
 bif q2 then
 bif eqL q then
 bif decide (List.length q + List.length ([u2]) ≤ maxLen ∧ (List.length q + List.length ([u2])) * 8 ≤ 140737488355328) then
 bif eqL (q ++ [u2]) then
 bif eqL n2 then
 some (.inl (((q ++ [u2]), IntKind.wrap .i64 (s + (1 : Int)), ()), ((n2, o2, (true, (s2, t2, ()), dflt .unit), ()), ())))
 else none
 else none
 else none
 else none
 else
 bif eqL q then
 bif decide (List.length q + List.length ([u2]) ≤ maxLen ∧ (List.length q + List.length ([u2])) * 8 ≤ 140737488355328) then
 bif eqL (q ++ [u2]) then
 bif eqL n2 then
 some (.inl (((q ++ [u2]), IntKind.wrap .i64 (s + (1 : Int)), ()), ((n2, o2, zR0, ()), ())))
 else none
 else none
 else none
 else none
 else none
 else
 inrO (bif eqL t then
 bif eqL q then
 some (((t, u, zR0, ()), (), ()), q)
 else none
 else none))
 (([], (0 : Int), ()), ((i1, j1, zR0, ()), ()))
 else none
 else none
def e96_2 (fu : Nat) : Ent := ⟨96, (.cons Y6 .nil), (.cons Y5 (.cons .dead .nil)), (.own .own 3 (.int .i64)), p96_2 fu⟩
def d96_2 (fu : Nat) : DC := (.seq (.region [opD 2 (.mov (.const vS))] [[]] false) (.seq (.region [opD 3 (.mov (.const vS))] [[]] false) (.seq (.seq (.region [mvD 4 0, oqD 5 (.call 17 [(tD 4), (cD 7)]) (.ent (e17_2 fu)), opD 6 (.mov (cD 0))] [[], [0], []] false) (.block 0 (.loop ⟨[3, 6], (.cons (.own .own 3 (.int .i64)) (.cons (.hole (.int .i64)) .nil)), [(0, 95, 3)], (.cons Y5 .nil), [0, 5], [1]⟩
 (.seq (.region [opD 7 (.bin .lss (tD 6) (tD 5))] [[]] false) (.seq (.cond (.tmp 7) .skip (.exit 0)) (.seq (.block 1 (.region [mvD 8 3, mvD 9 0, oqD 10 (.call 48 [(tD 9)]) (.ent (e48_2 fu)), oqD 11 (.bslice 3 1 1 [vI] [(0, (tD 10))]) (.ty (.int .i64)), oqD 12 (.app 3 1 [vI] 8 (tD 8) (tD 11)) (.ty (.int .i64)), mvD 3 12] [[], [], [1], [2], [0, 3, 2], [4, 4, 0, 1, 2, 3, 4]] false)) (.region [opD 13 (.bin .add (tD 6) (cD 1)), mvD 6 13] [[], [0]] false))))))) (.seq (.region [mvD 14 3, mvD 2 14] [[], [0, 0]] false) .ret))))
set_option maxRecDepth 1000000 in
theorem v96_2 (fu : Nat) : evF fu (d96_2 fu) rs96 15 (e96_2 fu).ash (e96_2 fu).osh (e96_2 fu).vsh = p96_2 fu := by kernel_rfl
set_option maxRecDepth 1000000 in
theorem b96_2 (fu : Nat) : BodyD Tryd.prog 96 15 (d96_2 fu).erase rs96 := bodyD_mk Tryd.func96 (by kernel_rfl) (by kernel_rfl) (by kernel_rfl) (by kernel_rfl)
theorem g96_2 (fu : Nat) : (e96_2 fu).Good Tryd.prog := good_by orders (b96_2 fu) (l := [e17_2 fu, e48_2 fu]) (by kernel_rfl) ⟨g17_2 fu, g48_2 fu, trivial⟩ (by kernel_rfl) (v96_2 fu)
def rs95 : List RVx := [(.cell 4 true 2)]
/-- gazette/codec.whole[gazette/api.Conf] -/
def p95_8 (_ : Nat) : ((List (Int)) × ((Int) × (((Bool) × (((Int) × ((Int) × (Unit))) × (Unit))) × (Unit)))) × (((List (Int)) × ((List (Int)) × (Unit))) × (Unit)) → Option ((((List (Int)) × ((Int) × (((Bool) × (((Int) × ((Int) × (Unit))) × (Unit))) × (Unit)))) × ((Unit) × (Unit))) × ((List (Int)) × ((List (Int)) × (Unit)))) := fun ⟨⟨a, c, ⟨f, ⟨h, i, _⟩, _⟩, _⟩, ⟨j, k, _⟩, _⟩ =>
bif f then
 bif eqL a then
 some (((a, c, (true, (h, i, ()), dflt .unit), ()), (), ()), ([], [], ()))
 else none
else
 bif eqL a then
 some (((a, c, zR0, ()), (), ()), (j, k, ()))
 else none
def e95_8 (fu : Nat) : Ent := ⟨95, (.cons Y6 (.cons (.agg 2 (.cons (.hole (.sl (.int .i64))) (.cons (.hole (.sl (.int .i64))) .nil))) .nil)), (.cons Y5 (.cons .dead .nil)), (.agg 2 (.cons (.hole (.sl (.int .i64))) (.cons (.hole (.sl (.int .i64))) .nil))), p95_8 fu⟩
def d95_8 (_ : Nat) : DC := (.seq (.region [opD 3 (.box 31 2 (tD 1)), opD 4 (.alloc 31 2 [vS, vS])] [[], []] false) (.seq (.seq (.region [mvD 6 0, opD 7 (.pure .nilc [(tD 6)]), opD 8 (.faddr 2 (tD 7)), opD 9 (.load false 1 (tD 8)), opD 10 (.pure (.nilq 1 true) [(tD 9)])] [[], [0], [1], [2], [3]] false) (.cond (.tmp 10) (.seq (.region [opD 5 (.alloc 31 2 [vS, vS])] [[]] false) (.seq (.region [opD 11 (.load true 2 (tD 5)), onD (.store 2 (tD 4) (tD 11))] [[], [0, 0]] false) .ret)) .skip)) (.seq (.region [opD 12 (.load true 2 (tD 3)), onD (.store 2 (tD 4) (tD 12))] [[], [0, 0]] false) .ret)))
set_option maxRecDepth 1000000 in
theorem v95_8 (fu : Nat) : evF fu (d95_8 fu) rs95 13 (e95_8 fu).ash (e95_8 fu).osh (e95_8 fu).vsh = p95_8 fu := by kernel_rfl
set_option maxRecDepth 1000000 in
theorem b95_8 (fu : Nat) : BodyD Tryd.prog 95 13 (d95_8 fu).erase rs95 := bodyD_mk Tryd.func95 (by kernel_rfl) (by kernel_rfl) (by kernel_rfl) (by kernel_rfl)
theorem g95_8 (fu : Nat) : (e95_8 fu).Good Tryd.prog := good_by orders (b95_8 fu) (l := []) (by kernel_rfl) trivial (by kernel_rfl) (v95_8 fu)
def rs71 : List RVx := [(.cell 2 true 2)]
/-- (*gazette/codec.Reader).Conf -/
def p71_2 (fu : Nat) : ((List (Int)) × ((Int) × (((Bool) × (((Int) × ((Int) × (Unit))) × (Unit))) × (Unit)))) × (Unit) → Option ((((List (Int)) × ((Int) × (((Bool) × (((Int) × ((Int) × (Unit))) × (Unit))) × (Unit)))) × ((Unit) × (Unit))) × ((List (Int)) × ((List (Int)) × (Unit)))) := fun ⟨⟨a, c, ⟨f, ⟨h, i, _⟩, _⟩, _⟩, _⟩ =>
bif f then
 bif eqL a then
 Option.bind (p96_2 fu ((a, c, (true, (h, i, ()), dflt .unit), ()), ())) fun ⟨⟨⟨j, k, ⟨l, ⟨m, n, _⟩, _⟩, _⟩, _, _⟩, o⟩ =>
 bif l then
 bif eqL j then
 Option.bind (p96_2 fu ((j, k, (true, (m, n, ()), dflt .unit), ()), ())) fun ⟨⟨⟨q, s, ⟨t, ⟨u, w, _⟩, _⟩, _⟩, _, _⟩, x⟩ =>
 bif t then
 bif eqL q then
 bif eqL o then
 bif eqL x then
 Option.bind (p95_8 fu ((q, s, (true, (u, w, ()), dflt .unit), ()), (o, x, ()), ())) fun ⟨⟨⟨y, z, ⟨a0, ⟨c0, f0, _⟩, _⟩, _⟩, _, _⟩, ⟨h0, i0, _⟩⟩ =>
 bif a0 then
 bif eqL y then
 some (((y, z, (true, (c0, f0, ()), dflt .unit), ()), (), ()), (h0, i0, ()))
 else none
 else
 bif eqL y then
 some (((y, z, zR0, ()), (), ()), (h0, i0, ()))
 else none
 else none
 else none
 else none
 else
 bif eqL q then
 bif eqL o then
 bif eqL x then
 Option.bind (p95_8 fu ((q, s, zR0, ()), (o, x, ()), ())) fun ⟨⟨⟨j0, k0, ⟨l0, ⟨m0, n0, _⟩, _⟩, _⟩, _, _⟩, ⟨o0, q0, _⟩⟩ =>
 bif l0 then
 bif eqL j0 then
 some (((j0, k0, (true, (m0, n0, ()), dflt .unit), ()), (), ()), (o0, q0, ()))
 else none
 else
 bif eqL j0 then
 some (((j0, k0, zR0, ()), (), ()), (o0, q0, ()))
 else none
 else none
 else none
 else none
 else none
 else
 bif eqL j then
 Option.bind (p96_2 fu ((j, k, zR0, ()), ())) fun ⟨⟨⟨s0, t0, ⟨u0, ⟨w0, x0, _⟩, _⟩, _⟩, _, _⟩, y0⟩ =>
 bif u0 then
 bif eqL s0 then
 bif eqL o then
 bif eqL y0 then
 Option.bind (p95_8 fu ((s0, t0, (true, (w0, x0, ()), dflt .unit), ()), (o, y0, ()), ())) fun ⟨⟨⟨z0, a1, ⟨c1, ⟨f1, h1, _⟩, _⟩, _⟩, _, _⟩, ⟨i1, j1, _⟩⟩ =>
 bif c1 then
 bif eqL z0 then
 some (((z0, a1, (true, (f1, h1, ()), dflt .unit), ()), (), ()), (i1, j1, ()))
 else none
 else
 bif eqL z0 then
 some (((z0, a1, zR0, ()), (), ()), (i1, j1, ()))
 else none
 else none
 else none
 else none
 else
 bif eqL s0 then
 bif eqL o then
 bif eqL y0 then
 Option.bind (p95_8 fu ((s0, t0, zR0, ()), (o, y0, ()), ())) fun ⟨⟨⟨k1, l1, ⟨m1, ⟨n1, o1, _⟩, _⟩, _⟩, _, _⟩, ⟨q1, s1, _⟩⟩ =>
 bif m1 then
 bif eqL k1 then
 some (((k1, l1, (true, (n1, o1, ()), dflt .unit), ()), (), ()), (q1, s1, ()))
 else none
 else
 bif eqL k1 then
 some (((k1, l1, zR0, ()), (), ()), (q1, s1, ()))
 else none
 else none
 else none
 else none
 else none
 else none
else
 bif eqL a then
 Option.bind (p96_2 fu ((a, c, zR0, ()), ())) fun ⟨⟨⟨t1, u1, ⟨w1, ⟨x1, y1, _⟩, _⟩, _⟩, _, _⟩, z1⟩ =>
 bif w1 then
 bif eqL t1 then
 Option.bind (p96_2 fu ((t1, u1, (true, (x1, y1, ()), dflt .unit), ()), ())) fun ⟨⟨⟨a2, c2, ⟨f2, ⟨h2, i2, _⟩, _⟩, _⟩, _, _⟩, j2⟩ =>
 bif f2 then
 bif eqL a2 then
 bif eqL z1 then
 bif eqL j2 then
 Option.bind (p95_8 fu ((a2, c2, (true, (h2, i2, ()), dflt .unit), ()), (z1, j2, ()), ())) fun ⟨⟨⟨k2, l2, ⟨m2, ⟨n2, o2, _⟩, _⟩, _⟩, _, _⟩, ⟨q2, s2, _⟩⟩ =>
 bif m2 then
 bif eqL k2 then
 some (((k2, l2, (true, (n2, o2, ()), dflt .unit), ()), (), ()), (q2, s2, ()))
 else none
 else
 bif eqL k2 then
 some (((k2, l2, zR0, ()), (), ()), (q2, s2, ()))
 else none
 else none
 else none
 else none
 else
 bif eqL a2 then
 bif eqL z1 then
 bif eqL j2 then
 Option.bind (p95_8 fu ((a2, c2, zR0, ()), (z1, j2, ()), ())) fun ⟨⟨⟨t2, u2, ⟨w2, ⟨x2, y2, _⟩, _⟩, _⟩, _, _⟩, ⟨z2, a3, _⟩⟩ =>
 bif w2 then
 bif eqL t2 then
 some (((t2, u2, (true, (x2, y2, ()), dflt .unit), ()), (), ()), (z2, a3, ()))
 else none
 else
 bif eqL t2 then
 some (((t2, u2, zR0, ()), (), ()), (z2, a3, ()))
 else none
 else none
 else none
 else none
 else none
 else
 bif eqL t1 then
 Option.bind (p96_2 fu ((t1, u1, zR0, ()), ())) fun ⟨⟨⟨c3, f3, ⟨h3, ⟨i3, j3, _⟩, _⟩, _⟩, _, _⟩, k3⟩ =>
 bif h3 then
 bif eqL c3 then
 bif eqL z1 then
 bif eqL k3 then
 Option.bind (p95_8 fu ((c3, f3, (true, (i3, j3, ()), dflt .unit), ()), (z1, k3, ()), ())) fun ⟨⟨⟨l3, m3, ⟨n3, ⟨o3, q3, _⟩, _⟩, _⟩, _, _⟩, ⟨s3, t3, _⟩⟩ =>
 bif n3 then
 bif eqL l3 then
 some (((l3, m3, (true, (o3, q3, ()), dflt .unit), ()), (), ()), (s3, t3, ()))
 else none
 else
 bif eqL l3 then
 some (((l3, m3, zR0, ()), (), ()), (s3, t3, ()))
 else none
 else none
 else none
 else none
 else
 bif eqL c3 then
 bif eqL z1 then
 bif eqL k3 then
 Option.bind (p95_8 fu ((c3, f3, zR0, ()), (z1, k3, ()), ())) fun ⟨⟨⟨u3, w3, ⟨x3, ⟨y3, z3, _⟩, _⟩, _⟩, _, _⟩, ⟨a4, c4, _⟩⟩ =>
 bif x3 then
 bif eqL u3 then
 some (((u3, w3, (true, (y3, z3, ()), dflt .unit), ()), (), ()), (a4, c4, ()))
 else none
 else
 bif eqL u3 then
 some (((u3, w3, zR0, ()), (), ()), (a4, c4, ()))
 else none
 else none
 else none
 else none
 else none
 else none
def e71_2 (fu : Nat) : Ent := ⟨71, (.cons Y6 .nil), (.cons Y5 (.cons .dead .nil)), (.agg 2 (.cons (.hole (.sl (.int .i64))) (.cons (.hole (.sl (.int .i64))) .nil))), p71_2 fu⟩
def d71_2 (fu : Nat) : DC := (.seq (.region [opD 2 (.alloc 31 2 [vS, vS])] [[]] false) (.seq (.region [mvD 3 0, mvD 4 0, oqD 5 (.call 96 [(tD 4)]) (.ent (e96_2 fu)), mvD 6 0, oqD 7 (.call 96 [(tD 6)]) (.ent (e96_2 fu)), opD 8 (.build 2 [vS, vS] [(0, (1, (tD 5))), (1, (1, (tD 7)))]), oqD 9 (.call 95 [(tD 3), (tD 8)]) (.ent (e95_8 fu)), onD (.store 2 (tD 2) (tD 9))] [[], [], [1], [], [3, 2], [2, 4], [0, 5, 4], [6, 6, 0, 1, 2, 3, 4, 5, 6]] false) .ret))
set_option maxRecDepth 1000000 in
theorem v71_2 (fu : Nat) : evF fu (d71_2 fu) rs71 10 (e71_2 fu).ash (e71_2 fu).osh (e71_2 fu).vsh = p71_2 fu := by kernel_rfl
set_option maxRecDepth 1000000 in
theorem b71_2 (fu : Nat) : BodyD Tryd.prog 71 10 (d71_2 fu).erase rs71 := bodyD_mk Tryd.func71 (by kernel_rfl) (by kernel_rfl) (by kernel_rfl) (by kernel_rfl)
theorem g71_2 (fu : Nat) : (e71_2 fu).Good Tryd.prog := good_by orders (b71_2 fu) (l := [e96_2 fu, e96_2 fu, e95_8 fu]) (by kernel_rfl) ⟨g96_2 fu, g96_2 fu, g95_8 fu, trivial⟩ (by kernel_rfl) (v71_2 fu)
def rs88 : List RVx := [(.cell 4 true 6)]
/-- gazette/codec.whole[gazette/api.Entry] -/
def p88_4 (_ : Nat) : ((List (Int)) × ((Int) × (((Bool) × (((Int) × ((Int) × (Unit))) × (Unit))) × (Unit)))) × ((Z1) × (Unit)) → Option ((((List (Int)) × ((Int) × (((Bool) × (((Int) × ((Int) × (Unit))) × (Unit))) × (Unit)))) × ((Unit) × (Unit))) × ((Int) × ((Int) × ((Int) × ((List (Int)) × ((List (Int)) × ((List (Int)) × (Unit)))))))) := fun ⟨⟨a, c, ⟨f, ⟨h, i, _⟩, _⟩, _⟩, ⟨j, k, l, m, n, o, _⟩, _⟩ =>
bif f then
 bif eqL a then
 some (((a, c, (true, (h, i, ()), dflt .unit), ()), (), ()), ((0 : Int), (0 : Int), (0 : Int), [], [], [], ()))
 else none
else
 bif eqL a then
 some (((a, c, zR0, ()), (), ()), (j, k, l, m, n, o, ()))
 else none
def e88_4 (fu : Nat) : Ent := ⟨88, (.cons Y6 (.cons Y2 .nil)), (.cons Y5 (.cons .dead .nil)), Y2, p88_4 fu⟩
def d88_4 (_ : Nat) : DC := (.seq (.region [opD 3 (.box 33 6 (tD 1)), opD 4 (.alloc 33 6 [vU, vU, vI, vS, vS, vS])] [[], []] false) (.seq (.seq (.region [mvD 6 0, opD 7 (.pure .nilc [(tD 6)]), opD 8 (.faddr 2 (tD 7)), opD 9 (.load false 1 (tD 8)), opD 10 (.pure (.nilq 1 true) [(tD 9)])] [[], [0], [1], [2], [3]] false) (.cond (.tmp 10) (.seq (.region [opD 5 (.alloc 33 6 [vU, vU, vI, vS, vS, vS])] [[]] false) (.seq (.region [opD 11 (.load true 6 (tD 5)), onD (.store 6 (tD 4) (tD 11))] [[], [0, 0]] false) .ret)) .skip)) (.seq (.region [opD 12 (.load true 6 (tD 3)), onD (.store 6 (tD 4) (tD 12))] [[], [0, 0]] false) .ret)))
set_option maxRecDepth 1000000 in
theorem v88_4 (fu : Nat) : evF fu (d88_4 fu) rs88 13 (e88_4 fu).ash (e88_4 fu).osh (e88_4 fu).vsh = p88_4 fu := by kernel_rfl
set_option maxRecDepth 1000000 in
theorem b88_4 (fu : Nat) : BodyD Tryd.prog 88 13 (d88_4 fu).erase rs88 := bodyD_mk Tryd.func88 (by kernel_rfl) (by kernel_rfl) (by kernel_rfl) (by kernel_rfl)
theorem g88_4 (fu : Nat) : (e88_4 fu).Good Tryd.prog := good_by orders (b88_4 fu) (l := []) (by kernel_rfl) trivial (by kernel_rfl) (v88_4 fu)
def rs47 : List RVx := [(.cell 2 true 6)]
/-- (*gazette/codec.Reader).Entry -/
def p47_2 (fu : Nat) : ((List (Int)) × ((Int) × (((Bool) × (((Int) × ((Int) × (Unit))) × (Unit))) × (Unit)))) × (Unit) → Option ((((List (Int)) × ((Int) × (((Bool) × (((Int) × ((Int) × (Unit))) × (Unit))) × (Unit)))) × ((Unit) × (Unit))) × ((Int) × ((Int) × ((Int) × ((List (Int)) × ((List (Int)) × ((List (Int)) × (Unit)))))))) := fun ⟨⟨a, c, ⟨f, ⟨h, i, _⟩, _⟩, _⟩, _⟩ =>
bif f then
 bif eqL a then
 Option.bind (p15_2 fu ((a, c, (true, (h, i, ()), dflt .unit), ()), ())) fun ⟨⟨⟨j, k, ⟨l, ⟨m, n, _⟩, _⟩, _⟩, _, _⟩, o⟩ =>
 bif l then
 bif eqL j then
 Option.bind (p15_2 fu ((j, k, (true, (m, n, ()), dflt .unit), ()), ())) fun ⟨⟨⟨q, s, ⟨t, ⟨u, w, _⟩, _⟩, _⟩, _, _⟩, x⟩ =>
 bif t then
 bif eqL q then
 Option.bind (p89_2 fu ((q, s, (true, (u, w, ()), dflt .unit), ()), ())) fun ⟨⟨⟨y, z, ⟨a0, ⟨c0, f0, _⟩, _⟩, _⟩, _, _⟩, h0⟩ =>
 bif a0 then
 bif eqL y then
 Option.bind (p67_2 fu ((y, z, (true, (c0, f0, ()), dflt .unit), ()), (262144 : Int), ())) fun ⟨⟨⟨i0, j0, ⟨k0, ⟨l0, m0, _⟩, _⟩, _⟩, _, _⟩, n0⟩ =>
 bif k0 then
 bif eqL i0 then
 Option.bind (p71_2 fu ((i0, j0, (true, (l0, m0, ()), dflt .unit), ()), ())) fun ⟨⟨⟨o0, q0, ⟨s0, ⟨t0, u0, _⟩, _⟩, _⟩, _, _⟩, ⟨w0, x0, _⟩⟩ =>
 bif s0 then
 bif eqL o0 then
 bif eqL n0 then
 Option.bind (p88_4 fu ((o0, q0, (true, (t0, u0, ()), dflt .unit), ()), (o, x, h0, n0, w0, x0, ()), ())) fun ⟨⟨⟨y0, z0, ⟨a1, ⟨c1, f1, _⟩, _⟩, _⟩, _, _⟩, ⟨h1, i1, j1, k1, l1, m1, _⟩⟩ =>
 bif a1 then
 bif eqL y0 then
 some (((y0, z0, (true, (c1, f1, ()), dflt .unit), ()), (), ()), (h1, i1, j1, k1, l1, m1, ()))
 else none
 else
 bif eqL y0 then
 some (((y0, z0, zR0, ()), (), ()), (h1, i1, j1, k1, l1, m1, ()))
 else none
 else none
 else none
 else
 bif eqL o0 then
 bif eqL n0 then
 Option.bind (p88_4 fu ((o0, q0, zR0, ()), (o, x, h0, n0, w0, x0, ()), ())) fun ⟨⟨⟨n1, o1, ⟨q1, ⟨s1, t1, _⟩, _⟩, _⟩, _, _⟩, ⟨u1, w1, x1, y1, z1, a2, _⟩⟩ =>
 bif q1 then
 bif eqL n1 then
 some (((n1, o1, (true, (s1, t1, ()), dflt .unit), ()), (), ()), (u1, w1, x1, y1, z1, a2, ()))
 else none
 else
 bif eqL n1 then
 some (((n1, o1, zR0, ()), (), ()), (u1, w1, x1, y1, z1, a2, ()))
 else none
 else none
 else none
 else none
 else
 bif eqL i0 then
 Option.bind (p71_2 fu ((i0, j0, zR0, ()), ())) fun ⟨⟨⟨c2, f2, ⟨h2, ⟨i2, j2, _⟩, _⟩, _⟩, _, _⟩, ⟨k2, l2, _⟩⟩ =>
 bif h2 then
 bif eqL c2 then
 bif eqL n0 then
 Option.bind (p88_4 fu ((c2, f2, (true, (i2, j2, ()), dflt .unit), ()), (o, x, h0, n0, k2, l2, ()), ())) fun ⟨⟨⟨m2, n2, ⟨o2, ⟨q2, s2, _⟩, _⟩, _⟩, _, _⟩, ⟨t2, u2, w2, x2, y2, z2, _⟩⟩ =>
 bif o2 then
 bif eqL m2 then
 some (((m2, n2, (true, (q2, s2, ()), dflt .unit), ()), (), ()), (t2, u2, w2, x2, y2, z2, ()))
 else none
 else
 bif eqL m2 then
 some (((m2, n2, zR0, ()), (), ()), (t2, u2, w2, x2, y2, z2, ()))
 else none
 else none
 else none
 else
 bif eqL c2 then
 bif eqL n0 then
 Option.bind (p88_4 fu ((c2, f2, zR0, ()), (o, x, h0, n0, k2, l2, ()), ())) fun ⟨⟨⟨a3, c3, ⟨f3, ⟨h3, i3, _⟩, _⟩, _⟩, _, _⟩, ⟨j3, k3, l3, m3, n3, o3, _⟩⟩ =>
 bif f3 then
 bif eqL a3 then
 some (((a3, c3, (true, (h3, i3, ()), dflt .unit), ()), (), ()), (j3, k3, l3, m3, n3, o3, ()))
 else none
 else
 bif eqL a3 then
 some (((a3, c3, zR0, ()), (), ()), (j3, k3, l3, m3, n3, o3, ()))
 else none
 else none
 else none
 else none
 else none
 else
 bif eqL y then
 Option.bind (p67_2 fu ((y, z, zR0, ()), (262144 : Int), ())) fun ⟨⟨⟨q3, s3, ⟨t3, ⟨u3, w3, _⟩, _⟩, _⟩, _, _⟩, x3⟩ =>
 bif t3 then
 bif eqL q3 then
 Option.bind (p71_2 fu ((q3, s3, (true, (u3, w3, ()), dflt .unit), ()), ())) fun ⟨⟨⟨y3, z3, ⟨a4, ⟨c4, f4, _⟩, _⟩, _⟩, _, _⟩, ⟨h4, i4, _⟩⟩ =>
 bif a4 then
 bif eqL y3 then
 bif eqL x3 then
 Option.bind (p88_4 fu ((y3, z3, (true, (c4, f4, ()), dflt .unit), ()), (o, x, h0, x3, h4, i4, ()), ())) fun ⟨⟨⟨j4, k4, ⟨l4, ⟨m4, n4, _⟩, _⟩, _⟩, _, _⟩, ⟨o4, q4, s4, t4, u4, w4, _⟩⟩ =>
 bif l4 then
 bif eqL j4 then
 some (((j4, k4, (true, (m4, n4, ()), dflt .unit), ()), (), ()), (o4, q4, s4, t4, u4, w4, ()))
 else none
 else
 bif eqL j4 then
 some (((j4, k4, zR0, ()), (), ()), (o4, q4, s4, t4, u4, w4, ()))
 else none
 else none
 else none
 else
 bif eqL y3 then
 bif eqL x3 then
 Option.bind (p88_4 fu ((y3, z3, zR0, ()), (o, x, h0, x3, h4, i4, ()), ())) fun ⟨⟨⟨x4, y4, ⟨z4, ⟨a5, c5, _⟩, _⟩, _⟩, _, _⟩, ⟨f5, h5, i5, j5, k5, l5, _⟩⟩ =>
 bif z4 then
 bif eqL x4 then
 some (((x4, y4, (true, (a5, c5, ()), dflt .unit), ()), (), ()), (f5, h5, i5, j5, k5, l5, ()))
 else none
 else
 bif eqL x4 then
 some (((x4, y4, zR0, ()), (), ()), (f5, h5, i5, j5, k5, l5, ()))
 else none
 else none
 else none
 else none
 else
 bif eqL q3 then
 Option.bind (p71_2 fu ((q3, s3, zR0, ()), ())) fun ⟨⟨⟨m5, n5, ⟨o5, ⟨q5, s5, _⟩, _⟩, _⟩, _, _⟩, ⟨t5, u5, _⟩⟩ =>
 bif o5 then
 bif eqL m5 then
 bif eqL x3 then
 Option.bind (p88_4 fu ((m5, n5, (true, (q5, s5, ()), dflt .unit), ()), (o, x, h0, x3, t5, u5, ()), ())) fun ⟨⟨⟨w5, x5, ⟨y5, ⟨z5, a6, _⟩, _⟩, _⟩, _, _⟩, ⟨c6, f6, h6, i6, j6, k6, _⟩⟩ =>
 bif y5 then
 bif eqL w5 then
 some (((w5, x5, (true, (z5, a6, ()), dflt .unit), ()), (), ()), (c6, f6, h6, i6, j6, k6, ()))
 else none
 else
 bif eqL w5 then
 some (((w5, x5, zR0, ()), (), ()), (c6, f6, h6, i6, j6, k6, ()))
 else none
 else none
 else none
 else
 bif eqL m5 then
 bif eqL x3 then
 Option.bind (p88_4 fu ((m5, n5, zR0, ()), (o, x, h0, x3, t5, u5, ()), ())) fun ⟨⟨⟨l6, m6, ⟨n6, ⟨o6, q6, _⟩, _⟩, _⟩, _, _⟩, ⟨s6, t6, u6, w6, x6, y6, _⟩⟩ =>
 bif n6 then
 bif eqL l6 then
 some (((l6, m6, (true, (o6, q6, ()), dflt .unit), ()), (), ()), (s6, t6, u6, w6, x6, y6, ()))
 else none
 else
 bif eqL l6 then
 some (((l6, m6, zR0, ()), (), ()), (s6, t6, u6, w6, x6, y6, ()))
 else none
 else none
 else none
 else none
 else none
 else none
 else
 bif eqL q then
 Option.bind (p89_2 fu ((q, s, zR0, ()), ())) fun ⟨⟨⟨z6, a7, ⟨c7, ⟨f7, h7, _⟩, _⟩, _⟩, _, _⟩, i7⟩ =>
 bif c7 then
 bif eqL z6 then
 Option.bind (p67_2 fu ((z6, a7, (true, (f7, h7, ()), dflt .unit), ()), (262144 : Int), ())) fun ⟨⟨⟨j7, k7, ⟨l7, ⟨m7, n7, _⟩, _⟩, _⟩, _, _⟩, o7⟩ =>
 bif l7 then
 bif eqL j7 then
 Option.bind (p71_2 fu ((j7, k7, (true, (m7, n7, ()), dflt .unit), ()), ())) fun ⟨⟨⟨q7, s7, ⟨t7, ⟨u7, w7, _⟩, _⟩, _⟩, _, _⟩, ⟨x7, y7, _⟩⟩ =>
 bif t7 then
 bif eqL q7 then
 bif eqL o7 then
 Option.bind (p88_4 fu ((q7, s7, (true, (u7, w7, ()), dflt .unit), ()), (o, x, i7, o7, x7, y7, ()), ())) fun ⟨⟨⟨z7, a8, ⟨c8, ⟨f8, h8, _⟩, _⟩, _⟩, _, _⟩, ⟨i8, j8, k8, l8, m8, n8, _⟩⟩ =>
 bif c8 then
 bif eqL z7 then
 some (((z7, a8, (true, (f8, h8, ()), dflt .unit), ()), (), ()), (i8, j8, k8, l8, m8, n8, ()))
 else none
 else
 bif eqL z7 then
 some (((z7, a8, zR0, ()), (), ()), (i8, j8, k8, l8, m8, n8, ()))
 else none
 else none
 else none
 else
 bif eqL q7 then
 bif eqL o7 then
 Option.bind (p88_4 fu ((q7, s7, zR0, ()), (o, x, i7, o7, x7, y7, ()), ())) fun ⟨⟨⟨o8, q8, ⟨s8, ⟨t8, u8, _⟩, _⟩, _⟩, _, _⟩, ⟨w8, x8, y8, z8, a9, c9, _⟩⟩ =>
 bif s8 then
 bif eqL o8 then
 some (((o8, q8, (true, (t8, u8, ()), dflt .unit), ()), (), ()), (w8, x8, y8, z8, a9, c9, ()))
 else none
 else
 bif eqL o8 then
 some (((o8, q8, zR0, ()), (), ()), (w8, x8, y8, z8, a9, c9, ()))
 else none
 else none
 else none
 else none
 else
 bif eqL j7 then
 Option.bind (p71_2 fu ((j7, k7, zR0, ()), ())) fun ⟨⟨⟨f9, h9, ⟨i9, ⟨j9, k9, _⟩, _⟩, _⟩, _, _⟩, ⟨l9, m9, _⟩⟩ =>
 bif i9 then
 bif eqL f9 then
 bif eqL o7 then
 Option.bind (p88_4 fu ((f9, h9, (true, (j9, k9, ()), dflt .unit), ()), (o, x, i7, o7, l9, m9, ()), ())) fun ⟨⟨⟨n9, o9, ⟨q9, ⟨s9, t9, _⟩, _⟩, _⟩, _, _⟩, ⟨u9, w9, x9, y9, z9, a10, _⟩⟩ =>
 bif q9 then
 bif eqL n9 then
 some (((n9, o9, (true, (s9, t9, ()), dflt .unit), ()), (), ()), (u9, w9, x9, y9, z9, a10, ()))
 else none
 else
 bif eqL n9 then
 some (((n9, o9, zR0, ()), (), ()), (u9, w9, x9, y9, z9, a10, ()))
 else none
 else none
 else none
 else
 bif eqL f9 then
 bif eqL o7 then
 Option.bind (p88_4 fu ((f9, h9, zR0, ()), (o, x, i7, o7, l9, m9, ()), ())) fun ⟨⟨⟨c10, f10, ⟨h10, ⟨i10, j10, _⟩, _⟩, _⟩, _, _⟩, ⟨k10, l10, m10, n10, o10, q10, _⟩⟩ =>
 bif h10 then
 bif eqL c10 then
 some (((c10, f10, (true, (i10, j10, ()), dflt .unit), ()), (), ()), (k10, l10, m10, n10, o10, q10, ()))
 else none
 else
 bif eqL c10 then
 some (((c10, f10, zR0, ()), (), ()), (k10, l10, m10, n10, o10, q10, ()))
 else none
 else none
 else none
 else none
 else none
 else
 bif eqL z6 then
 Option.bind (p67_2 fu ((z6, a7, zR0, ()), (262144 : Int), ())) fun ⟨⟨⟨s10, t10, ⟨u10, ⟨w10, x10, _⟩, _⟩, _⟩, _, _⟩, y10⟩ =>
 bif u10 then
 bif eqL s10 then
 Option.bind (p71_2 fu ((s10, t10, (true, (w10, x10, ()), dflt .unit), ()), ())) fun ⟨⟨⟨z10, a11, ⟨c11, ⟨f11, h11, _⟩, _⟩, _⟩, _, _⟩, ⟨i11, j11, _⟩⟩ =>
 bif c11 then
 bif eqL z10 then
 bif eqL y10 then
 Option.bind (p88_4 fu ((z10, a11, (true, (f11, h11, ()), dflt .unit), ()), (o, x, i7, y10, i11, j11, ()), ())) fun ⟨⟨⟨k11, l11, ⟨m11, ⟨n11, o11, _⟩, _⟩, _⟩, _, _⟩, ⟨q11, s11, t11, u11, w11, x11, _⟩⟩ =>
 bif m11 then
 bif eqL k11 then
 some (((k11, l11, (true, (n11, o11, ()), dflt .unit), ()), (), ()), (q11, s11, t11, u11, w11, x11, ()))
 else none
 else
 bif eqL k11 then
 some (((k11, l11, zR0, ()), (), ()), (q11, s11, t11, u11, w11, x11, ()))
 else none
 else none
 else none
 else
 bif eqL z10 then
 bif eqL y10 then
 Option.bind (p88_4 fu ((z10, a11, zR0, ()), (o, x, i7, y10, i11, j11, ()), ())) fun ⟨⟨⟨y11, z11, ⟨a12, ⟨c12, f12, _⟩, _⟩, _⟩, _, _⟩, ⟨h12, i12, j12, k12, l12, m12, _⟩⟩ =>
 bif a12 then
 bif eqL y11 then
 some (((y11, z11, (true, (c12, f12, ()), dflt .unit), ()), (), ()), (h12, i12, j12, k12, l12, m12, ()))
 else none
 else
 bif eqL y11 then
 some (((y11, z11, zR0, ()), (), ()), (h12, i12, j12, k12, l12, m12, ()))
 else none
 else none
 else none
 else none
 else
 bif eqL s10 then
 Option.bind (p71_2 fu ((s10, t10, zR0, ()), ())) fun ⟨⟨⟨n12, o12, ⟨q12, ⟨s12, t12, _⟩, _⟩, _⟩, _, _⟩, ⟨u12, w12, _⟩⟩ =>
 bif q12 then
 bif eqL n12 then
 bif eqL y10 then
 Option.bind (p88_4 fu ((n12, o12, (true, (s12, t12, ()), dflt .unit), ()), (o, x, i7, y10, u12, w12, ()), ())) fun ⟨⟨⟨x12, y12, ⟨z12, ⟨a13, c13, _⟩, _⟩, _⟩, _, _⟩, ⟨f13, h13, i13, j13, k13, l13, _⟩⟩ =>
 bif z12 then
 bif eqL x12 then
 some (((x12, y12, (true, (a13, c13, ()), dflt .unit), ()), (), ()), (f13, h13, i13, j13, k13, l13, ()))
 else none
 else
 bif eqL x12 then
 some (((x12, y12, zR0, ()), (), ()), (f13, h13, i13, j13, k13, l13, ()))
 else none
 else none
 else none
 else
 bif eqL n12 then
 bif eqL y10 then
 Option.bind (p88_4 fu ((n12, o12, zR0, ()), (o, x, i7, y10, u12, w12, ()), ())) fun ⟨⟨⟨m13, n13, ⟨o13, ⟨q13, s13, _⟩, _⟩, _⟩, _, _⟩, ⟨t13, u13, w13, x13, y13, z13, _⟩⟩ =>
 bif o13 then
 bif eqL m13 then
 some (((m13, n13, (true, (q13, s13, ()), dflt .unit), ()), (), ()), (t13, u13, w13, x13, y13, z13, ()))
 else none
 else
 bif eqL m13 then
 some (((m13, n13, zR0, ()), (), ()), (t13, u13, w13, x13, y13, z13, ()))
 else none
 else none
 else none
 else none
 else none
 else none
 else none
 else
 bif eqL j then
 Option.bind (p15_2 fu ((j, k, zR0, ()), ())) fun ⟨⟨⟨a14, c14, ⟨f14, ⟨h14, i14, _⟩, _⟩, _⟩, _, _⟩, j14⟩ =>
 bif f14 then
 bif eqL a14 then
 Option.bind (p89_2 fu ((a14, c14, (true, (h14, i14, ()), dflt .unit), ()), ())) fun ⟨⟨⟨k14, l14, ⟨m14, ⟨n14, o14, _⟩, _⟩, _⟩, _, _⟩, q14⟩ =>
 bif m14 then
 bif eqL k14 then
 Option.bind (p67_2 fu ((k14, l14, (true, (n14, o14, ()), dflt .unit), ()), (262144 : Int), ())) fun ⟨⟨⟨s14, t14, ⟨u14, ⟨w14, x14, _⟩, _⟩, _⟩, _, _⟩, y14⟩ =>
 bif u14 then
 bif eqL s14 then
 Option.bind (p71_2 fu ((s14, t14, (true, (w14, x14, ()), dflt .unit), ()), ())) fun ⟨⟨⟨z14, a15, ⟨c15, ⟨f15, h15, _⟩, _⟩, _⟩, _, _⟩, ⟨i15, j15, _⟩⟩ =>
 bif c15 then
 bif eqL z14 then
 bif eqL y14 then
 Option.bind (p88_4 fu ((z14, a15, (true, (f15, h15, ()), dflt .unit), ()), (o, j14, q14, y14, i15, j15, ()), ())) fun ⟨⟨⟨k15, l15, ⟨m15, ⟨n15, o15, _⟩, _⟩, _⟩, _, _⟩, ⟨q15, s15, t15, u15, w15, x15, _⟩⟩ =>
 bif m15 then
 bif eqL k15 then
 some (((k15, l15, (true, (n15, o15, ()), dflt .unit), ()), (), ()), (q15, s15, t15, u15, w15, x15, ()))
 else none
 else
 bif eqL k15 then
 some (((k15, l15, zR0, ()), (), ()), (q15, s15, t15, u15, w15, x15, ()))
 else none
 else none
 else none
 else
 bif eqL z14 then
 bif eqL y14 then
 Option.bind (p88_4 fu ((z14, a15, zR0, ()), (o, j14, q14, y14, i15, j15, ()), ())) fun ⟨⟨⟨y15, z15, ⟨a16, ⟨c16, f16, _⟩, _⟩, _⟩, _, _⟩, ⟨h16, i16, j16, k16, l16, m16, _⟩⟩ =>
 bif a16 then
 bif eqL y15 then
 some (((y15, z15, (true, (c16, f16, ()), dflt .unit), ()), (), ()), (h16, i16, j16, k16, l16, m16, ()))
 else none
 else
 bif eqL y15 then
 some (((y15, z15, zR0, ()), (), ()), (h16, i16, j16, k16, l16, m16, ()))
 else none
 else none
 else none
 else none
 else
 bif eqL s14 then
 Option.bind (p71_2 fu ((s14, t14, zR0, ()), ())) fun ⟨⟨⟨n16, o16, ⟨q16, ⟨s16, t16, _⟩, _⟩, _⟩, _, _⟩, ⟨u16, w16, _⟩⟩ =>
 bif q16 then
 bif eqL n16 then
 bif eqL y14 then
 Option.bind (p88_4 fu ((n16, o16, (true, (s16, t16, ()), dflt .unit), ()), (o, j14, q14, y14, u16, w16, ()), ())) fun ⟨⟨⟨x16, y16, ⟨z16, ⟨a17, c17, _⟩, _⟩, _⟩, _, _⟩, ⟨f17, h17, i17, j17, k17, l17, _⟩⟩ =>
 bif z16 then
 bif eqL x16 then
 some (((x16, y16, (true, (a17, c17, ()), dflt .unit), ()), (), ()), (f17, h17, i17, j17, k17, l17, ()))
 else none
 else
 bif eqL x16 then
 some (((x16, y16, zR0, ()), (), ()), (f17, h17, i17, j17, k17, l17, ()))
 else none
 else none
 else none
 else
 bif eqL n16 then
 bif eqL y14 then
 Option.bind (p88_4 fu ((n16, o16, zR0, ()), (o, j14, q14, y14, u16, w16, ()), ())) fun ⟨⟨⟨m17, n17, ⟨o17, ⟨q17, s17, _⟩, _⟩, _⟩, _, _⟩, ⟨t17, u17, w17, x17, y17, z17, _⟩⟩ =>
 bif o17 then
 bif eqL m17 then
 some (((m17, n17, (true, (q17, s17, ()), dflt .unit), ()), (), ()), (t17, u17, w17, x17, y17, z17, ()))
 else none
 else
 bif eqL m17 then
 some (((m17, n17, zR0, ()), (), ()), (t17, u17, w17, x17, y17, z17, ()))
 else none
 else none
 else none
 else none
 else none
 else
 bif eqL k14 then
 Option.bind (p67_2 fu ((k14, l14, zR0, ()), (262144 : Int), ())) fun ⟨⟨⟨a18, c18, ⟨f18, ⟨h18, i18, _⟩, _⟩, _⟩, _, _⟩, j18⟩ =>
 bif f18 then
 bif eqL a18 then
 Option.bind (p71_2 fu ((a18, c18, (true, (h18, i18, ()), dflt .unit), ()), ())) fun ⟨⟨⟨k18, l18, ⟨m18, ⟨n18, o18, _⟩, _⟩, _⟩, _, _⟩, ⟨q18, s18, _⟩⟩ =>
 bif m18 then
 bif eqL k18 then
 bif eqL j18 then
 Option.bind (p88_4 fu ((k18, l18, (true, (n18, o18, ()), dflt .unit), ()), (o, j14, q14, j18, q18, s18, ()), ())) fun ⟨⟨⟨t18, u18, ⟨w18, ⟨x18, y18, _⟩, _⟩, _⟩, _, _⟩, ⟨z18, a19, c19, f19, h19, i19, _⟩⟩ =>
 bif w18 then
 bif eqL t18 then
 some (((t18, u18, (true, (x18, y18, ()), dflt .unit), ()), (), ()), (z18, a19, c19, f19, h19, i19, ()))
 else none
 else
 bif eqL t18 then
 some (((t18, u18, zR0, ()), (), ()), (z18, a19, c19, f19, h19, i19, ()))
 else none
 else none
 else none
 else
 bif eqL k18 then
 bif eqL j18 then
 Option.bind (p88_4 fu ((k18, l18, zR0, ()), (o, j14, q14, j18, q18, s18, ()), ())) fun ⟨⟨⟨j19, k19, ⟨l19, ⟨m19, n19, _⟩, _⟩, _⟩, _, _⟩, ⟨o19, q19, s19, t19, u19, w19, _⟩⟩ =>
 bif l19 then
 bif eqL j19 then
 some (((j19, k19, (true, (m19, n19, ()), dflt .unit), ()), (), ()), (o19, q19, s19, t19, u19, w19, ()))
 else none
 else
 bif eqL j19 then
 some (((j19, k19, zR0, ()), (), ()), (o19, q19, s19, t19, u19, w19, ()))
 else none
 else none
 else none
 else none
 else
 bif eqL a18 then
 Option.bind (p71_2 fu ((a18, c18, zR0, ()), ())) fun ⟨⟨⟨x19, y19, ⟨z19, ⟨a20, c20, _⟩, _⟩, _⟩, _, _⟩, ⟨f20, h20, _⟩⟩ =>
 bif z19 then
 bif eqL x19 then
 bif eqL j18 then
 Option.bind (p88_4 fu ((x19, y19, (true, (a20, c20, ()), dflt .unit), ()), (o, j14, q14, j18, f20, h20, ()), ())) fun ⟨⟨⟨i20, j20, ⟨k20, ⟨l20, m20, _⟩, _⟩, _⟩, _, _⟩, ⟨n20, o20, q20, s20, t20, u20, _⟩⟩ =>
 bif k20 then
 bif eqL i20 then
 some (((i20, j20, (true, (l20, m20, ()), dflt .unit), ()), (), ()), (n20, o20, q20, s20, t20, u20, ()))
 else none
 else
 bif eqL i20 then
 some (((i20, j20, zR0, ()), (), ()), (n20, o20, q20, s20, t20, u20, ()))
 else none
 else none
 else none
 else
 bif eqL x19 then
 bif eqL j18 then
 Option.bind (p88_4 fu ((x19, y19, zR0, ()), (o, j14, q14, j18, f20, h20, ()), ())) fun ⟨⟨⟨w20, x20, ⟨y20, ⟨z20, a21, _⟩, _⟩, _⟩, _, _⟩, ⟨c21, f21, h21, i21, j21, k21, _⟩⟩ =>
 bif y20 then
 bif eqL w20 then
 some (((w20, x20, (true, (z20, a21, ()), dflt .unit), ()), (), ()), (c21, f21, h21, i21, j21, k21, ()))
 else none
 else
 bif eqL w20 then
 some (((w20, x20, zR0, ()), (), ()), (c21, f21, h21, i21, j21, k21, ()))
 else none
 else none
 else none
 else none
 else none
 else none
 else
 bif eqL a14 then
 Option.bind (p89_2 fu ((a14, c14, zR0, ()), ())) fun ⟨⟨⟨l21, m21, ⟨n21, ⟨o21, q21, _⟩, _⟩, _⟩, _, _⟩, s21⟩ =>
 bif n21 then
 bif eqL l21 then
 Option.bind (p67_2 fu ((l21, m21, (true, (o21, q21, ()), dflt .unit), ()), (262144 : Int), ())) fun ⟨⟨⟨t21, u21, ⟨w21, ⟨x21, y21, _⟩, _⟩, _⟩, _, _⟩, z21⟩ =>
 bif w21 then
 bif eqL t21 then
 Option.bind (p71_2 fu ((t21, u21, (true, (x21, y21, ()), dflt .unit), ()), ())) fun ⟨⟨⟨a22, c22, ⟨f22, ⟨h22, i22, _⟩, _⟩, _⟩, _, _⟩, ⟨j22, k22, _⟩⟩ =>
 bif f22 then
 bif eqL a22 then
 bif eqL z21 then
 Option.bind (p88_4 fu ((a22, c22, (true, (h22, i22, ()), dflt .unit), ()), (o, j14, s21, z21, j22, k22, ()), ())) fun ⟨⟨⟨l22, m22, ⟨n22, ⟨o22, q22, _⟩, _⟩, _⟩, _, _⟩, ⟨s22, t22, u22, w22, x22, y22, _⟩⟩ =>
 bif n22 then
 bif eqL l22 then
 some (((l22, m22, (true, (o22, q22, ()), dflt .unit), ()), (), ()), (s22, t22, u22, w22, x22, y22, ()))
 else none
 else
 bif eqL l22 then
 some (((l22, m22, zR0, ()), (), ()), (s22, t22, u22, w22, x22, y22, ()))
 else none
 else none
 else none
 else
 bif eqL a22 then
 bif eqL z21 then
 Option.bind (p88_4 fu ((a22, c22, zR0, ()), (o, j14, s21, z21, j22, k22, ()), ())) fun ⟨⟨⟨z22, a23, ⟨c23, ⟨f23, h23, _⟩, _⟩, _⟩, _, _⟩, ⟨i23, j23, k23, l23, m23, n23, _⟩⟩ =>
 bif c23 then
 bif eqL z22 then
 some (((z22, a23, (true, (f23, h23, ()), dflt .unit), ()), (), ()), (i23, j23, k23, l23, m23, n23, ()))
 else none
 else
 bif eqL z22 then
 some (((z22, a23, zR0, ()), (), ()), (i23, j23, k23, l23, m23, n23, ()))
 else none
 else none
 else none
 else none
 else
 bif eqL t21 then
 Option.bind (p71_2 fu ((t21, u21, zR0, ()), ())) fun ⟨⟨⟨o23, q23, ⟨s23, ⟨t23, u23, _⟩, _⟩, _⟩, _, _⟩, ⟨w23, x23, _⟩⟩ =>
 bif s23 then
 bif eqL o23 then
 bif eqL z21 then
 Option.bind (p88_4 fu ((o23, q23, (true, (t23, u23, ()), dflt .unit), ()), (o, j14, s21, z21, w23, x23, ()), ())) fun ⟨⟨⟨y23, z23, ⟨a24, ⟨c24, f24, _⟩, _⟩, _⟩, _, _⟩, ⟨h24, i24, j24, k24, l24, m24, _⟩⟩ =>
 bif a24 then
 bif eqL y23 then
 some (((y23, z23, (true, (c24, f24, ()), dflt .unit), ()), (), ()), (h24, i24, j24, k24, l24, m24, ()))
 else none
 else
 bif eqL y23 then
 some (((y23, z23, zR0, ()), (), ()), (h24, i24, j24, k24, l24, m24, ()))
 else none
 else none
 else none
 else
 bif eqL o23 then
 bif eqL z21 then
 Option.bind (p88_4 fu ((o23, q23, zR0, ()), (o, j14, s21, z21, w23, x23, ()), ())) fun ⟨⟨⟨n24, o24, ⟨q24, ⟨s24, t24, _⟩, _⟩, _⟩, _, _⟩, ⟨u24, w24, x24, y24, z24, a25, _⟩⟩ =>
 bif q24 then
 bif eqL n24 then
 some (((n24, o24, (true, (s24, t24, ()), dflt .unit), ()), (), ()), (u24, w24, x24, y24, z24, a25, ()))
 else none
 else
 bif eqL n24 then
 some (((n24, o24, zR0, ()), (), ()), (u24, w24, x24, y24, z24, a25, ()))
 else none
 else none
 else none
 else none
 else none
 else
 bif eqL l21 then
 Option.bind (p67_2 fu ((l21, m21, zR0, ()), (262144 : Int), ())) fun ⟨⟨⟨c25, f25, ⟨h25, ⟨i25, j25, _⟩, _⟩, _⟩, _, _⟩, k25⟩ =>
 bif h25 then
 bif eqL c25 then
 Option.bind (p71_2 fu ((c25, f25, (true, (i25, j25, ()), dflt .unit), ()), ())) fun ⟨⟨⟨l25, m25, ⟨n25, ⟨o25, q25, _⟩, _⟩, _⟩, _, _⟩, ⟨s25, t25, _⟩⟩ =>
 bif n25 then
 bif eqL l25 then
 bif eqL k25 then
 Option.bind (p88_4 fu ((l25, m25, (true, (o25, q25, ()), dflt .unit), ()), (o, j14, s21, k25, s25, t25, ()), ())) fun ⟨⟨⟨u25, w25, ⟨x25, ⟨y25, z25, _⟩, _⟩, _⟩, _, _⟩, ⟨a26, c26, f26, h26, i26, j26, _⟩⟩ =>
 bif x25 then
 bif eqL u25 then
 some (((u25, w25, (true, (y25, z25, ()), dflt .unit), ()), (), ()), (a26, c26, f26, h26, i26, j26, ()))
 else none
 else
 bif eqL u25 then
 some (((u25, w25, zR0, ()), (), ()), (a26, c26, f26, h26, i26, j26, ()))
 else none
 else none
 else none
 else
 bif eqL l25 then
 bif eqL k25 then
 Option.bind (p88_4 fu ((l25, m25, zR0, ()), (o, j14, s21, k25, s25, t25, ()), ())) fun ⟨⟨⟨k26, l26, ⟨m26, ⟨n26, o26, _⟩, _⟩, _⟩, _, _⟩, ⟨q26, s26, t26, u26, w26, x26, _⟩⟩ =>
 bif m26 then
 bif eqL k26 then
 some (((k26, l26, (true, (n26, o26, ()), dflt .unit), ()), (), ()), (q26, s26, t26, u26, w26, x26, ()))
 else none
 else
 bif eqL k26 then
 some (((k26, l26, zR0, ()), (), ()), (q26, s26, t26, u26, w26, x26, ()))
 else none
 else none
 else none
 else none
 else
 bif eqL c25 then
 Option.bind (p71_2 fu ((c25, f25, zR0, ()), ())) fun ⟨⟨⟨y26, z26, ⟨a27, ⟨c27, f27, _⟩, _⟩, _⟩, _, _⟩, ⟨h27, i27, _⟩⟩ =>
 bif a27 then
 bif eqL y26 then
 bif eqL k25 then
 Option.bind (p88_4 fu ((y26, z26, (true, (c27, f27, ()), dflt .unit), ()), (o, j14, s21, k25, h27, i27, ()), ())) fun ⟨⟨⟨j27, k27, ⟨l27, ⟨m27, n27, _⟩, _⟩, _⟩, _, _⟩, ⟨o27, q27, s27, t27, u27, w27, _⟩⟩ =>
 bif l27 then
 bif eqL j27 then
 some (((j27, k27, (true, (m27, n27, ()), dflt .unit), ()), (), ()), (o27, q27, s27, t27, u27, w27, ()))
 else none
 else
 bif eqL j27 then
 some (((j27, k27, zR0, ()), (), ()), (o27, q27, s27, t27, u27, w27, ()))
 else none
 else none
 else none
 else
 bif eqL y26 then
 bif eqL k25 then
 Option.bind (p88_4 fu ((y26, z26, zR0, ()), (o, j14, s21, k25, h27, i27, ()), ())) fun ⟨⟨⟨x27, y27, ⟨z27, ⟨a28, c28, _⟩, _⟩, _⟩, _, _⟩, ⟨f28, h28, i28, j28, k28, l28, _⟩⟩ =>
 bif z27 then
 bif eqL x27 then
 some (((x27, y27, (true, (a28, c28, ()), dflt .unit), ()), (), ()), (f28, h28, i28, j28, k28, l28, ()))
 else none
 else
 bif eqL x27 then
 some (((x27, y27, zR0, ()), (), ()), (f28, h28, i28, j28, k28, l28, ()))
 else none
 else none
 else none
 else none
 else none
 else none
 else none
 else none
else
 bif eqL a then
 Option.bind (p15_2 fu ((a, c, zR0, ()), ())) fun ⟨⟨⟨m28, n28, ⟨o28, ⟨q28, s28, _⟩, _⟩, _⟩, _, _⟩, t28⟩ =>
 bif o28 then
 bif eqL m28 then
 Option.bind (p15_2 fu ((m28, n28, (true, (q28, s28, ()), dflt .unit), ()), ())) fun ⟨⟨⟨u28, w28, ⟨x28, ⟨y28, z28, _⟩, _⟩, _⟩, _, _⟩, a29⟩ =>
 bif x28 then
 bif eqL u28 then
 Option.bind (p89_2 fu ((u28, w28, (true, (y28, z28, ()), dflt .unit), ()), ())) fun ⟨⟨⟨c29, f29, ⟨h29, ⟨i29, j29, _⟩, _⟩, _⟩, _, _⟩, k29⟩ =>
 bif h29 then
 bif eqL c29 then
 Option.bind (p67_2 fu ((c29, f29, (true, (i29, j29, ()), dflt .unit), ()), (262144 : Int), ())) fun ⟨⟨⟨l29, m29, ⟨n29, ⟨o29, q29, _⟩, _⟩, _⟩, _, _⟩, s29⟩ =>
 bif n29 then
 bif eqL l29 then
 Option.bind (p71_2 fu ((l29, m29, (true, (o29, q29, ()), dflt .unit), ()), ())) fun ⟨⟨⟨t29, u29, ⟨w29, ⟨x29, y29, _⟩, _⟩, _⟩, _, _⟩, ⟨z29, a30, _⟩⟩ =>
 bif w29 then
 bif eqL t29 then
 bif eqL s29 then
 Option.bind (p88_4 fu ((t29, u29, (true, (x29, y29, ()), dflt .unit), ()), (t28, a29, k29, s29, z29, a30, ()), ())) fun ⟨⟨⟨c30, f30, ⟨h30, ⟨i30, j30, _⟩, _⟩, _⟩, _, _⟩, ⟨k30, l30, m30, n30, o30, q30, _⟩⟩ =>
 bif h30 then
 bif eqL c30 then
 some (((c30, f30, (true, (i30, j30, ()), dflt .unit), ()), (), ()), (k30, l30, m30, n30, o30, q30, ()))
 else none
 else
 bif eqL c30 then
 some (((c30, f30, zR0, ()), (), ()), (k30, l30, m30, n30, o30, q30, ()))
 else none
 else none
 else none
 else
 bif eqL t29 then
 bif eqL s29 then
 Option.bind (p88_4 fu ((t29, u29, zR0, ()), (t28, a29, k29, s29, z29, a30, ()), ())) fun ⟨⟨⟨s30, t30, ⟨u30, ⟨w30, x30, _⟩, _⟩, _⟩, _, _⟩, ⟨y30, z30, a31, c31, f31, h31, _⟩⟩ =>
 bif u30 then
 bif eqL s30 then
 some (((s30, t30, (true, (w30, x30, ()), dflt .unit), ()), (), ()), (y30, z30, a31, c31, f31, h31, ()))
 else none
 else
 bif eqL s30 then
 some (((s30, t30, zR0, ()), (), ()), (y30, z30, a31, c31, f31, h31, ()))
 else none
 else none
 else none
 else none
 else
 bif eqL l29 then
 Option.bind (p71_2 fu ((l29, m29, zR0, ()), ())) fun ⟨⟨⟨i31, j31, ⟨k31, ⟨l31, m31, _⟩, _⟩, _⟩, _, _⟩, ⟨n31, o31, _⟩⟩ =>
 bif k31 then
 bif eqL i31 then
 bif eqL s29 then
 Option.bind (p88_4 fu ((i31, j31, (true, (l31, m31, ()), dflt .unit), ()), (t28, a29, k29, s29, n31, o31, ()), ())) fun ⟨⟨⟨q31, s31, ⟨t31, ⟨u31, w31, _⟩, _⟩, _⟩, _, _⟩, ⟨x31, y31, z31, a32, c32, f32, _⟩⟩ =>
 bif t31 then
 bif eqL q31 then
 some (((q31, s31, (true, (u31, w31, ()), dflt .unit), ()), (), ()), (x31, y31, z31, a32, c32, f32, ()))
 else none
 else
 bif eqL q31 then
 some (((q31, s31, zR0, ()), (), ()), (x31, y31, z31, a32, c32, f32, ()))
 else none
 else none
 else none
 else
 bif eqL i31 then
 bif eqL s29 then
 Option.bind (p88_4 fu ((i31, j31, zR0, ()), (t28, a29, k29, s29, n31, o31, ()), ())) fun ⟨⟨⟨h32, i32, ⟨j32, ⟨k32, l32, _⟩, _⟩, _⟩, _, _⟩, ⟨m32, n32, o32, q32, s32, t32, _⟩⟩ =>
 bif j32 then
 bif eqL h32 then
 some (((h32, i32, (true, (k32, l32, ()), dflt .unit), ()), (), ()), (m32, n32, o32, q32, s32, t32, ()))
 else none
 else
 bif eqL h32 then
 some (((h32, i32, zR0, ()), (), ()), (m32, n32, o32, q32, s32, t32, ()))
 else none
 else none
 else none
 else none
 else none
 else
 bif eqL c29 then
 Option.bind (p67_2 fu ((c29, f29, zR0, ()), (262144 : Int), ())) fun ⟨⟨⟨u32, w32, ⟨x32, ⟨y32, z32, _⟩, _⟩, _⟩, _, _⟩, a33⟩ =>
 bif x32 then
 bif eqL u32 then
 Option.bind (p71_2 fu ((u32, w32, (true, (y32, z32, ()), dflt .unit), ()), ())) fun ⟨⟨⟨c33, f33, ⟨h33, ⟨i33, j33, _⟩, _⟩, _⟩, _, _⟩, ⟨k33, l33, _⟩⟩ =>
 bif h33 then
 bif eqL c33 then
 bif eqL a33 then
 Option.bind (p88_4 fu ((c33, f33, (true, (i33, j33, ()), dflt .unit), ()), (t28, a29, k29, a33, k33, l33, ()), ())) fun ⟨⟨⟨m33, n33, ⟨o33, ⟨q33, s33, _⟩, _⟩, _⟩, _, _⟩, ⟨t33, u33, w33, x33, y33, z33, _⟩⟩ =>
 bif o33 then
 bif eqL m33 then
 some (((m33, n33, (true, (q33, s33, ()), dflt .unit), ()), (), ()), (t33, u33, w33, x33, y33, z33, ()))
 else none
 else
 bif eqL m33 then
 some (((m33, n33, zR0, ()), (), ()), (t33, u33, w33, x33, y33, z33, ()))
 else none
 else none
 else none
 else
 bif eqL c33 then
 bif eqL a33 then
 Option.bind (p88_4 fu ((c33, f33, zR0, ()), (t28, a29, k29, a33, k33, l33, ()), ())) fun ⟨⟨⟨a34, c34, ⟨f34, ⟨h34, i34, _⟩, _⟩, _⟩, _, _⟩, ⟨j34, k34, l34, m34, n34, o34, _⟩⟩ =>
 bif f34 then
 bif eqL a34 then
 some (((a34, c34, (true, (h34, i34, ()), dflt .unit), ()), (), ()), (j34, k34, l34, m34, n34, o34, ()))
 else none
 else
 bif eqL a34 then
 some (((a34, c34, zR0, ()), (), ()), (j34, k34, l34, m34, n34, o34, ()))
 else none
 else none
 else none
 else none
 else
 bif eqL u32 then
 Option.bind (p71_2 fu ((u32, w32, zR0, ()), ())) fun ⟨⟨⟨q34, s34, ⟨t34, ⟨u34, w34, _⟩, _⟩, _⟩, _, _⟩, ⟨x34, y34, _⟩⟩ =>
 bif t34 then
 bif eqL q34 then
 bif eqL a33 then
 Option.bind (p88_4 fu ((q34, s34, (true, (u34, w34, ()), dflt .unit), ()), (t28, a29, k29, a33, x34, y34, ()), ())) fun ⟨⟨⟨z34, a35, ⟨c35, ⟨f35, h35, _⟩, _⟩, _⟩, _, _⟩, ⟨i35, j35, k35, l35, m35, n35, _⟩⟩ =>
 bif c35 then
 bif eqL z34 then
 some (((z34, a35, (true, (f35, h35, ()), dflt .unit), ()), (), ()), (i35, j35, k35, l35, m35, n35, ()))
 else none
 else
 bif eqL z34 then
 some (((z34, a35, zR0, ()), (), ()), (i35, j35, k35, l35, m35, n35, ()))
 else none
 else none
 else none
 else
 bif eqL q34 then
 bif eqL a33 then
 Option.bind (p88_4 fu ((q34, s34, zR0, ()), (t28, a29, k29, a33, x34, y34, ()), ())) fun ⟨⟨⟨o35, q35, ⟨s35, ⟨t35, u35, _⟩, _⟩, _⟩, _, _⟩, ⟨w35, x35, y35, z35, a36, c36, _⟩⟩ =>
 bif s35 then
 bif eqL o35 then
 some (((o35, q35, (true, (t35, u35, ()), dflt .unit), ()), (), ()), (w35, x35, y35, z35, a36, c36, ()))
 else none
 else
 bif eqL o35 then
 some (((o35, q35, zR0, ()), (), ()), (w35, x35, y35, z35, a36, c36, ()))
 else none
 else none
 else none
 else none
 else none
 else none
 else
 bif eqL u28 then
 Option.bind (p89_2 fu ((u28, w28, zR0, ()), ())) fun ⟨⟨⟨f36, h36, ⟨i36, ⟨j36, k36, _⟩, _⟩, _⟩, _, _⟩, l36⟩ =>
 bif i36 then
 bif eqL f36 then
 Option.bind (p67_2 fu ((f36, h36, (true, (j36, k36, ()), dflt .unit), ()), (262144 : Int), ())) fun ⟨⟨⟨m36, n36, ⟨o36, ⟨q36, s36, _⟩, _⟩, _⟩, _, _⟩, t36⟩ =>
 bif o36 then
 bif eqL m36 then
 Option.bind (p71_2 fu ((m36, n36, (true, (q36, s36, ()), dflt .unit), ()), ())) fun ⟨⟨⟨u36, w36, ⟨x36, ⟨y36, z36, _⟩, _⟩, _⟩, _, _⟩, ⟨a37, c37, _⟩⟩ =>
 bif x36 then
 bif eqL u36 then
 bif eqL t36 then
 Option.bind (p88_4 fu ((u36, w36, (true, (y36, z36, ()), dflt .unit), ()), (t28, a29, l36, t36, a37, c37, ()), ())) fun ⟨⟨⟨f37, h37, ⟨i37, ⟨j37, k37, _⟩, _⟩, _⟩, _, _⟩, ⟨l37, m37, n37, o37, q37, s37, _⟩⟩ =>
 bif i37 then
 bif eqL f37 then
 some (((f37, h37, (true, (j37, k37, ()), dflt .unit), ()), (), ()), (l37, m37, n37, o37, q37, s37, ()))
 else none
 else
 bif eqL f37 then
 some (((f37, h37, zR0, ()), (), ()), (l37, m37, n37, o37, q37, s37, ()))
 else none
 else none
 else none
 else
 bif eqL u36 then
 bif eqL t36 then
 Option.bind (p88_4 fu ((u36, w36, zR0, ()), (t28, a29, l36, t36, a37, c37, ()), ())) fun ⟨⟨⟨t37, u37, ⟨w37, ⟨x37, y37, _⟩, _⟩, _⟩, _, _⟩, ⟨z37, a38, c38, f38, h38, i38, _⟩⟩ =>
 bif w37 then
 bif eqL t37 then
 some (((t37, u37, (true, (x37, y37, ()), dflt .unit), ()), (), ()), (z37, a38, c38, f38, h38, i38, ()))
 else none
 else
 bif eqL t37 then
 some (((t37, u37, zR0, ()), (), ()), (z37, a38, c38, f38, h38, i38, ()))
 else none
 else none
 else none
 else none
 else
 bif eqL m36 then
 Option.bind (p71_2 fu ((m36, n36, zR0, ()), ())) fun ⟨⟨⟨j38, k38, ⟨l38, ⟨m38, n38, _⟩, _⟩, _⟩, _, _⟩, ⟨o38, q38, _⟩⟩ =>
 bif l38 then
 bif eqL j38 then
 bif eqL t36 then
 Option.bind (p88_4 fu ((j38, k38, (true, (m38, n38, ()), dflt .unit), ()), (t28, a29, l36, t36, o38, q38, ()), ())) fun ⟨⟨⟨s38, t38, ⟨u38, ⟨w38, x38, _⟩, _⟩, _⟩, _, _⟩, ⟨y38, z38, a39, c39, f39, h39, _⟩⟩ =>
 bif u38 then
 bif eqL s38 then
 some (((s38, t38, (true, (w38, x38, ()), dflt .unit), ()), (), ()), (y38, z38, a39, c39, f39, h39, ()))
 else none
 else
 bif eqL s38 then
 some (((s38, t38, zR0, ()), (), ()), (y38, z38, a39, c39, f39, h39, ()))
 else none
 else none
 else none
 else
 bif eqL j38 then
 bif eqL t36 then
 Option.bind (p88_4 fu ((j38, k38, zR0, ()), (t28, a29, l36, t36, o38, q38, ()), ())) fun ⟨⟨⟨i39, j39, ⟨k39, ⟨l39, m39, _⟩, _⟩, _⟩, _, _⟩, ⟨n39, o39, q39, s39, t39, u39, _⟩⟩ =>
 bif k39 then
 bif eqL i39 then
 some (((i39, j39, (true, (l39, m39, ()), dflt .unit), ()), (), ()), (n39, o39, q39, s39, t39, u39, ()))
 else none
 else
 bif eqL i39 then
 some (((i39, j39, zR0, ()), (), ()), (n39, o39, q39, s39, t39, u39, ()))
 else none
 else none
 else none
 else none
 else none
 else
 bif eqL f36 then
 Option.bind (p67_2 fu ((f36, h36, zR0, ()), (262144 : Int), ())) fun ⟨⟨⟨w39, x39, ⟨y39, ⟨z39, a40, _⟩, _⟩, _⟩, _, _⟩, c40⟩ =>
 bif y39 then
 bif eqL w39 then
 Option.bind (p71_2 fu ((w39, x39, (true, (z39, a40, ()), dflt .unit), ()), ())) fun ⟨⟨⟨f40, h40, ⟨i40, ⟨j40, k40, _⟩, _⟩, _⟩, _, _⟩, ⟨l40, m40, _⟩⟩ =>
 bif i40 then
 bif eqL f40 then
 bif eqL c40 then
 Option.bind (p88_4 fu ((f40, h40, (true, (j40, k40, ()), dflt .unit), ()), (t28, a29, l36, c40, l40, m40, ()), ())) fun ⟨⟨⟨n40, o40, ⟨q40, ⟨s40, t40, _⟩, _⟩, _⟩, _, _⟩, ⟨u40, w40, x40, y40, z40, a41, _⟩⟩ =>
 bif q40 then
 bif eqL n40 then
 some (((n40, o40, (true, (s40, t40, ()), dflt .unit), ()), (), ()), (u40, w40, x40, y40, z40, a41, ()))
 else none
 else
 bif eqL n40 then
 some (((n40, o40, zR0, ()), (), ()), (u40, w40, x40, y40, z40, a41, ()))
 else none
 else none
 else none
 else
 bif eqL f40 then
 bif eqL c40 then
 Option.bind (p88_4 fu ((f40, h40, zR0, ()), (t28, a29, l36, c40, l40, m40, ()), ())) fun ⟨⟨⟨c41, f41, ⟨h41, ⟨i41, j41, _⟩, _⟩, _⟩, _, _⟩, ⟨k41, l41, m41, n41, o41, q41, _⟩⟩ =>
 bif h41 then
 bif eqL c41 then
 some (((c41, f41, (true, (i41, j41, ()), dflt .unit), ()), (), ()), (k41, l41, m41, n41, o41, q41, ()))
 else none
 else
 bif eqL c41 then
 some (((c41, f41, zR0, ()), (), ()), (k41, l41, m41, n41, o41, q41, ()))
 else none
 else none
 else none
 else none
 else
 bif eqL w39 then
 Option.bind (p71_2 fu ((w39, x39, zR0, ()), ())) fun ⟨⟨⟨s41, t41, ⟨u41, ⟨w41, x41, _⟩, _⟩, _⟩, _, _⟩, ⟨y41, z41, _⟩⟩ =>
 bif u41 then
 bif eqL s41 then
 bif eqL c40 then
 Option.bind (p88_4 fu ((s41, t41, (true, (w41, x41, ()), dflt .unit), ()), (t28, a29, l36, c40, y41, z41, ()), ())) fun ⟨⟨⟨a42, c42, ⟨f42, ⟨h42, i42, _⟩, _⟩, _⟩, _, _⟩, ⟨j42, k42, l42, m42, n42, o42, _⟩⟩ =>
 bif f42 then
 bif eqL a42 then
 some (((a42, c42, (true, (h42, i42, ()), dflt .unit), ()), (), ()), (j42, k42, l42, m42, n42, o42, ()))
 else none
 else
 bif eqL a42 then
 some (((a42, c42, zR0, ()), (), ()), (j42, k42, l42, m42, n42, o42, ()))
 else none
 else none
 else none
 else
 bif eqL s41 then
 bif eqL c40 then
 Option.bind (p88_4 fu ((s41, t41, zR0, ()), (t28, a29, l36, c40, y41, z41, ()), ())) fun ⟨⟨⟨q42, s42, ⟨t42, ⟨u42, w42, _⟩, _⟩, _⟩, _, _⟩, ⟨x42, y42, z42, a43, c43, f43, _⟩⟩ =>
 bif t42 then
 bif eqL q42 then
 some (((q42, s42, (true, (u42, w42, ()), dflt .unit), ()), (), ()), (x42, y42, z42, a43, c43, f43, ()))
 else none
 else
 bif eqL q42 then
 some (((q42, s42, zR0, ()), (), ()), (x42, y42, z42, a43, c43, f43, ()))
 else none
 else none
 else none
 else none
 else none
 else none
 else none
 else
 bif eqL m28 then
 Option.bind (p15_2 fu ((m28, n28, zR0, ()), ())) fun ⟨⟨⟨h43, i43, ⟨j43, ⟨k43, l43, _⟩, _⟩, _⟩, _, _⟩, m43⟩ =>
 bif j43 then
 bif eqL h43 then
 Option.bind (p89_2 fu ((h43, i43, (true, (k43, l43, ()), dflt .unit), ()), ())) fun ⟨⟨⟨n43, o43, ⟨q43, ⟨s43, t43, _⟩, _⟩, _⟩, _, _⟩, u43⟩ =>
 bif q43 then
 bif eqL n43 then
 Option.bind (p67_2 fu ((n43, o43, (true, (s43, t43, ()), dflt .unit), ()), (262144 : Int), ())) fun ⟨⟨⟨w43, x43, ⟨y43, ⟨z43, a44, _⟩, _⟩, _⟩, _, _⟩, c44⟩ =>
 bif y43 then
 bif eqL w43 then
 Option.bind (p71_2 fu ((w43, x43, (true, (z43, a44, ()), dflt .unit), ()), ())) fun ⟨⟨⟨f44, h44, ⟨i44, ⟨j44, k44, _⟩, _⟩, _⟩, _, _⟩, ⟨l44, m44, _⟩⟩ =>
 bif i44 then
 bif eqL f44 then
 bif eqL c44 then
 Option.bind (p88_4 fu ((f44, h44, (true, (j44, k44, ()), dflt .unit), ()), (t28, m43, u43, c44, l44, m44, ()), ())) fun ⟨⟨⟨n44, o44, ⟨q44, ⟨s44, t44, _⟩, _⟩, _⟩, _, _⟩, ⟨u44, w44, x44, y44, z44, a45, _⟩⟩ =>
 bif q44 then
 bif eqL n44 then
 some (((n44, o44, (true, (s44, t44, ()), dflt .unit), ()), (), ()), (u44, w44, x44, y44, z44, a45, ()))
 else none
 else
 bif eqL n44 then
 some (((n44, o44, zR0, ()), (), ()), (u44, w44, x44, y44, z44, a45, ()))
 else none
 else none
 else none
 else
 bif eqL f44 then
 bif eqL c44 then
 Option.bind (p88_4 fu ((f44, h44, zR0, ()), (t28, m43, u43, c44, l44, m44, ()), ())) fun ⟨⟨⟨c45, f45, ⟨h45, ⟨i45, j45, _⟩, _⟩, _⟩, _, _⟩, ⟨k45, l45, m45, n45, o45, q45, _⟩⟩ =>
 bif h45 then
 bif eqL c45 then
 some (((c45, f45, (true, (i45, j45, ()), dflt .unit), ()), (), ()), (k45, l45, m45, n45, o45, q45, ()))
 else none
 else
 bif eqL c45 then
 some (((c45, f45, zR0, ()), (), ()), (k45, l45, m45, n45, o45, q45, ()))
 else none
 else none
 else none
 else none
 else
 bif eqL w43 then
 Option.bind (p71_2 fu ((w43, x43, zR0, ()), ())) fun ⟨⟨⟨s45, t45, ⟨u45, ⟨w45, x45, _⟩, _⟩, _⟩, _, _⟩, ⟨y45, z45, _⟩⟩ =>
 bif u45 then
 bif eqL s45 then
 bif eqL c44 then
 Option.bind (p88_4 fu ((s45, t45, (true, (w45, x45, ()), dflt .unit), ()), (t28, m43, u43, c44, y45, z45, ()), ())) fun ⟨⟨⟨a46, c46, ⟨f46, ⟨h46, i46, _⟩, _⟩, _⟩, _, _⟩, ⟨j46, k46, l46, m46, n46, o46, _⟩⟩ =>
 bif f46 then
 bif eqL a46 then
 some (((a46, c46, (true, (h46, i46, ()), dflt .unit), ()), (), ()), (j46, k46, l46, m46, n46, o46, ()))
 else none
 else
 bif eqL a46 then
 some (((a46, c46, zR0, ()), (), ()), (j46, k46, l46, m46, n46, o46, ()))
 else none
 else none
 else none
 else
 bif eqL s45 then
 bif eqL c44 then
 Option.bind (p88_4 fu ((s45, t45, zR0, ()), (t28, m43, u43, c44, y45, z45, ()), ())) fun ⟨⟨⟨q46, s46, ⟨t46, ⟨u46, w46, _⟩, _⟩, _⟩, _, _⟩, ⟨x46, y46, z46, a47, c47, f47, _⟩⟩ =>
 bif t46 then
 bif eqL q46 then
 some (((q46, s46, (true, (u46, w46, ()), dflt .unit), ()), (), ()), (x46, y46, z46, a47, c47, f47, ()))
 else none
 else
 bif eqL q46 then
 some (((q46, s46, zR0, ()), (), ()), (x46, y46, z46, a47, c47, f47, ()))
 else none
 else none
 else none
 else none
 else none
 else
 bif eqL n43 then
 Option.bind (p67_2 fu ((n43, o43, zR0, ()), (262144 : Int), ())) fun ⟨⟨⟨h47, i47, ⟨j47, ⟨k47, l47, _⟩, _⟩, _⟩, _, _⟩, m47⟩ =>
 bif j47 then
 bif eqL h47 then
 Option.bind (p71_2 fu ((h47, i47, (true, (k47, l47, ()), dflt .unit), ()), ())) fun ⟨⟨⟨n47, o47, ⟨q47, ⟨s47, t47, _⟩, _⟩, _⟩, _, _⟩, ⟨u47, w47, _⟩⟩ =>
 bif q47 then
 bif eqL n47 then
 bif eqL m47 then
 Option.bind (p88_4 fu ((n47, o47, (true, (s47, t47, ()), dflt .unit), ()), (t28, m43, u43, m47, u47, w47, ()), ())) fun ⟨⟨⟨x47, y47, ⟨z47, ⟨a48, c48, _⟩, _⟩, _⟩, _, _⟩, ⟨f48, h48, i48, j48, k48, l48, _⟩⟩ =>
 bif z47 then
 bif eqL x47 then
 some (((x47, y47, (true, (a48, c48, ()), dflt .unit), ()), (), ()), (f48, h48, i48, j48, k48, l48, ()))
 else none
 else
 bif eqL x47 then
 some (((x47, y47, zR0, ()), (), ()), (f48, h48, i48, j48, k48, l48, ()))
 else none
 else none
 else none
 else
 bif eqL n47 then
 bif eqL m47 then
 Option.bind (p88_4 fu ((n47, o47, zR0, ()), (t28, m43, u43, m47, u47, w47, ()), ())) fun ⟨⟨⟨m48, n48, ⟨o48, ⟨q48, s48, _⟩, _⟩, _⟩, _, _⟩, ⟨t48, u48, w48, x48, y48, z48, _⟩⟩ =>
 bif o48 then
 bif eqL m48 then
 some (((m48, n48, (true, (q48, s48, ()), dflt .unit), ()), (), ()), (t48, u48, w48, x48, y48, z48, ()))
 else none
 else
 bif eqL m48 then
 some (((m48, n48, zR0, ()), (), ()), (t48, u48, w48, x48, y48, z48, ()))
 else none
 else none
 else none
 else none
 else
 bif eqL h47 then
 Option.bind (p71_2 fu ((h47, i47, zR0, ()), ())) fun ⟨⟨⟨a49, c49, ⟨f49, ⟨h49, i49, _⟩, _⟩, _⟩, _, _⟩, ⟨j49, k49, _⟩⟩ =>
 bif f49 then
 bif eqL a49 then
 bif eqL m47 then
 Option.bind (p88_4 fu ((a49, c49, (true, (h49, i49, ()), dflt .unit), ()), (t28, m43, u43, m47, j49, k49, ()), ())) fun ⟨⟨⟨l49, m49, ⟨n49, ⟨o49, q49, _⟩, _⟩, _⟩, _, _⟩, ⟨s49, t49, u49, w49, x49, y49, _⟩⟩ =>
 bif n49 then
 bif eqL l49 then
 some (((l49, m49, (true, (o49, q49, ()), dflt .unit), ()), (), ()), (s49, t49, u49, w49, x49, y49, ()))
 else none
 else
 bif eqL l49 then
 some (((l49, m49, zR0, ()), (), ()), (s49, t49, u49, w49, x49, y49, ()))
 else none
 else none
 else none
 else
 bif eqL a49 then
 bif eqL m47 then
 Option.bind (p88_4 fu ((a49, c49, zR0, ()), (t28, m43, u43, m47, j49, k49, ()), ())) fun ⟨⟨⟨z49, a50, ⟨c50, ⟨f50, h50, _⟩, _⟩, _⟩, _, _⟩, ⟨i50, j50, k50, l50, m50, n50, _⟩⟩ =>
 bif c50 then
 bif eqL z49 then
 some (((z49, a50, (true, (f50, h50, ()), dflt .unit), ()), (), ()), (i50, j50, k50, l50, m50, n50, ()))
 else none
 else
 bif eqL z49 then
 some (((z49, a50, zR0, ()), (), ()), (i50, j50, k50, l50, m50, n50, ()))
 else none
 else none
 else none
 else none
 else none
 else none
 else
 bif eqL h43 then
 Option.bind (p89_2 fu ((h43, i43, zR0, ()), ())) fun ⟨⟨⟨o50, q50, ⟨s50, ⟨t50, u50, _⟩, _⟩, _⟩, _, _⟩, w50⟩ =>
 bif s50 then
 bif eqL o50 then
 Option.bind (p67_2 fu ((o50, q50, (true, (t50, u50, ()), dflt .unit), ()), (262144 : Int), ())) fun ⟨⟨⟨x50, y50, ⟨z50, ⟨a51, c51, _⟩, _⟩, _⟩, _, _⟩, f51⟩ =>
 bif z50 then
 bif eqL x50 then
 Option.bind (p71_2 fu ((x50, y50, (true, (a51, c51, ()), dflt .unit), ()), ())) fun ⟨⟨⟨h51, i51, ⟨j51, ⟨k51, l51, _⟩, _⟩, _⟩, _, _⟩, ⟨m51, n51, _⟩⟩ =>
 bif j51 then
 bif eqL h51 then
 bif eqL f51 then
 Option.bind (p88_4 fu ((h51, i51, (true, (k51, l51, ()), dflt .unit), ()), (t28, m43, w50, f51, m51, n51, ()), ())) fun ⟨⟨⟨o51, q51, ⟨s51, ⟨t51, u51, _⟩, _⟩, _⟩, _, _⟩, ⟨w51, x51, y51, z51, a52, c52, _⟩⟩ =>
 bif s51 then
 bif eqL o51 then
 some (((o51, q51, (true, (t51, u51, ()), dflt .unit), ()), (), ()), (w51, x51, y51, z51, a52, c52, ()))
 else none
 else
 bif eqL o51 then
 some (((o51, q51, zR0, ()), (), ()), (w51, x51, y51, z51, a52, c52, ()))
 else none
 else none
 else none
 else
 bif eqL h51 then
 bif eqL f51 then
 Option.bind (p88_4 fu ((h51, i51, zR0, ()), (t28, m43, w50, f51, m51, n51, ()), ())) fun ⟨⟨⟨f52, h52, ⟨i52, ⟨j52, k52, _⟩, _⟩, _⟩, _, _⟩, ⟨l52, m52, n52, o52, q52, s52, _⟩⟩ =>
 bif i52 then
 bif eqL f52 then
 some (((f52, h52, (true, (j52, k52, ()), dflt .unit), ()), (), ()), (l52, m52, n52, o52, q52, s52, ()))
 else none
 else
 bif eqL f52 then
 some (((f52, h52, zR0, ()), (), ()), (l52, m52, n52, o52, q52, s52, ()))
 else none
 else none
 else none
 else none
 else
 bif eqL x50 then
 Option.bind (p71_2 fu ((x50, y50, zR0, ()), ())) fun ⟨⟨⟨t52, u52, ⟨w52, ⟨x52, y52, _⟩, _⟩, _⟩, _, _⟩, ⟨z52, a53, _⟩⟩ =>
 bif w52 then
 bif eqL t52 then
 bif eqL f51 then
 Option.bind (p88_4 fu ((t52, u52, (true, (x52, y52, ()), dflt .unit), ()), (t28, m43, w50, f51, z52, a53, ()), ())) fun ⟨⟨⟨c53, f53, ⟨h53, ⟨i53, j53, _⟩, _⟩, _⟩, _, _⟩, ⟨k53, l53, m53, n53, o53, q53, _⟩⟩ =>
 bif h53 then
 bif eqL c53 then
 some (((c53, f53, (true, (i53, j53, ()), dflt .unit), ()), (), ()), (k53, l53, m53, n53, o53, q53, ()))
 else none
 else
 bif eqL c53 then
 some (((c53, f53, zR0, ()), (), ()), (k53, l53, m53, n53, o53, q53, ()))
 else none
 else none
 else none
 else
 bif eqL t52 then
 bif eqL f51 then
 Option.bind (p88_4 fu ((t52, u52, zR0, ()), (t28, m43, w50, f51, z52, a53, ()), ())) fun ⟨⟨⟨s53, t53, ⟨u53, ⟨w53, x53, _⟩, _⟩, _⟩, _, _⟩, ⟨y53, z53, a54, c54, f54, h54, _⟩⟩ =>
 bif u53 then
 bif eqL s53 then
 some (((s53, t53, (true, (w53, x53, ()), dflt .unit), ()), (), ()), (y53, z53, a54, c54, f54, h54, ()))
 else none
 else
 bif eqL s53 then
 some (((s53, t53, zR0, ()), (), ()), (y53, z53, a54, c54, f54, h54, ()))
 else none
 else none
 else none
 else none
 else none
 else
 bif eqL o50 then
 Option.bind (p67_2 fu ((o50, q50, zR0, ()), (262144 : Int), ())) fun ⟨⟨⟨i54, j54, ⟨k54, ⟨l54, m54, _⟩, _⟩, _⟩, _, _⟩, n54⟩ =>
 bif k54 then
 bif eqL i54 then
 Option.bind (p71_2 fu ((i54, j54, (true, (l54, m54, ()), dflt .unit), ()), ())) fun ⟨⟨⟨o54, q54, ⟨s54, ⟨t54, u54, _⟩, _⟩, _⟩, _, _⟩, ⟨w54, x54, _⟩⟩ =>
 bif s54 then
 bif eqL o54 then
 bif eqL n54 then
 Option.bind (p88_4 fu ((o54, q54, (true, (t54, u54, ()), dflt .unit), ()), (t28, m43, w50, n54, w54, x54, ()), ())) fun ⟨⟨⟨y54, z54, ⟨a55, ⟨c55, f55, _⟩, _⟩, _⟩, _, _⟩, ⟨h55, i55, j55, k55, l55, m55, _⟩⟩ =>
 bif a55 then
 bif eqL y54 then
 some (((y54, z54, (true, (c55, f55, ()), dflt .unit), ()), (), ()), (h55, i55, j55, k55, l55, m55, ()))
 else none
 else
 bif eqL y54 then
 some (((y54, z54, zR0, ()), (), ()), (h55, i55, j55, k55, l55, m55, ()))
 else none
 else none
 else none
 else
 bif eqL o54 then
 bif eqL n54 then
 Option.bind (p88_4 fu ((o54, q54, zR0, ()), (t28, m43, w50, n54, w54, x54, ()), ())) fun ⟨⟨⟨n55, o55, ⟨q55, ⟨s55, t55, _⟩, _⟩, _⟩, _, _⟩, ⟨u55, w55, x55, y55, z55, a56, _⟩⟩ =>
 bif q55 then
 bif eqL n55 then
 some (((n55, o55, (true, (s55, t55, ()), dflt .unit), ()), (), ()), (u55, w55, x55, y55, z55, a56, ()))
 else none
 else
 bif eqL n55 then
 some (((n55, o55, zR0, ()), (), ()), (u55, w55, x55, y55, z55, a56, ()))
 else none
 else none
 else none
 else none
 else
 bif eqL i54 then
 Option.bind (p71_2 fu ((i54, j54, zR0, ()), ())) fun ⟨⟨⟨c56, f56, ⟨h56, ⟨i56, j56, _⟩, _⟩, _⟩, _, _⟩, ⟨k56, l56, _⟩⟩ =>
 bif h56 then
 bif eqL c56 then
 bif eqL n54 then
 Option.bind (p88_4 fu ((c56, f56, (true, (i56, j56, ()), dflt .unit), ()), (t28, m43, w50, n54, k56, l56, ()), ())) fun ⟨⟨⟨m56, n56, ⟨o56, ⟨q56, s56, _⟩, _⟩, _⟩, _, _⟩, ⟨t56, u56, w56, x56, y56, z56, _⟩⟩ =>
 bif o56 then
 bif eqL m56 then
 some (((m56, n56, (true, (q56, s56, ()), dflt .unit), ()), (), ()), (t56, u56, w56, x56, y56, z56, ()))
 else none
 else
 bif eqL m56 then
 some (((m56, n56, zR0, ()), (), ()), (t56, u56, w56, x56, y56, z56, ()))
 else none
 else none
 else none
 else
 bif eqL c56 then
 bif eqL n54 then
 Option.bind (p88_4 fu ((c56, f56, zR0, ()), (t28, m43, w50, n54, k56, l56, ()), ())) fun ⟨⟨⟨a57, c57, ⟨f57, ⟨h57, i57, _⟩, _⟩, _⟩, _, _⟩, ⟨j57, k57, l57, m57, n57, o57, _⟩⟩ =>
 bif f57 then
 bif eqL a57 then
 some (((a57, c57, (true, (h57, i57, ()), dflt .unit), ()), (), ()), (j57, k57, l57, m57, n57, o57, ()))
 else none
 else
 bif eqL a57 then
 some (((a57, c57, zR0, ()), (), ()), (j57, k57, l57, m57, n57, o57, ()))
 else none
 else none
 else none
 else none
 else none
 else none
 else none
 else none
def e47_2 (fu : Nat) : Ent := ⟨47, (.cons Y6 .nil), (.cons Y5 (.cons .dead .nil)), Y2, p47_2 fu⟩
def d47_2 (fu : Nat) : DC := (.seq (.region [opD 2 (.alloc 33 6 [vU, vU, vI, vS, vS, vS])] [[]] false) (.seq (.region [mvD 3 0, mvD 4 0, oqD 5 (.call 15 [(tD 4)]) (.ent (e15_2 fu)), mvD 6 0, oqD 7 (.call 15 [(tD 6)]) (.ent (e15_2 fu)), mvD 8 0, oqD 9 (.call 89 [(tD 8)]) (.ent (e89_2 fu)), mvD 10 0, oqD 11 (.call 67 [(tD 10), (cD 262144)]) (.ent (e67_2 fu)), mvD 12 0, oqD 13 (.call 71 [(tD 12)]) (.ent (e71_2 fu)), opD 14 (.build 6 [vU, vU, vI, vS, vS, vS] [(0, (1, (tD 5))), (1, (1, (tD 7))), (2, (1, (tD 9))), (3, (1, (tD 11))), (4, (2, (tD 13)))]), oqD 15 (.call 88 [(tD 3), (tD 14)]) (.ent (e88_4 fu)), onD (.store 6 (tD 2) (tD 15))] [[], [], [1], [], [3, 2], [], [5, 4], [], [7, 6], [], [9, 8], [2, 4, 6, 8, 10], [0, 11, 10], [12, 12, 0, 1, 2, 3, 4, 5, 6, 7, 8, 9, 10, 11, 12]] false) .ret))
set_option maxRecDepth 1000000 in
theorem v47_2 (fu : Nat) : evF fu (d47_2 fu) rs47 16 (e47_2 fu).ash (e47_2 fu).osh (e47_2 fu).vsh = p47_2 fu := by kernel_rfl
set_option maxRecDepth 1000000 in
theorem b47_2 (fu : Nat) : BodyD Tryd.prog 47 16 (d47_2 fu).erase rs47 := bodyD_mk Tryd.func47 (by kernel_rfl) (by kernel_rfl) (by kernel_rfl) (by kernel_rfl)
theorem g47_2 (fu : Nat) : (e47_2 fu).Good Tryd.prog := good_by orders (b47_2 fu) (l := [e15_2 fu, e15_2 fu, e89_2 fu, e67_2 fu, e71_2 fu, e88_4 fu]) (by kernel_rfl) ⟨g15_2 fu, g15_2 fu, g89_2 fu, g67_2 fu, g71_2 fu, g88_4 fu, trivial⟩ (by kernel_rfl) (v47_2 fu)
def rs16 : List RVx := [(.tmp 2), (.tmp 3)]
/-- (*gazette/codec.Reader).Err -/
def p16_2 (fu : Nat) : ((List (Int)) × ((Int) × (((Bool) × (((Int) × ((Int) × (Unit))) × (Unit))) × (Unit)))) × (Unit) → Option ((((List (Int)) × ((Int) × (((Bool) × (((Int) × ((Int) × (Unit))) × (Unit))) × (Unit)))) × ((Unit) × (Unit))) × ((Int) × ((Int) × (Unit)))) := fun ⟨⟨a, c, ⟨f, ⟨h, i, _⟩, _⟩, _⟩, _⟩ =>
bif f then
 Option.bind (pAs fu ((false, dflt .unit, (h, i, ())), ((), ()), ())) fun ⟨⟨⟨⟨j, _, ⟨k, l, _⟩⟩, _⟩, _⟩, m⟩ =>
 bif j then
 bif m then
 none
 else
 bif eqL a then
 some (((a, c, (true, (h, i, ()), dflt .unit), ()), (), ()), ((0 : Int), (0 : Int), ()))
 else none
 else
 bif m then
 bif eqL a then
 some (((a, c, (true, (h, i, ()), dflt .unit), ()), (), ()), (k, l, ()))
 else none
 else
 bif eqL a then
 some (((a, c, (true, (h, i, ()), dflt .unit), ()), (), ()), ((0 : Int), (0 : Int), ()))
 else none
else
 Option.bind (pAs fu ((true, (), dflt (.pair (.int .i64) (.pair (.int .i64) .unit))), ((), ()), ())) fun ⟨⟨⟨⟨n, _, ⟨o, q, _⟩⟩, _⟩, _⟩, s⟩ =>
 bif n then
 bif s then
 none
 else
 bif eqL a then
 some (((a, c, zR0, ()), (), ()), ((0 : Int), (0 : Int), ()))
 else none
 else
 bif s then
 bif eqL a then
 some (((a, c, zR0, ()), (), ()), (o, q, ()))
 else none
 else
 bif eqL a then
 some (((a, c, zR0, ()), (), ()), ((0 : Int), (0 : Int), ()))
 else none
def e16_2 (fu : Nat) : Ent := ⟨16, (.cons Y6 .nil), (.cons Y5 (.cons .dead .nil)), (.tup 2 (.cons (.hole (.int .i64)) (.cons (.hole (.int .i64)) .nil))), p16_2 fu⟩
def d16_2 (fu : Nat) : DC := (.seq (.region [opD 2 (.mov (cD 0)), opD 3 (.mov (cD 0))] [[], [0]] false) (.seq (.region [opD 4 (.alloc 99 1 [(.pointer none)])] [[]] false) (.seq (.seq (.region [mvD 5 0, opD 6 (.pure .nilc [(tD 5)]), opD 7 (.faddr 2 (tD 6)), opD 8 (.load false 1 (tD 7)), opD 9 (.ifc 101 (tD 4)), oqD 10 (.call 42 [(tD 8), (tD 9)]) (.ent (eAs fu))] [[], [0], [1], [2], [], [3, 4]] false) (.cond (.tmp 10) (.seq (.region [opD 11 (.load false 1 (tD 4)), opD 12 (.pure .nilc [(tD 11)]), opD 13 (.faddr 0 (tD 12)), opD 14 (.load false 1 (tD 13)), opD 15 (.load false 1 (tD 4)), opD 16 (.pure .nilc [(tD 15)]), opD 17 (.faddr 1 (tD 16)), opD 18 (.load false 1 (tD 17)), mvD 2 14, mvD 3 18] [[], [0], [1], [2], [], [4], [5], [6], [3, 0, 1, 2, 3], [7, 8, 0, 1, 2, 3, 4, 5, 6, 7, 8]] true) .ret) .skip)) (.seq (.region [opD 2 (.mov (cD 0)), opD 3 (.mov (cD 0))] [[], [0, 0]] false) .ret))))
set_option maxRecDepth 1000000 in
theorem v16_2 (fu : Nat) : evF fu (d16_2 fu) rs16 19 (e16_2 fu).ash (e16_2 fu).osh (e16_2 fu).vsh = p16_2 fu := by kernel_rfl
set_option maxRecDepth 1000000 in
theorem b16_2 (fu : Nat) : BodyD Tryd.prog 16 19 (d16_2 fu).erase rs16 := bodyD_mk Tryd.func16 (by kernel_rfl) (by kernel_rfl) (by kernel_rfl) (by kernel_rfl)
theorem g16_2 (fu : Nat) : (e16_2 fu).Good Tryd.prog := good_by orders (b16_2 fu) (l := [eAs fu]) (by kernel_rfl) ⟨gAs fu, trivial⟩ (by kernel_rfl) (v16_2 fu)
def rs19 : List RVx := [(.tmp 2)]
/-- (*gazette/codec.Reader).Done -/
def p19_2 (fu : Nat) : ((List (Int)) × ((Int) × (((Bool) × (((Int) × ((Int) × (Unit))) × (Unit))) × (Unit)))) × (Unit) → Option ((((List (Int)) × ((Int) × (((Bool) × (((Int) × ((Int) × (Unit))) × (Unit))) × (Unit)))) × ((Unit) × (Unit))) × (Int)) := fun ⟨⟨a, c, ⟨f, ⟨h, i, _⟩, _⟩, _⟩, _⟩ =>
bif f then
 bif eqL a then
 Option.bind (p16_2 fu ((a, c, (true, (h, i, ()), dflt .unit), ()), ())) fun ⟨⟨⟨j, k, ⟨l, ⟨m, n, _⟩, _⟩, _⟩, _, _⟩, ⟨o, _, _⟩⟩ =>
 bif l then
 bif (o == (0 : Int)) then
 bif decide (k < ((List.length j) : Int)) then
 bif eqL j then
 some (((j, k, (true, (m, n, ()), dflt .unit), ()), (), ()), (15 : Int))
 else none
 else
 bif eqL j then
 some (((j, k, (true, (m, n, ()), dflt .unit), ()), (), ()), o)
 else none
 else
 bif eqL j then
 some (((j, k, (true, (m, n, ()), dflt .unit), ()), (), ()), o)
 else none
 else
 bif (o == (0 : Int)) then
 bif decide (k < ((List.length j) : Int)) then
 bif eqL j then
 some (((j, k, zR0, ()), (), ()), (15 : Int))
 else none
 else
 bif eqL j then
 some (((j, k, zR0, ()), (), ()), o)
 else none
 else
 bif eqL j then
 some (((j, k, zR0, ()), (), ()), o)
 else none
 else none
else
 bif eqL a then
 Option.bind (p16_2 fu ((a, c, zR0, ()), ())) fun ⟨⟨⟨q, s, ⟨t, ⟨u, w, _⟩, _⟩, _⟩, _, _⟩, ⟨x, _, _⟩⟩ =>
 bif t then
 bif (x == (0 : Int)) then
 bif decide (s < ((List.length q) : Int)) then
 bif eqL q then
 some (((q, s, (true, (u, w, ()), dflt .unit), ()), (), ()), (15 : Int))
 else none
 else
 bif eqL q then
 some (((q, s, (true, (u, w, ()), dflt .unit), ()), (), ()), x)
 else none
 else
 bif eqL q then
 some (((q, s, (true, (u, w, ()), dflt .unit), ()), (), ()), x)
 else none
 else
 bif (x == (0 : Int)) then
 bif decide (s < ((List.length q) : Int)) then
 bif eqL q then
 some (((q, s, zR0, ()), (), ()), (15 : Int))
 else none
 else
 bif eqL q then
 some (((q, s, zR0, ()), (), ()), x)
 else none
 else
 bif eqL q then
 some (((q, s, zR0, ()), (), ()), x)
 else none
 else none
def e19_2 (fu : Nat) : Ent := ⟨19, (.cons Y6 .nil), (.cons Y5 (.cons .dead .nil)), (.hole (.int .i64)), p19_2 fu⟩
def d19_2 (fu : Nat) : DC := (.seq (.region [opD 2 (.mov (cD 0))] [[]] false) (.seq (.region [mvD 6 0, oqD 7 (.call 16 [(tD 6)]) (.ent (e16_2 fu)), mvD 5 7, opD 8 (.ext (tD 5) 0), opD 9 (.ext (tD 5) 1), mvD 3 8, mvD 4 9] [[], [0], [1], [2], [2], [3, 1, 0, 1, 2, 3], [4, 5, 0, 1, 2, 3, 4, 5]] false) (.seq (.seq (.region [mvD 10 3, opD 11 (.bin .eql (tD 10) (cD 0)), mvD 12 11, ogD 13 12 true (.mov (tD 0)), ogD 14 12 true (.pure .nilc [(tD 13)]), ogD 15 12 true (.faddr 1 (tD 14)), ogD 16 12 true (.load false 1 (tD 15)), ogD 17 12 true (.mov (tD 0)), ogD 18 12 true (.pure .nilc [(tD 17)]), ogD 19 12 true (.faddr 0 (tD 18)), ogD 20 12 true (.load false 1 (tD 19)), ogD 21 12 true (.len false (tD 20)), ogD 22 12 true (.bin .lss (tD 16) (tD 21)), opD 23 (.pick (tD 12) (tD 22) (.const vB))] [[], [0], [1], [2], [3, 2], [4, 2], [5, 2], [2], [7, 2], [8, 2], [9, 2], [10, 2], [6, 11, 2], [2, 12]] true) (.cond (.tmp 23) (.seq (.region [opD 2 (.mov (cD 15))] [[]] false) .ret) .skip)) (.seq (.region [mvD 24 3, mvD 2 24] [[], [0, 0]] false) .ret))))
set_option maxRecDepth 1000000 in
theorem v19_2 (fu : Nat) : evF fu (d19_2 fu) rs19 25 (e19_2 fu).ash (e19_2 fu).osh (e19_2 fu).vsh = p19_2 fu := by kernel_rfl
set_option maxRecDepth 1000000 in
theorem b19_2 (fu : Nat) : BodyD Tryd.prog 19 25 (d19_2 fu).erase rs19 := bodyD_mk Tryd.func19 (by kernel_rfl) (by kernel_rfl) (by kernel_rfl) (by kernel_rfl)
theorem g19_2 (fu : Nat) : (e19_2 fu).Good Tryd.prog := good_by orders (b19_2 fu) (l := [e16_2 fu]) (by kernel_rfl) ⟨g16_2 fu, trivial⟩ (by kernel_rfl) (v19_2 fu)
def rs90 : List RVx := [(.cell 4 true 5)]
/-- gazette/codec.whole[gazette/api.Snap] -/
def p90_4 (_ : Nat) : ((List (Int)) × ((Int) × (((Bool) × (((Int) × ((Int) × (Unit))) × (Unit))) × (Unit)))) × (((Int) × ((Int) × ((List (Int)) × ((List (Int)) × ((List (Int)) × (Unit)))))) × (Unit)) → Option ((((List (Int)) × ((Int) × (((Bool) × (((Int) × ((Int) × (Unit))) × (Unit))) × (Unit)))) × ((Unit) × (Unit))) × ((Int) × ((Int) × ((List (Int)) × ((List (Int)) × ((List (Int)) × (Unit))))))) := fun ⟨⟨a, c, ⟨f, ⟨h, i, _⟩, _⟩, _⟩, ⟨j, k, l, m, n, _⟩, _⟩ =>
bif f then
 bif eqL a then
 some (((a, c, (true, (h, i, ()), dflt .unit), ()), (), ()), ((0 : Int), (0 : Int), [], [], [], ()))
 else none
else
 bif eqL a then
 some (((a, c, zR0, ()), (), ()), (j, k, l, m, n, ()))
 else none
def e90_4 (fu : Nat) : Ent := ⟨90, (.cons Y6 (.cons Y3 .nil)), (.cons Y5 (.cons .dead .nil)), Y3, p90_4 fu⟩
def d90_4 (_ : Nat) : DC := (.seq (.region [opD 3 (.box 37 5 (tD 1)), opD 4 (.alloc 37 5 [vU, vU, vS, vS, vS])] [[], []] false) (.seq (.seq (.region [mvD 6 0, opD 7 (.pure .nilc [(tD 6)]), opD 8 (.faddr 2 (tD 7)), opD 9 (.load false 1 (tD 8)), opD 10 (.pure (.nilq 1 true) [(tD 9)])] [[], [0], [1], [2], [3]] false) (.cond (.tmp 10) (.seq (.region [opD 5 (.alloc 37 5 [vU, vU, vS, vS, vS])] [[]] false) (.seq (.region [opD 11 (.load true 5 (tD 5)), onD (.store 5 (tD 4) (tD 11))] [[], [0, 0]] false) .ret)) .skip)) (.seq (.region [opD 12 (.load true 5 (tD 3)), onD (.store 5 (tD 4) (tD 12))] [[], [0, 0]] false) .ret)))
set_option maxRecDepth 1000000 in
theorem v90_4 (fu : Nat) : evF fu (d90_4 fu) rs90 13 (e90_4 fu).ash (e90_4 fu).osh (e90_4 fu).vsh = p90_4 fu := by kernel_rfl
set_option maxRecDepth 1000000 in
theorem b90_4 (fu : Nat) : BodyD Tryd.prog 90 13 (d90_4 fu).erase rs90 := bodyD_mk Tryd.func90 (by kernel_rfl) (by kernel_rfl) (by kernel_rfl) (by kernel_rfl)
theorem g90_4 (fu : Nat) : (e90_4 fu).Good Tryd.prog := good_by orders (b90_4 fu) (l := []) (by kernel_rfl) trivial (by kernel_rfl) (v90_4 fu)
def rs49 : List RVx := [(.cell 2 true 5)]
/-- (*gazette/codec.Reader).Snap -/
def p49_2 (fu : Nat) : ((List (Int)) × ((Int) × (((Bool) × (((Int) × ((Int) × (Unit))) × (Unit))) × (Unit)))) × (Unit) → Option ((((List (Int)) × ((Int) × (((Bool) × (((Int) × ((Int) × (Unit))) × (Unit))) × (Unit)))) × ((Unit) × (Unit))) × ((Int) × ((Int) × ((List (Int)) × ((List (Int)) × ((List (Int)) × (Unit))))))) := fun ⟨⟨a, c, ⟨f, ⟨h, i, _⟩, _⟩, _⟩, _⟩ =>
bif f then
 bif eqL a then
 Option.bind (p15_2 fu ((a, c, (true, (h, i, ()), dflt .unit), ()), ())) fun ⟨⟨⟨j, k, ⟨l, ⟨m, n, _⟩, _⟩, _⟩, _, _⟩, o⟩ =>
 bif l then
 bif eqL j then
 Option.bind (p15_2 fu ((j, k, (true, (m, n, ()), dflt .unit), ()), ())) fun ⟨⟨⟨q, s, ⟨t, ⟨u, w, _⟩, _⟩, _⟩, _, _⟩, x⟩ =>
 bif t then
 bif eqL q then
 Option.bind (p71_2 fu ((q, s, (true, (u, w, ()), dflt .unit), ()), ())) fun ⟨⟨⟨y, z, ⟨a0, ⟨c0, f0, _⟩, _⟩, _⟩, _, _⟩, ⟨h0, i0, _⟩⟩ =>
 bif a0 then
 bif eqL y then
 Option.bind (p67_2 fu ((y, z, (true, (c0, f0, ()), dflt .unit), ()), (262144 : Int), ())) fun ⟨⟨⟨j0, k0, ⟨l0, ⟨m0, n0, _⟩, _⟩, _⟩, _, _⟩, o0⟩ =>
 bif l0 then
 bif eqL j0 then
 bif eqL o0 then
 Option.bind (p90_4 fu ((j0, k0, (true, (m0, n0, ()), dflt .unit), ()), (o, x, h0, i0, o0, ()), ())) fun ⟨⟨⟨q0, s0, ⟨t0, ⟨u0, w0, _⟩, _⟩, _⟩, _, _⟩, ⟨x0, y0, z0, a1, c1, _⟩⟩ =>
 bif t0 then
 bif eqL q0 then
 some (((q0, s0, (true, (u0, w0, ()), dflt .unit), ()), (), ()), (x0, y0, z0, a1, c1, ()))
 else none
 else
 bif eqL q0 then
 some (((q0, s0, zR0, ()), (), ()), (x0, y0, z0, a1, c1, ()))
 else none
 else none
 else none
 else
 bif eqL j0 then
 bif eqL o0 then
 Option.bind (p90_4 fu ((j0, k0, zR0, ()), (o, x, h0, i0, o0, ()), ())) fun ⟨⟨⟨f1, h1, ⟨i1, ⟨j1, k1, _⟩, _⟩, _⟩, _, _⟩, ⟨l1, m1, n1, o1, q1, _⟩⟩ =>
 bif i1 then
 bif eqL f1 then
 some (((f1, h1, (true, (j1, k1, ()), dflt .unit), ()), (), ()), (l1, m1, n1, o1, q1, ()))
 else none
 else
 bif eqL f1 then
 some (((f1, h1, zR0, ()), (), ()), (l1, m1, n1, o1, q1, ()))
 else none
 else none
 else none
 else none
 else
 bif eqL y then
 Option.bind (p67_2 fu ((y, z, zR0, ()), (262144 : Int), ())) fun ⟨⟨⟨s1, t1, ⟨u1, ⟨w1, x1, _⟩, _⟩, _⟩, _, _⟩, y1⟩ =>
 bif u1 then
 bif eqL s1 then
 bif eqL y1 then
 Option.bind (p90_4 fu ((s1, t1, (true, (w1, x1, ()), dflt .unit), ()), (o, x, h0, i0, y1, ()), ())) fun ⟨⟨⟨z1, a2, ⟨c2, ⟨f2, h2, _⟩, _⟩, _⟩, _, _⟩, ⟨i2, j2, k2, l2, m2, _⟩⟩ =>
 bif c2 then
 bif eqL z1 then
 some (((z1, a2, (true, (f2, h2, ()), dflt .unit), ()), (), ()), (i2, j2, k2, l2, m2, ()))
 else none
 else
 bif eqL z1 then
 some (((z1, a2, zR0, ()), (), ()), (i2, j2, k2, l2, m2, ()))
 else none
 else none
 else none
 else
 bif eqL s1 then
 bif eqL y1 then
 Option.bind (p90_4 fu ((s1, t1, zR0, ()), (o, x, h0, i0, y1, ()), ())) fun ⟨⟨⟨n2, o2, ⟨q2, ⟨s2, t2, _⟩, _⟩, _⟩, _, _⟩, ⟨u2, w2, x2, y2, z2, _⟩⟩ =>
 bif q2 then
 bif eqL n2 then
 some (((n2, o2, (true, (s2, t2, ()), dflt .unit), ()), (), ()), (u2, w2, x2, y2, z2, ()))
 else none
 else
 bif eqL n2 then
 some (((n2, o2, zR0, ()), (), ()), (u2, w2, x2, y2, z2, ()))
 else none
 else none
 else none
 else none
 else none
 else
 bif eqL q then
 Option.bind (p71_2 fu ((q, s, zR0, ()), ())) fun ⟨⟨⟨a3, c3, ⟨f3, ⟨h3, i3, _⟩, _⟩, _⟩, _, _⟩, ⟨j3, k3, _⟩⟩ =>
 bif f3 then
 bif eqL a3 then
 Option.bind (p67_2 fu ((a3, c3, (true, (h3, i3, ()), dflt .unit), ()), (262144 : Int), ())) fun ⟨⟨⟨l3, m3, ⟨n3, ⟨o3, q3, _⟩, _⟩, _⟩, _, _⟩, s3⟩ =>
 bif n3 then
 bif eqL l3 then
 bif eqL s3 then
 Option.bind (p90_4 fu ((l3, m3, (true, (o3, q3, ()), dflt .unit), ()), (o, x, j3, k3, s3, ()), ())) fun ⟨⟨⟨t3, u3, ⟨w3, ⟨x3, y3, _⟩, _⟩, _⟩, _, _⟩, ⟨z3, a4, c4, f4, h4, _⟩⟩ =>
 bif w3 then
 bif eqL t3 then
 some (((t3, u3, (true, (x3, y3, ()), dflt .unit), ()), (), ()), (z3, a4, c4, f4, h4, ()))
 else none
 else
 bif eqL t3 then
 some (((t3, u3, zR0, ()), (), ()), (z3, a4, c4, f4, h4, ()))
 else none
 else none
 else none
 else
 bif eqL l3 then
 bif eqL s3 then
 Option.bind (p90_4 fu ((l3, m3, zR0, ()), (o, x, j3, k3, s3, ()), ())) fun ⟨⟨⟨i4, j4, ⟨k4, ⟨l4, m4, _⟩, _⟩, _⟩, _, _⟩, ⟨n4, o4, q4, s4, t4, _⟩⟩ =>
 bif k4 then
 bif eqL i4 then
 some (((i4, j4, (true, (l4, m4, ()), dflt .unit), ()), (), ()), (n4, o4, q4, s4, t4, ()))
 else none
 else
 bif eqL i4 then
 some (((i4, j4, zR0, ()), (), ()), (n4, o4, q4, s4, t4, ()))
 else none
 else none
 else none
 else none
 else
 bif eqL a3 then
 Option.bind (p67_2 fu ((a3, c3, zR0, ()), (262144 : Int), ())) fun ⟨⟨⟨u4, w4, ⟨x4, ⟨y4, z4, _⟩, _⟩, _⟩, _, _⟩, a5⟩ =>
 bif x4 then
 bif eqL u4 then
 bif eqL a5 then
 Option.bind (p90_4 fu ((u4, w4, (true, (y4, z4, ()), dflt .unit), ()), (o, x, j3, k3, a5, ()), ())) fun ⟨⟨⟨c5, f5, ⟨h5, ⟨i5, j5, _⟩, _⟩, _⟩, _, _⟩, ⟨k5, l5, m5, n5, o5, _⟩⟩ =>
 bif h5 then
 bif eqL c5 then
 some (((c5, f5, (true, (i5, j5, ()), dflt .unit), ()), (), ()), (k5, l5, m5, n5, o5, ()))
 else none
 else
 bif eqL c5 then
 some (((c5, f5, zR0, ()), (), ()), (k5, l5, m5, n5, o5, ()))
 else none
 else none
 else none
 else
 bif eqL u4 then
 bif eqL a5 then
 Option.bind (p90_4 fu ((u4, w4, zR0, ()), (o, x, j3, k3, a5, ()), ())) fun ⟨⟨⟨q5, s5, ⟨t5, ⟨u5, w5, _⟩, _⟩, _⟩, _, _⟩, ⟨x5, y5, z5, a6, c6, _⟩⟩ =>
 bif t5 then
 bif eqL q5 then
 some (((q5, s5, (true, (u5, w5, ()), dflt .unit), ()), (), ()), (x5, y5, z5, a6, c6, ()))
 else none
 else
 bif eqL q5 then
 some (((q5, s5, zR0, ()), (), ()), (x5, y5, z5, a6, c6, ()))
 else none
 else none
 else none
 else none
 else none
 else none
 else
 bif eqL j then
 Option.bind (p15_2 fu ((j, k, zR0, ()), ())) fun ⟨⟨⟨f6, h6, ⟨i6, ⟨j6, k6, _⟩, _⟩, _⟩, _, _⟩, l6⟩ =>
 bif i6 then
 bif eqL f6 then
 Option.bind (p71_2 fu ((f6, h6, (true, (j6, k6, ()), dflt .unit), ()), ())) fun ⟨⟨⟨m6, n6, ⟨o6, ⟨q6, s6, _⟩, _⟩, _⟩, _, _⟩, ⟨t6, u6, _⟩⟩ =>
 bif o6 then
 bif eqL m6 then
 Option.bind (p67_2 fu ((m6, n6, (true, (q6, s6, ()), dflt .unit), ()), (262144 : Int), ())) fun ⟨⟨⟨w6, x6, ⟨y6, ⟨z6, a7, _⟩, _⟩, _⟩, _, _⟩, c7⟩ =>
 bif y6 then
 bif eqL w6 then
 bif eqL c7 then
 Option.bind (p90_4 fu ((w6, x6, (true, (z6, a7, ()), dflt .unit), ()), (o, l6, t6, u6, c7, ()), ())) fun ⟨⟨⟨f7, h7, ⟨i7, ⟨j7, k7, _⟩, _⟩, _⟩, _, _⟩, ⟨l7, m7, n7, o7, q7, _⟩⟩ =>
 bif i7 then
 bif eqL f7 then
 some (((f7, h7, (true, (j7, k7, ()), dflt .unit), ()), (), ()), (l7, m7, n7, o7, q7, ()))
 else none
 else
 bif eqL f7 then
 some (((f7, h7, zR0, ()), (), ()), (l7, m7, n7, o7, q7, ()))
 else none
 else none
 else none
 else
 bif eqL w6 then
 bif eqL c7 then
 Option.bind (p90_4 fu ((w6, x6, zR0, ()), (o, l6, t6, u6, c7, ()), ())) fun ⟨⟨⟨s7, t7, ⟨u7, ⟨w7, x7, _⟩, _⟩, _⟩, _, _⟩, ⟨y7, z7, a8, c8, f8, _⟩⟩ =>
 bif u7 then
 bif eqL s7 then
 some (((s7, t7, (true, (w7, x7, ()), dflt .unit), ()), (), ()), (y7, z7, a8, c8, f8, ()))
 else none
 else
 bif eqL s7 then
 some (((s7, t7, zR0, ()), (), ()), (y7, z7, a8, c8, f8, ()))
 else none
 else none
 else none
 else none
 else
 bif eqL m6 then
 Option.bind (p67_2 fu ((m6, n6, zR0, ()), (262144 : Int), ())) fun ⟨⟨⟨h8, i8, ⟨j8, ⟨k8, l8, _⟩, _⟩, _⟩, _, _⟩, m8⟩ =>
 bif j8 then
 bif eqL h8 then
 bif eqL m8 then
 Option.bind (p90_4 fu ((h8, i8, (true, (k8, l8, ()), dflt .unit), ()), (o, l6, t6, u6, m8, ()), ())) fun ⟨⟨⟨n8, o8, ⟨q8, ⟨s8, t8, _⟩, _⟩, _⟩, _, _⟩, ⟨u8, w8, x8, y8, z8, _⟩⟩ =>
 bif q8 then
 bif eqL n8 then
 some (((n8, o8, (true, (s8, t8, ()), dflt .unit), ()), (), ()), (u8, w8, x8, y8, z8, ()))
 else none
 else
 bif eqL n8 then
 some (((n8, o8, zR0, ()), (), ()), (u8, w8, x8, y8, z8, ()))
 else none
 else none
 else none
 else
 bif eqL h8 then
 bif eqL m8 then
 Option.bind (p90_4 fu ((h8, i8, zR0, ()), (o, l6, t6, u6, m8, ()), ())) fun ⟨⟨⟨a9, c9, ⟨f9, ⟨h9, i9, _⟩, _⟩, _⟩, _, _⟩, ⟨j9, k9, l9, m9, n9, _⟩⟩ =>
 bif f9 then
 bif eqL a9 then
 some (((a9, c9, (true, (h9, i9, ()), dflt .unit), ()), (), ()), (j9, k9, l9, m9, n9, ()))
 else none
 else
 bif eqL a9 then
 some (((a9, c9, zR0, ()), (), ()), (j9, k9, l9, m9, n9, ()))
 else none
 else none
 else none
 else none
 else none
 else
 bif eqL f6 then
 Option.bind (p71_2 fu ((f6, h6, zR0, ()), ())) fun ⟨⟨⟨o9, q9, ⟨s9, ⟨t9, u9, _⟩, _⟩, _⟩, _, _⟩, ⟨w9, x9, _⟩⟩ =>
 bif s9 then
 bif eqL o9 then
 Option.bind (p67_2 fu ((o9, q9, (true, (t9, u9, ()), dflt .unit), ()), (262144 : Int), ())) fun ⟨⟨⟨y9, z9, ⟨a10, ⟨c10, f10, _⟩, _⟩, _⟩, _, _⟩, h10⟩ =>
 bif a10 then
 bif eqL y9 then
 bif eqL h10 then
 Option.bind (p90_4 fu ((y9, z9, (true, (c10, f10, ()), dflt .unit), ()), (o, l6, w9, x9, h10, ()), ())) fun ⟨⟨⟨i10, j10, ⟨k10, ⟨l10, m10, _⟩, _⟩, _⟩, _, _⟩, ⟨n10, o10, q10, s10, t10, _⟩⟩ =>
 bif k10 then
 bif eqL i10 then
 some (((i10, j10, (true, (l10, m10, ()), dflt .unit), ()), (), ()), (n10, o10, q10, s10, t10, ()))
 else none
 else
 bif eqL i10 then
 some (((i10, j10, zR0, ()), (), ()), (n10, o10, q10, s10, t10, ()))
 else none
 else none
 else none
 else
 bif eqL y9 then
 bif eqL h10 then
 Option.bind (p90_4 fu ((y9, z9, zR0, ()), (o, l6, w9, x9, h10, ()), ())) fun ⟨⟨⟨u10, w10, ⟨x10, ⟨y10, z10, _⟩, _⟩, _⟩, _, _⟩, ⟨a11, c11, f11, h11, i11, _⟩⟩ =>
 bif x10 then
 bif eqL u10 then
 some (((u10, w10, (true, (y10, z10, ()), dflt .unit), ()), (), ()), (a11, c11, f11, h11, i11, ()))
 else none
 else
 bif eqL u10 then
 some (((u10, w10, zR0, ()), (), ()), (a11, c11, f11, h11, i11, ()))
 else none
 else none
 else none
 else none
 else
 bif eqL o9 then
 Option.bind (p67_2 fu ((o9, q9, zR0, ()), (262144 : Int), ())) fun ⟨⟨⟨j11, k11, ⟨l11, ⟨m11, n11, _⟩, _⟩, _⟩, _, _⟩, o11⟩ =>
 bif l11 then
 bif eqL j11 then
 bif eqL o11 then
 Option.bind (p90_4 fu ((j11, k11, (true, (m11, n11, ()), dflt .unit), ()), (o, l6, w9, x9, o11, ()), ())) fun ⟨⟨⟨q11, s11, ⟨t11, ⟨u11, w11, _⟩, _⟩, _⟩, _, _⟩, ⟨x11, y11, z11, a12, c12, _⟩⟩ =>
 bif t11 then
 bif eqL q11 then
 some (((q11, s11, (true, (u11, w11, ()), dflt .unit), ()), (), ()), (x11, y11, z11, a12, c12, ()))
 else none
 else
 bif eqL q11 then
 some (((q11, s11, zR0, ()), (), ()), (x11, y11, z11, a12, c12, ()))
 else none
 else none
 else none
 else
 bif eqL j11 then
 bif eqL o11 then
 Option.bind (p90_4 fu ((j11, k11, zR0, ()), (o, l6, w9, x9, o11, ()), ())) fun ⟨⟨⟨f12, h12, ⟨i12, ⟨j12, k12, _⟩, _⟩, _⟩, _, _⟩, ⟨l12, m12, n12, o12, q12, _⟩⟩ =>
 bif i12 then
 bif eqL f12 then
 some (((f12, h12, (true, (j12, k12, ()), dflt .unit), ()), (), ()), (l12, m12, n12, o12, q12, ()))
 else none
 else
 bif eqL f12 then
 some (((f12, h12, zR0, ()), (), ()), (l12, m12, n12, o12, q12, ()))
 else none
 else none
 else none
 else none
 else none
 else none
 else none
else
 bif eqL a then
 Option.bind (p15_2 fu ((a, c, zR0, ()), ())) fun ⟨⟨⟨s12, t12, ⟨u12, ⟨w12, x12, _⟩, _⟩, _⟩, _, _⟩, y12⟩ =>
 bif u12 then
 bif eqL s12 then
 Option.bind (p15_2 fu ((s12, t12, (true, (w12, x12, ()), dflt .unit), ()), ())) fun ⟨⟨⟨z12, a13, ⟨c13, ⟨f13, h13, _⟩, _⟩, _⟩, _, _⟩, i13⟩ =>
 bif c13 then
 bif eqL z12 then
 Option.bind (p71_2 fu ((z12, a13, (true, (f13, h13, ()), dflt .unit), ()), ())) fun ⟨⟨⟨j13, k13, ⟨l13, ⟨m13, n13, _⟩, _⟩, _⟩, _, _⟩, ⟨o13, q13, _⟩⟩ =>
 bif l13 then
 bif eqL j13 then
 Option.bind (p67_2 fu ((j13, k13, (true, (m13, n13, ()), dflt .unit), ()), (262144 : Int), ())) fun ⟨⟨⟨s13, t13, ⟨u13, ⟨w13, x13, _⟩, _⟩, _⟩, _, _⟩, y13⟩ =>
 bif u13 then
 bif eqL s13 then
 bif eqL y13 then
 Option.bind (p90_4 fu ((s13, t13, (true, (w13, x13, ()), dflt .unit), ()), (y12, i13, o13, q13, y13, ()), ())) fun ⟨⟨⟨z13, a14, ⟨c14, ⟨f14, h14, _⟩, _⟩, _⟩, _, _⟩, ⟨i14, j14, k14, l14, m14, _⟩⟩ =>
 bif c14 then
 bif eqL z13 then
 some (((z13, a14, (true, (f14, h14, ()), dflt .unit), ()), (), ()), (i14, j14, k14, l14, m14, ()))
 else none
 else
 bif eqL z13 then
 some (((z13, a14, zR0, ()), (), ()), (i14, j14, k14, l14, m14, ()))
 else none
 else none
 else none
 else
 bif eqL s13 then
 bif eqL y13 then
 Option.bind (p90_4 fu ((s13, t13, zR0, ()), (y12, i13, o13, q13, y13, ()), ())) fun ⟨⟨⟨n14, o14, ⟨q14, ⟨s14, t14, _⟩, _⟩, _⟩, _, _⟩, ⟨u14, w14, x14, y14, z14, _⟩⟩ =>
 bif q14 then
 bif eqL n14 then
 some (((n14, o14, (true, (s14, t14, ()), dflt .unit), ()), (), ()), (u14, w14, x14, y14, z14, ()))
 else none
 else
 bif eqL n14 then
 some (((n14, o14, zR0, ()), (), ()), (u14, w14, x14, y14, z14, ()))
 else none
 else none
 else none
 else none
 else
 bif eqL j13 then
 Option.bind (p67_2 fu ((j13, k13, zR0, ()), (262144 : Int), ())) fun ⟨⟨⟨a15, c15, ⟨f15, ⟨h15, i15, _⟩, _⟩, _⟩, _, _⟩, j15⟩ =>
 bif f15 then
 bif eqL a15 then
 bif eqL j15 then
 Option.bind (p90_4 fu ((a15, c15, (true, (h15, i15, ()), dflt .unit), ()), (y12, i13, o13, q13, j15, ()), ())) fun ⟨⟨⟨k15, l15, ⟨m15, ⟨n15, o15, _⟩, _⟩, _⟩, _, _⟩, ⟨q15, s15, t15, u15, w15, _⟩⟩ =>
 bif m15 then
 bif eqL k15 then
 some (((k15, l15, (true, (n15, o15, ()), dflt .unit), ()), (), ()), (q15, s15, t15, u15, w15, ()))
 else none
 else
 bif eqL k15 then
 some (((k15, l15, zR0, ()), (), ()), (q15, s15, t15, u15, w15, ()))
 else none
 else none
 else none
 else
 bif eqL a15 then
 bif eqL j15 then
 Option.bind (p90_4 fu ((a15, c15, zR0, ()), (y12, i13, o13, q13, j15, ()), ())) fun ⟨⟨⟨x15, y15, ⟨z15, ⟨a16, c16, _⟩, _⟩, _⟩, _, _⟩, ⟨f16, h16, i16, j16, k16, _⟩⟩ =>
 bif z15 then
 bif eqL x15 then
 some (((x15, y15, (true, (a16, c16, ()), dflt .unit), ()), (), ()), (f16, h16, i16, j16, k16, ()))
 else none
 else
 bif eqL x15 then
 some (((x15, y15, zR0, ()), (), ()), (f16, h16, i16, j16, k16, ()))
 else none
 else none
 else none
 else none
 else none
 else
 bif eqL z12 then
 Option.bind (p71_2 fu ((z12, a13, zR0, ()), ())) fun ⟨⟨⟨l16, m16, ⟨n16, ⟨o16, q16, _⟩, _⟩, _⟩, _, _⟩, ⟨s16, t16, _⟩⟩ =>
 bif n16 then
 bif eqL l16 then
 Option.bind (p67_2 fu ((l16, m16, (true, (o16, q16, ()), dflt .unit), ()), (262144 : Int), ())) fun ⟨⟨⟨u16, w16, ⟨x16, ⟨y16, z16, _⟩, _⟩, _⟩, _, _⟩, a17⟩ =>
 bif x16 then
 bif eqL u16 then
 bif eqL a17 then
 Option.bind (p90_4 fu ((u16, w16, (true, (y16, z16, ()), dflt .unit), ()), (y12, i13, s16, t16, a17, ()), ())) fun ⟨⟨⟨c17, f17, ⟨h17, ⟨i17, j17, _⟩, _⟩, _⟩, _, _⟩, ⟨k17, l17, m17, n17, o17, _⟩⟩ =>
 bif h17 then
 bif eqL c17 then
 some (((c17, f17, (true, (i17, j17, ()), dflt .unit), ()), (), ()), (k17, l17, m17, n17, o17, ()))
 else none
 else
 bif eqL c17 then
 some (((c17, f17, zR0, ()), (), ()), (k17, l17, m17, n17, o17, ()))
 else none
 else none
 else none
 else
 bif eqL u16 then
 bif eqL a17 then
 Option.bind (p90_4 fu ((u16, w16, zR0, ()), (y12, i13, s16, t16, a17, ()), ())) fun ⟨⟨⟨q17, s17, ⟨t17, ⟨u17, w17, _⟩, _⟩, _⟩, _, _⟩, ⟨x17, y17, z17, a18, c18, _⟩⟩ =>
 bif t17 then
 bif eqL q17 then
 some (((q17, s17, (true, (u17, w17, ()), dflt .unit), ()), (), ()), (x17, y17, z17, a18, c18, ()))
 else none
 else
 bif eqL q17 then
 some (((q17, s17, zR0, ()), (), ()), (x17, y17, z17, a18, c18, ()))
 else none
 else none
 else none
 else none
 else
 bif eqL l16 then
 Option.bind (p67_2 fu ((l16, m16, zR0, ()), (262144 : Int), ())) fun ⟨⟨⟨f18, h18, ⟨i18, ⟨j18, k18, _⟩, _⟩, _⟩, _, _⟩, l18⟩ =>
 bif i18 then
 bif eqL f18 then
 bif eqL l18 then
 Option.bind (p90_4 fu ((f18, h18, (true, (j18, k18, ()), dflt .unit), ()), (y12, i13, s16, t16, l18, ()), ())) fun ⟨⟨⟨m18, n18, ⟨o18, ⟨q18, s18, _⟩, _⟩, _⟩, _, _⟩, ⟨t18, u18, w18, x18, y18, _⟩⟩ =>
 bif o18 then
 bif eqL m18 then
 some (((m18, n18, (true, (q18, s18, ()), dflt .unit), ()), (), ()), (t18, u18, w18, x18, y18, ()))
 else none
 else
 bif eqL m18 then
 some (((m18, n18, zR0, ()), (), ()), (t18, u18, w18, x18, y18, ()))
 else none
 else none
 else none
 else
 bif eqL f18 then
 bif eqL l18 then
 Option.bind (p90_4 fu ((f18, h18, zR0, ()), (y12, i13, s16, t16, l18, ()), ())) fun ⟨⟨⟨z18, a19, ⟨c19, ⟨f19, h19, _⟩, _⟩, _⟩, _, _⟩, ⟨i19, j19, k19, l19, m19, _⟩⟩ =>
 bif c19 then
 bif eqL z18 then
 some (((z18, a19, (true, (f19, h19, ()), dflt .unit), ()), (), ()), (i19, j19, k19, l19, m19, ()))
 else none
 else
 bif eqL z18 then
 some (((z18, a19, zR0, ()), (), ()), (i19, j19, k19, l19, m19, ()))
 else none
 else none
 else none
 else none
 else none
 else none
 else
 bif eqL s12 then
 Option.bind (p15_2 fu ((s12, t12, zR0, ()), ())) fun ⟨⟨⟨n19, o19, ⟨q19, ⟨s19, t19, _⟩, _⟩, _⟩, _, _⟩, u19⟩ =>
 bif q19 then
 bif eqL n19 then
 Option.bind (p71_2 fu ((n19, o19, (true, (s19, t19, ()), dflt .unit), ()), ())) fun ⟨⟨⟨w19, x19, ⟨y19, ⟨z19, a20, _⟩, _⟩, _⟩, _, _⟩, ⟨c20, f20, _⟩⟩ =>
 bif y19 then
 bif eqL w19 then
 Option.bind (p67_2 fu ((w19, x19, (true, (z19, a20, ()), dflt .unit), ()), (262144 : Int), ())) fun ⟨⟨⟨h20, i20, ⟨j20, ⟨k20, l20, _⟩, _⟩, _⟩, _, _⟩, m20⟩ =>
 bif j20 then
 bif eqL h20 then
 bif eqL m20 then
 Option.bind (p90_4 fu ((h20, i20, (true, (k20, l20, ()), dflt .unit), ()), (y12, u19, c20, f20, m20, ()), ())) fun ⟨⟨⟨n20, o20, ⟨q20, ⟨s20, t20, _⟩, _⟩, _⟩, _, _⟩, ⟨u20, w20, x20, y20, z20, _⟩⟩ =>
 bif q20 then
 bif eqL n20 then
 some (((n20, o20, (true, (s20, t20, ()), dflt .unit), ()), (), ()), (u20, w20, x20, y20, z20, ()))
 else none
 else
 bif eqL n20 then
 some (((n20, o20, zR0, ()), (), ()), (u20, w20, x20, y20, z20, ()))
 else none
 else none
 else none
 else
 bif eqL h20 then
 bif eqL m20 then
 Option.bind (p90_4 fu ((h20, i20, zR0, ()), (y12, u19, c20, f20, m20, ()), ())) fun ⟨⟨⟨a21, c21, ⟨f21, ⟨h21, i21, _⟩, _⟩, _⟩, _, _⟩, ⟨j21, k21, l21, m21, n21, _⟩⟩ =>
 bif f21 then
 bif eqL a21 then
 some (((a21, c21, (true, (h21, i21, ()), dflt .unit), ()), (), ()), (j21, k21, l21, m21, n21, ()))
 else none
 else
 bif eqL a21 then
 some (((a21, c21, zR0, ()), (), ()), (j21, k21, l21, m21, n21, ()))
 else none
 else none
 else none
 else none
 else
 bif eqL w19 then
 Option.bind (p67_2 fu ((w19, x19, zR0, ()), (262144 : Int), ())) fun ⟨⟨⟨o21, q21, ⟨s21, ⟨t21, u21, _⟩, _⟩, _⟩, _, _⟩, w21⟩ =>
 bif s21 then
 bif eqL o21 then
 bif eqL w21 then
 Option.bind (p90_4 fu ((o21, q21, (true, (t21, u21, ()), dflt .unit), ()), (y12, u19, c20, f20, w21, ()), ())) fun ⟨⟨⟨x21, y21, ⟨z21, ⟨a22, c22, _⟩, _⟩, _⟩, _, _⟩, ⟨f22, h22, i22, j22, k22, _⟩⟩ =>
 bif z21 then
 bif eqL x21 then
 some (((x21, y21, (true, (a22, c22, ()), dflt .unit), ()), (), ()), (f22, h22, i22, j22, k22, ()))
 else none
 else
 bif eqL x21 then
 some (((x21, y21, zR0, ()), (), ()), (f22, h22, i22, j22, k22, ()))
 else none
 else none
 else none
 else
 bif eqL o21 then
 bif eqL w21 then
 Option.bind (p90_4 fu ((o21, q21, zR0, ()), (y12, u19, c20, f20, w21, ()), ())) fun ⟨⟨⟨l22, m22, ⟨n22, ⟨o22, q22, _⟩, _⟩, _⟩, _, _⟩, ⟨s22, t22, u22, w22, x22, _⟩⟩ =>
 bif n22 then
 bif eqL l22 then
 some (((l22, m22, (true, (o22, q22, ()), dflt .unit), ()), (), ()), (s22, t22, u22, w22, x22, ()))
 else none
 else
 bif eqL l22 then
 some (((l22, m22, zR0, ()), (), ()), (s22, t22, u22, w22, x22, ()))
 else none
 else none
 else none
 else none
 else none
 else
 bif eqL n19 then
 Option.bind (p71_2 fu ((n19, o19, zR0, ()), ())) fun ⟨⟨⟨y22, z22, ⟨a23, ⟨c23, f23, _⟩, _⟩, _⟩, _, _⟩, ⟨h23, i23, _⟩⟩ =>
 bif a23 then
 bif eqL y22 then
 Option.bind (p67_2 fu ((y22, z22, (true, (c23, f23, ()), dflt .unit), ()), (262144 : Int), ())) fun ⟨⟨⟨j23, k23, ⟨l23, ⟨m23, n23, _⟩, _⟩, _⟩, _, _⟩, o23⟩ =>
 bif l23 then
 bif eqL j23 then
 bif eqL o23 then
 Option.bind (p90_4 fu ((j23, k23, (true, (m23, n23, ()), dflt .unit), ()), (y12, u19, h23, i23, o23, ()), ())) fun ⟨⟨⟨q23, s23, ⟨t23, ⟨u23, w23, _⟩, _⟩, _⟩, _, _⟩, ⟨x23, y23, z23, a24, c24, _⟩⟩ =>
 bif t23 then
 bif eqL q23 then
 some (((q23, s23, (true, (u23, w23, ()), dflt .unit), ()), (), ()), (x23, y23, z23, a24, c24, ()))
 else none
 else
 bif eqL q23 then
 some (((q23, s23, zR0, ()), (), ()), (x23, y23, z23, a24, c24, ()))
 else none
 else none
 else none
 else
 bif eqL j23 then
 bif eqL o23 then
 Option.bind (p90_4 fu ((j23, k23, zR0, ()), (y12, u19, h23, i23, o23, ()), ())) fun ⟨⟨⟨f24, h24, ⟨i24, ⟨j24, k24, _⟩, _⟩, _⟩, _, _⟩, ⟨l24, m24, n24, o24, q24, _⟩⟩ =>
 bif i24 then
 bif eqL f24 then
 some (((f24, h24, (true, (j24, k24, ()), dflt .unit), ()), (), ()), (l24, m24, n24, o24, q24, ()))
 else none
 else
 bif eqL f24 then
 some (((f24, h24, zR0, ()), (), ()), (l24, m24, n24, o24, q24, ()))
 else none
 else none
 else none
 else none
 else
 bif eqL y22 then
 Option.bind (p67_2 fu ((y22, z22, zR0, ()), (262144 : Int), ())) fun ⟨⟨⟨s24, t24, ⟨u24, ⟨w24, x24, _⟩, _⟩, _⟩, _, _⟩, y24⟩ =>
 bif u24 then
 bif eqL s24 then
 bif eqL y24 then
 Option.bind (p90_4 fu ((s24, t24, (true, (w24, x24, ()), dflt .unit), ()), (y12, u19, h23, i23, y24, ()), ())) fun ⟨⟨⟨z24, a25, ⟨c25, ⟨f25, h25, _⟩, _⟩, _⟩, _, _⟩, ⟨i25, j25, k25, l25, m25, _⟩⟩ =>
 bif c25 then
 bif eqL z24 then
 some (((z24, a25, (true, (f25, h25, ()), dflt .unit), ()), (), ()), (i25, j25, k25, l25, m25, ()))
 else none
 else
 bif eqL z24 then
 some (((z24, a25, zR0, ()), (), ()), (i25, j25, k25, l25, m25, ()))
 else none
 else none
 else none
 else
 bif eqL s24 then
 bif eqL y24 then
 Option.bind (p90_4 fu ((s24, t24, zR0, ()), (y12, u19, h23, i23, y24, ()), ())) fun ⟨⟨⟨n25, o25, ⟨q25, ⟨s25, t25, _⟩, _⟩, _⟩, _, _⟩, ⟨u25, w25, x25, y25, z25, _⟩⟩ =>
 bif q25 then
 bif eqL n25 then
 some (((n25, o25, (true, (s25, t25, ()), dflt .unit), ()), (), ()), (u25, w25, x25, y25, z25, ()))
 else none
 else
 bif eqL n25 then
 some (((n25, o25, zR0, ()), (), ()), (u25, w25, x25, y25, z25, ()))
 else none
 else none
 else none
 else none
 else none
 else none
 else none
def e49_2 (fu : Nat) : Ent := ⟨49, (.cons Y6 .nil), (.cons Y5 (.cons .dead .nil)), Y3, p49_2 fu⟩
def d49_2 (fu : Nat) : DC := (.seq (.region [opD 2 (.alloc 37 5 [vU, vU, vS, vS, vS])] [[]] false) (.seq (.region [mvD 3 0, mvD 4 0, oqD 5 (.call 15 [(tD 4)]) (.ent (e15_2 fu)), mvD 6 0, oqD 7 (.call 15 [(tD 6)]) (.ent (e15_2 fu)), mvD 8 0, oqD 9 (.call 71 [(tD 8)]) (.ent (e71_2 fu)), mvD 10 0, oqD 11 (.call 67 [(tD 10), (cD 262144)]) (.ent (e67_2 fu)), opD 12 (.build 5 [vU, vU, vS, vS, vS] [(0, (1, (tD 5))), (1, (1, (tD 7))), (2, (2, (tD 9))), (4, (1, (tD 11)))]), oqD 13 (.call 90 [(tD 3), (tD 12)]) (.ent (e90_4 fu)), onD (.store 5 (tD 2) (tD 13))] [[], [], [1], [], [3, 2], [], [5, 4], [], [7, 6], [2, 4, 6, 8], [0, 9, 8], [10, 10, 0, 1, 2, 3, 4, 5, 6, 7, 8, 9, 10]] false) .ret))
set_option maxRecDepth 1000000 in
theorem v49_2 (fu : Nat) : evF fu (d49_2 fu) rs49 14 (e49_2 fu).ash (e49_2 fu).osh (e49_2 fu).vsh = p49_2 fu := by kernel_rfl
set_option maxRecDepth 1000000 in
theorem b49_2 (fu : Nat) : BodyD Tryd.prog 49 14 (d49_2 fu).erase rs49 := bodyD_mk Tryd.func49 (by kernel_rfl) (by kernel_rfl) (by kernel_rfl) (by kernel_rfl)
theorem g49_2 (fu : Nat) : (e49_2 fu).Good Tryd.prog := good_by orders (b49_2 fu) (l := [e15_2 fu, e15_2 fu, e71_2 fu, e67_2 fu, e90_4 fu]) (by kernel_rfl) ⟨g15_2 fu, g15_2 fu, g71_2 fu, g67_2 fu, g90_4 fu, trivial⟩ (by kernel_rfl) (v49_2 fu)
end Go.Proofs.YtfhdpeceppafiaaDoor
