/-
  The functions, typed.
-/
import Derived.Test.YtfhdpeceppafiaaDoorAsE
import Derived.Test.YtfhdpeceppafiaaDoorDaL
import Derived.Test.YtfhdpeceppafiaaDoorRows
namespace Go.Proofs.YtfhdpeceppafiaaDoor
open Go.RowKit
abbrev T_runtime_errorAddressString : Tp := (.pair .str (.int .u64))
abbrev D_runtime_errorAddressString := (ByteArray) × (Int)
abbrev T_api_Range : Tp := (.pair .str .str)
abbrev D_api_Range := (ByteArray) × (ByteArray)
abbrev T_gazettelaw01_Step : Tp := (.pair (.int .i64) (.int .i64))
abbrev D_gazettelaw01_Step := (Int) × (Int)
abbrev T_reflectlite_ValueError : Tp := (.pair .str (.int .u8))
abbrev D_reflectlite_ValueError := (ByteArray) × (Int)
abbrev T_api_Conf : Tp := (.pair (.sl (.int .i64)) (.sl (.int .i64)))
abbrev D_api_Conf := (List (Int)) × (List (Int))
abbrev T_api_Hard : Tp := (.pair (.int .u64) (.pair (.int .i64) (.int .u64)))
abbrev D_api_Hard := (Int) × ((Int) × (Int))
abbrev T_runtime_boundsError : Tp := (.pair (.int .i64) (.pair (.int .i64) (.pair .bool (.int .u8))))
abbrev D_runtime_boundsError := (Int) × ((Int) × ((Bool) × (Int)))
abbrev T_gazetteref01_Reader : Tp := (.pair (.sl (.int .u8)) (.pair (.int .i64) T_gazettelaw01_Step))
abbrev D_gazetteref01_Reader := (List (Int)) × ((Int) × (D_gazettelaw01_Step))
abbrev T_abi_Method : Tp := (.pair (.int .i32) (.pair (.int .i32) (.pair (.int .i32) (.int .i32))))
abbrev D_abi_Method := (Int) × ((Int) × ((Int) × (Int)))
abbrev T_api_Record : Tp := (.pair (.int .u64) (.pair .str (.pair (.sl (.int .u8)) (.pair (.int .u64) (.int .u64)))))
abbrev D_api_Record := (Int) × ((ByteArray) × ((List (Int)) × ((Int) × (Int))))
abbrev T_abi_UncommonType : Tp := (.pair (.int .i32) (.pair (.int .u16) (.pair (.int .u16) (.pair (.int .u32) (.int .u32)))))
abbrev D_abi_UncommonType := (Int) × ((Int) × ((Int) × ((Int) × (Int))))
abbrev T_api_Snap : Tp := (.pair (.int .u64) (.pair (.int .u64) (.pair T_api_Conf (.sl (.int .u8)))))
abbrev D_api_Snap := (Int) × ((Int) × ((D_api_Conf) × (List (Int))))
abbrev T_api_Entry : Tp := (.pair (.int .u64) (.pair (.int .u64) (.pair (.int .i64) (.pair (.sl (.int .u8)) T_api_Conf))))
abbrev D_api_Entry := (Int) × ((Int) × ((Int) × ((List (Int)) × (D_api_Conf))))
abbrev T_api_Item : Tp := (.pair (.int .i64) (.pair (.int .u64) (.pair T_api_Entry (.pair T_api_Hard (.pair (.int .u64) T_api_Snap)))))
abbrev D_api_Item := (Int) × ((Int) × ((D_api_Entry) × ((D_api_Hard) × ((Int) × (D_api_Snap)))))
abbrev T_gazettelaw01_Thing : Tp := (.pair (.int .i64) (.pair (.int .u64) (.pair (.int .i64) (.pair .bool (.pair (.sl (.int .u8)) (.pair T_api_Conf (.pair T_api_Entry (.pair T_api_Snap (.pair T_api_Range T_api_Record)))))))))
abbrev D_gazettelaw01_Thing := (Int) × ((Int) × ((Int) × ((Bool) × ((List (Int)) × ((D_api_Conf) × ((D_api_Entry) × ((D_api_Snap) × ((D_api_Range) × (D_api_Record)))))))))
theorem orders : Tryd.prog.follows .mixedOrders = true := by kernel_rfl
abbrev Y0 : Sh := (.agg 3 (.cons (.own .own 5 (.int .u8)) (.cons (.hole (.int .i64)) (.cons (.alt (.ifc 99 (.look (.cons (.hole (.int .i64)) (.cons (.hole (.int .i64)) .nil)))) (.nilv 1)) .nil))))
abbrev Y1 : Sh := (.box 73 4 (.cons (.hole (.sl (.int .u8))) (.cons (.hole (.int .i64)) (.cons (.hole (.int .i64)) (.cons (.hole (.int .i64)) .nil)))))
abbrev Y2 : Sh := (.agg 4 (.cons (.hole (.sl (.int .u8))) (.cons (.hole (.int .i64)) (.cons (.hole (.int .i64)) (.cons (.hole (.int .i64)) .nil)))))
abbrev Y3 : Sh := (.box 95 3 (.cons (.own .own 5 (.int .u8)) (.cons (.hole (.int .i64)) (.cons (.alt (.ifc 99 (.look (.cons (.hole (.int .i64)) (.cons (.hole (.int .i64)) .nil)))) (.nilv 1)) .nil))))
abbrev Z4 : Type := (Int) × ((Int) × ((Int) × ((List (Int)) × ((List (Int)) × ((List (Int)) × (Unit))))))
abbrev Y5 : Sh := (.agg 6 (.cons (.hole (.int .u64)) (.cons (.hole (.int .u64)) (.cons (.hole (.int .i64)) (.cons (.hole (.sl (.int .u8))) (.cons (.hole (.sl (.int .i64))) (.cons (.hole (.sl (.int .i64))) .nil)))))))
abbrev Y6 : Sh := (.agg 6 (.cons (.hole (.int .u64)) (.cons (.hole (.int .u64)) (.cons (.hole (.int .i64)) (.cons (.own .own 5 (.int .u8)) (.cons (.own .own 3 (.int .i64)) (.cons (.own .own 3 (.int .i64)) .nil)))))))
abbrev Y7 : Sh := (.agg 5 (.cons (.hole (.int .u64)) (.cons (.hole (.int .u64)) (.cons (.hole (.sl (.int .i64))) (.cons (.hole (.sl (.int .i64))) (.cons (.hole (.sl (.int .u8))) .nil))))))
abbrev Y8 : Sh := (.agg 5 (.cons (.hole (.int .u64)) (.cons (.hole (.int .u64)) (.cons (.own .own 3 (.int .i64)) (.cons (.own .own 3 (.int .i64)) (.cons (.own .own 5 (.int .u8)) .nil))))))
abbrev Y9 : Sh := (.agg 5 (.cons (.hole (.int .u64)) (.cons (.hole .str) (.cons (.hole (.sl (.int .u8))) (.cons (.hole (.int .u64)) (.cons (.hole (.int .u64)) .nil))))))
abbrev Y10 : Sh := (.agg 5 (.cons (.hole (.int .u64)) (.cons (.hole .str) (.cons (.own .own 5 (.int .u8)) (.cons (.hole (.int .u64)) (.cons (.hole (.int .u64)) .nil))))))
def eqL {α : Type} (l : List α) : Bool := decide (l.length = l.length)
theorem eqL_t {α : Type} (l : List α) : eqL l = true := decide_eq_true rfl
abbrev zR0 := ((false, dflt (.pair (.int .i64) (.pair (.int .i64) .unit)), ()) : Bool × (den (.pair (.int .i64) (.pair (.int .i64) .unit))) × Unit)
def rs34 : List RVx := []
/-- (*gazette/codec.Writer).Uint -/
def p34 (fu : Nat) : ((Unit) × (Unit)) × ((Int) × (Unit)) → Option ((((List (Int)) × (Unit)) × (Unit)) × (Unit)) := fun ⟨⟨_, _⟩, a, _⟩ =>
loopO (S := ((Int) × (Unit)) × (((List (Int)) × (Unit)) × (Unit))) fu (fun ⟨⟨c, _⟩, ⟨⟨f, _⟩, _⟩⟩ =>
 bif decide (c ≥ (128 : Int)) then
 bif eqL f then
 bif decide (List.length f + List.length ([IntKind.wrap .u8 ((BitVec.ofInt (IntKind.bits .u8) (IntKind.wrap .u8 c) ||| BitVec.ofInt (IntKind.bits .u8) (128 : Int)).toNat : Int)]) ≤ maxLen ∧ (List.length f + List.length ([IntKind.wrap .u8 ((BitVec.ofInt (IntKind.bits .u8) (IntKind.wrap .u8 c) ||| BitVec.ofInt (IntKind.bits .u8) (128 : Int)).toNat : Int)])) * 1 ≤ 140737488355328) then
 bif eqL (f ++ [IntKind.wrap .u8 ((BitVec.ofInt (IntKind.bits .u8) (IntKind.wrap .u8 c) ||| BitVec.ofInt (IntKind.bits .u8) (128 : Int)).toNat : Int)]) then
 some (.inl ((Int.fdiv c (2 ^ (min (Int.toNat (7 : Int)) (IntKind.bits .u64))), ()), (((f ++ [IntKind.wrap .u8 ((BitVec.ofInt (IntKind.bits .u8) (IntKind.wrap .u8 c) ||| BitVec.ofInt (IntKind.bits .u8) (128 : Int)).toNat : Int)]), ()), ())))
 else none
 else none
 else none
 else
 inrO (bif eqL f then
 bif decide (List.length f + List.length ([IntKind.wrap .u8 c]) ≤ maxLen ∧ (List.length f + List.length ([IntKind.wrap .u8 c])) * 1 ≤ 140737488355328) then
 bif eqL (f ++ [IntKind.wrap .u8 c]) then
 some ((((f ++ [IntKind.wrap .u8 c]), ()), ()), ())
 else none
 else none
 else none))
 ((a, ()), (([], ()), ()))
def e34 (fu : Nat) : Ent := ⟨34, (.cons (.box 60 1 (.cons .nils .nil)) (.cons (.hole (.int .u64)) .nil)), (.cons (.agg 1 (.cons (.own .own 5 (.int .u8)) .nil)) .nil), (.tup 0 .nil), p34 fu⟩
def d34 (_ : Nat) : DC := (.seq (.block 0 (.loop ⟨[1], (.cons (.hole (.int .u64)) .nil), [(0, 60, 1)], (.cons (.agg 1 (.cons (.own .own 5 (.int .u8)) .nil)) .nil), [0], []⟩
 (.seq (.seq (.region [mvD 4 1, opD 5 (.bin .geq (tD 4) (.const (.int .u64 128)))] [[], [0]] false) (.cond (.tmp 5) .skip (.exit 0))) (.block 1 (.seq (.region [mvD 6 0, mvD 7 0, opD 8 (.pure .nilc [(tD 7)]), opD 9 (.faddr 0 (tD 8)), opD 10 (.load false 1 (tD 9)), mvD 11 1, opD 12 (.conv .u8 (tD 11)), opD 13 (.bin .or (tD 12) (.const (.int .u8 128))), oqD 14 (.bslice 5 1 1 [(.int .u8 0)] [(0, (tD 13))]) (.ty (.int .u8)), oqD 15 (.app 5 1 [(.int .u8 0)] 1 (tD 10) (tD 14)) (.ty (.int .u8)), opD 16 (.pure .nilc [(tD 6)]), opD 17 (.faddr 0 (tD 16)), onD (.store 1 (tD 17) (tD 15))] [[], [], [1], [2], [3], [], [5], [6], [7], [4, 8], [0, 0, 1, 2, 3, 4, 5, 6, 7, 8, 9], [10, 0, 1, 2, 3, 4, 5, 6, 7, 8, 9], [11, 9, 9, 0, 1, 2, 3, 4, 5, 6, 7, 8, 9]] false) (.region [mvD 18 1, opD 19 (.bin .shr (tD 18) (.const (.int .u64 7))), mvD 1 19] [[], [0], [1, 0, 1]] false)))))) (.region [mvD 20 0, mvD 21 0, opD 22 (.pure .nilc [(tD 21)]), opD 23 (.faddr 0 (tD 22)), opD 24 (.load false 1 (tD 23)), mvD 25 1, opD 26 (.conv .u8 (tD 25)), oqD 27 (.bslice 5 1 1 [(.int .u8 0)] [(0, (tD 26))]) (.ty (.int .u8)), oqD 28 (.app 5 1 [(.int .u8 0)] 1 (tD 24) (tD 27)) (.ty (.int .u8)), opD 29 (.pure .nilc [(tD 20)]), opD 30 (.faddr 0 (tD 29)), onD (.store 1 (tD 30) (tD 28))] [[], [], [1], [2], [3], [], [5], [6], [4, 7], [0, 0, 1, 2, 3, 4, 5, 6, 7, 8], [9, 0, 1, 2, 3, 4, 5, 6, 7, 8], [10, 8, 8, 0, 1, 2, 3, 4, 5, 6, 7, 8]] false))
set_option maxRecDepth 1000000 in
theorem v34 (fu : Nat) : evF fu (d34 fu) rs34 31 (e34 fu).ash (e34 fu).osh (e34 fu).vsh = p34 fu := by kernel_rfl
set_option maxRecDepth 1000000 in
theorem b34 (fu : Nat) : BodyD Tryd.prog 34 31 (d34 fu).erase rs34 := bodyD_mk Tryd.func34 (by kernel_rfl) (by kernel_rfl) (by kernel_rfl) (by kernel_rfl)
theorem g34 (fu : Nat) : (e34 fu).Good Tryd.prog := good_by orders (b34 fu) (l := []) (by kernel_rfl) trivial (by kernel_rfl) (v34 fu)
/-- (*gazette/codec.Writer).Uint -/
def p34_1 (fu : Nat) : ((List (Int)) × (Unit)) × ((Int) × (Unit)) → Option ((((List (Int)) × (Unit)) × ((Unit) × (Unit))) × (Unit)) := fun ⟨⟨a, _⟩, c, _⟩ =>
bif eqL a then
 loopO (S := ((Int) × (Unit)) × (((List (Int)) × (Unit)) × (Unit))) fu (fun ⟨⟨f, _⟩, ⟨⟨h, _⟩, _⟩⟩ =>
 bif decide (f ≥ (128 : Int)) then
 bif eqL h then
 bif decide (List.length h + List.length ([IntKind.wrap .u8 ((BitVec.ofInt (IntKind.bits .u8) (IntKind.wrap .u8 f) ||| BitVec.ofInt (IntKind.bits .u8) (128 : Int)).toNat : Int)]) ≤ maxLen ∧ (List.length h + List.length ([IntKind.wrap .u8 ((BitVec.ofInt (IntKind.bits .u8) (IntKind.wrap .u8 f) ||| BitVec.ofInt (IntKind.bits .u8) (128 : Int)).toNat : Int)])) * 1 ≤ 140737488355328) then
 bif eqL (h ++ [IntKind.wrap .u8 ((BitVec.ofInt (IntKind.bits .u8) (IntKind.wrap .u8 f) ||| BitVec.ofInt (IntKind.bits .u8) (128 : Int)).toNat : Int)]) then
 some (.inl ((Int.fdiv f (2 ^ (min (Int.toNat (7 : Int)) (IntKind.bits .u64))), ()), (((h ++ [IntKind.wrap .u8 ((BitVec.ofInt (IntKind.bits .u8) (IntKind.wrap .u8 f) ||| BitVec.ofInt (IntKind.bits .u8) (128 : Int)).toNat : Int)]), ()), ())))
 else none
 else none
 else none
 else
 inrO (bif eqL h then
 bif decide (List.length h + List.length ([IntKind.wrap .u8 f]) ≤ maxLen ∧ (List.length h + List.length ([IntKind.wrap .u8 f])) * 1 ≤ 140737488355328) then
 bif eqL (h ++ [IntKind.wrap .u8 f]) then
 some ((((h ++ [IntKind.wrap .u8 f]), ()), (), ()), ())
 else none
 else none
 else none))
 ((c, ()), ((a, ()), ()))
else none
def e34_1 (fu : Nat) : Ent := ⟨34, (.cons (.box 60 1 (.cons (.own .own 5 (.int .u8)) .nil)) (.cons (.hole (.int .u64)) .nil)), (.cons (.agg 1 (.cons (.own .own 5 (.int .u8)) .nil)) (.cons .dead .nil)), (.tup 0 .nil), p34_1 fu⟩
def d34_1 (_ : Nat) : DC := (.seq (.block 0 (.loop ⟨[1], (.cons (.hole (.int .u64)) .nil), [(0, 60, 1)], (.cons (.agg 1 (.cons (.own .own 5 (.int .u8)) .nil)) .nil), [0], [1]⟩
 (.seq (.seq (.region [mvD 4 1, opD 5 (.bin .geq (tD 4) (.const (.int .u64 128)))] [[], [0]] false) (.cond (.tmp 5) .skip (.exit 0))) (.block 1 (.seq (.region [mvD 6 0, mvD 7 0, opD 8 (.pure .nilc [(tD 7)]), opD 9 (.faddr 0 (tD 8)), opD 10 (.load false 1 (tD 9)), mvD 11 1, opD 12 (.conv .u8 (tD 11)), opD 13 (.bin .or (tD 12) (.const (.int .u8 128))), oqD 14 (.bslice 5 1 1 [(.int .u8 0)] [(0, (tD 13))]) (.ty (.int .u8)), oqD 15 (.app 5 1 [(.int .u8 0)] 1 (tD 10) (tD 14)) (.ty (.int .u8)), opD 16 (.pure .nilc [(tD 6)]), opD 17 (.faddr 0 (tD 16)), onD (.store 1 (tD 17) (tD 15))] [[], [], [1], [2], [3], [], [5], [6], [7], [4, 8], [0, 0, 1, 2, 3, 4, 5, 6, 7, 8, 9], [10, 0, 1, 2, 3, 4, 5, 6, 7, 8, 9], [11, 9, 9, 0, 1, 2, 3, 4, 5, 6, 7, 8, 9]] false) (.region [mvD 18 1, opD 19 (.bin .shr (tD 18) (.const (.int .u64 7))), mvD 1 19] [[], [0], [1, 0, 1]] false)))))) (.region [mvD 20 0, mvD 21 0, opD 22 (.pure .nilc [(tD 21)]), opD 23 (.faddr 0 (tD 22)), opD 24 (.load false 1 (tD 23)), mvD 25 1, opD 26 (.conv .u8 (tD 25)), oqD 27 (.bslice 5 1 1 [(.int .u8 0)] [(0, (tD 26))]) (.ty (.int .u8)), oqD 28 (.app 5 1 [(.int .u8 0)] 1 (tD 24) (tD 27)) (.ty (.int .u8)), opD 29 (.pure .nilc [(tD 20)]), opD 30 (.faddr 0 (tD 29)), onD (.store 1 (tD 30) (tD 28))] [[], [], [1], [2], [3], [], [5], [6], [4, 7], [0, 0, 1, 2, 3, 4, 5, 6, 7, 8], [9, 0, 1, 2, 3, 4, 5, 6, 7, 8], [10, 8, 8, 0, 1, 2, 3, 4, 5, 6, 7, 8]] false))
set_option maxRecDepth 1000000 in
theorem v34_1 (fu : Nat) : evF fu (d34_1 fu) rs34 31 (e34_1 fu).ash (e34_1 fu).osh (e34_1 fu).vsh = p34_1 fu := by kernel_rfl
set_option maxRecDepth 1000000 in
theorem b34_1 (fu : Nat) : BodyD Tryd.prog 34 31 (d34_1 fu).erase rs34 := bodyD_mk Tryd.func34 (by kernel_rfl) (by kernel_rfl) (by kernel_rfl) (by kernel_rfl)
theorem g34_1 (fu : Nat) : (e34_1 fu).Good Tryd.prog := good_by orders (b34_1 fu) (l := []) (by kernel_rfl) trivial (by kernel_rfl) (v34_1 fu)
def rs35 : List RVx := []
/-- (*gazette/codec.Writer).String -/
def p35 (fu : Nat) : ((List (Int)) × (Unit)) × ((ByteArray) × (Unit)) → Option ((((List (Int)) × (Unit)) × ((Unit) × (Unit))) × (Unit)) := fun ⟨⟨a, _⟩, c, _⟩ =>
bif eqL a then
 Option.bind (p34_1 fu ((a, ()), IntKind.wrap .u64 (ByteArray.size c : Int), ())) fun ⟨⟨⟨f, _⟩, _, _⟩, _⟩ =>
 bif eqL f then
 bif decide (List.length f + ByteArray.size c ≤ maxLen ∧ List.length f + ByteArray.size c ≤ 140737488355328) then
 bif eqL (f ++ numsOf c) then
 some ((((f ++ numsOf c), ()), (), ()), ())
 else none
 else none
 else none
else none
def e35 (fu : Nat) : Ent := ⟨35, (.cons (.box 60 1 (.cons (.own .own 5 (.int .u8)) .nil)) (.cons (.hole .str) .nil)), (.cons (.agg 1 (.cons (.own .own 5 (.int .u8)) .nil)) (.cons .dead .nil)), (.tup 0 .nil), p35 fu⟩
def d35 (fu : Nat) : DC := (.seq (.region [mvD 4 0, mvD 5 1, opD 6 (.len true (tD 5)), opD 7 (.conv .u64 (tD 6)), oqD 8 (.call 34 [(tD 4), (tD 7)]) (.ent (e34_1 fu))] [[], [], [1], [2], [0, 3]] false) (.region [mvD 9 0, mvD 10 0, opD 11 (.pure .nilc [(tD 10)]), opD 12 (.faddr 0 (tD 11)), opD 13 (.load false 1 (tD 12)), mvD 14 1, opD 15 (.apps 5 (tD 13) (tD 14)), opD 16 (.pure .nilc [(tD 9)]), opD 17 (.faddr 0 (tD 16)), onD (.store 1 (tD 17) (tD 15))] [[], [], [1], [2], [3], [], [4, 5], [0, 0, 1, 2, 3, 4, 5, 6], [7, 0, 1, 2, 3, 4, 5, 6], [8, 6, 6, 0, 1, 2, 3, 4, 5, 6]] false))
set_option maxRecDepth 1000000 in
theorem v35 (fu : Nat) : evF fu (d35 fu) rs35 18 (e35 fu).ash (e35 fu).osh (e35 fu).vsh = p35 fu := by kernel_rfl
set_option maxRecDepth 1000000 in
theorem b35 (fu : Nat) : BodyD Tryd.prog 35 18 (d35 fu).erase rs35 := bodyD_mk Tryd.func35 (by kernel_rfl) (by kernel_rfl) (by kernel_rfl) (by kernel_rfl)
theorem g35 (fu : Nat) : (e35 fu).Good Tryd.prog := good_by orders (b35 fu) (l := [e34_1 fu]) (by kernel_rfl) ⟨g34_1 fu, trivial⟩ (by kernel_rfl) (v35 fu)
def rs27 : List RVx := [(.tmp 2)]
/-- (*gazette/codec.Writer).Done -/
def p27 (_ : Nat) : ((List (Int)) × (Unit)) × (Unit) → Option ((Unit) × (List (Int))) := fun ⟨⟨a, _⟩, _⟩ =>
bif decide (List.length a ≤ maxLen ∧ List.length a * 1 ≤ 140737488355328) then
 bif eqL a then
 some ((), a)
 else none
else none
def e27 (fu : Nat) : Ent := ⟨27, (.cons (.look (.cons (.hole (.sl (.int .u8))) .nil)) .nil), .nil, (.own .own 5 (.int .u8)), p27 fu⟩
def d27 (_ : Nat) : DC := (.seq (.region [opD 2 (.mov (.const vS))] [[]] false) (.seq (.region [mvD 3 0, opD 4 (.pure .nilc [(tD 3)]), opD 5 (.faddr 0 (tD 4)), opD 6 (.load false 1 (tD 5)), oqD 7 (.app 5 1 [(.int .u8 0)] 1 (.const vS) (tD 6)) (.ty (.int .u8)), mvD 2 7] [[], [0], [1], [2], [3], [4, 4, 0, 1, 2, 3, 4]] false) .ret))
set_option maxRecDepth 1000000 in
theorem v27 (fu : Nat) : evF fu (d27 fu) rs27 8 (e27 fu).ash (e27 fu).osh (e27 fu).vsh = p27 fu := by kernel_rfl
set_option maxRecDepth 1000000 in
theorem b27 (fu : Nat) : BodyD Tryd.prog 27 8 (d27 fu).erase rs27 := bodyD_mk Tryd.func27 (by kernel_rfl) (by kernel_rfl) (by kernel_rfl) (by kernel_rfl)
theorem g27 (fu : Nat) : (e27 fu).Good Tryd.prog := good_by orders (b27 fu) (l := []) (by kernel_rfl) trivial (by kernel_rfl) (v27 fu)
def rs24 : List RVx := [(.tmp 2)]
/-- gazette/codec.Sum -/
def p24 (fu : Nat) : (List (Int)) × (Unit) → Option ((Unit) × (Int)) := fun ⟨a, _⟩ =>
loopO (S := ((Int) × ((Int) × (Unit))) × (Unit)) fu (fun ⟨⟨c, f, _⟩, _⟩ =>
 bif decide (f < (List.length a : Int)) then
 bif decide ((0 : Int) ≤ f ∧ f < (List.length a : Int)) then
 bif decide (Int.toNat f < List.length a) then
 bif decide ((0 : Int) ≤ IntKind.wrap .u32 ((BitVec.ofInt (IntKind.bits .u32) (IntKind.wrap .u32 ((BitVec.ofInt (IntKind.bits .u32) c ^^^ BitVec.ofInt (IntKind.bits .u32) (IntKind.wrap .u32 (List.getD a (Int.toNat f) (dflt (.int .u8))))).toNat : Int)) &&& BitVec.ofInt (IntKind.bits .u32) (15 : Int)).toNat : Int) ∧ IntKind.wrap .u32 ((BitVec.ofInt (IntKind.bits .u32) (IntKind.wrap .u32 ((BitVec.ofInt (IntKind.bits .u32) c ^^^ BitVec.ofInt (IntKind.bits .u32) (IntKind.wrap .u32 (List.getD a (Int.toNat f) (dflt (.int .u8))))).toNat : Int)) &&& BitVec.ofInt (IntKind.bits .u32) (15 : Int)).toNat : Int) < (16 : Int) ∧ List.length gl0 = 16) then
 bif decide (Int.toNat (IntKind.wrap .u32 ((BitVec.ofInt (IntKind.bits .u32) (IntKind.wrap .u32 ((BitVec.ofInt (IntKind.bits .u32) c ^^^ BitVec.ofInt (IntKind.bits .u32) (IntKind.wrap .u32 (List.getD a (Int.toNat f) (dflt (.int .u8))))).toNat : Int)) &&& BitVec.ofInt (IntKind.bits .u32) (15 : Int)).toNat : Int)) < List.length gl0) then
 bif decide ((0 : Int) ≤ IntKind.wrap .u32 ((BitVec.ofInt (IntKind.bits .u32) (IntKind.wrap .u32 ((BitVec.ofInt (IntKind.bits .u32) (Int.fdiv (IntKind.wrap .u32 ((BitVec.ofInt (IntKind.bits .u32) c ^^^ BitVec.ofInt (IntKind.bits .u32) (IntKind.wrap .u32 (List.getD a (Int.toNat f) (dflt (.int .u8))))).toNat : Int)) (2 ^ (min (Int.toNat (4 : Int)) (IntKind.bits .u32)))) ^^^ BitVec.ofInt (IntKind.bits .u32) (List.getD gl0 (Int.toNat (IntKind.wrap .u32 ((BitVec.ofInt (IntKind.bits .u32) (IntKind.wrap .u32 ((BitVec.ofInt (IntKind.bits .u32) c ^^^ BitVec.ofInt (IntKind.bits .u32) (IntKind.wrap .u32 (List.getD a (Int.toNat f) (dflt (.int .u8))))).toNat : Int)) &&& BitVec.ofInt (IntKind.bits .u32) (15 : Int)).toNat : Int))) (dflt (.int .u32)))).toNat : Int)) &&& BitVec.ofInt (IntKind.bits .u32) (15 : Int)).toNat : Int) ∧ IntKind.wrap .u32 ((BitVec.ofInt (IntKind.bits .u32) (IntKind.wrap .u32 ((BitVec.ofInt (IntKind.bits .u32) (Int.fdiv (IntKind.wrap .u32 ((BitVec.ofInt (IntKind.bits .u32) c ^^^ BitVec.ofInt (IntKind.bits .u32) (IntKind.wrap .u32 (List.getD a (Int.toNat f) (dflt (.int .u8))))).toNat : Int)) (2 ^ (min (Int.toNat (4 : Int)) (IntKind.bits .u32)))) ^^^ BitVec.ofInt (IntKind.bits .u32) (List.getD gl0 (Int.toNat (IntKind.wrap .u32 ((BitVec.ofInt (IntKind.bits .u32) (IntKind.wrap .u32 ((BitVec.ofInt (IntKind.bits .u32) c ^^^ BitVec.ofInt (IntKind.bits .u32) (IntKind.wrap .u32 (List.getD a (Int.toNat f) (dflt (.int .u8))))).toNat : Int)) &&& BitVec.ofInt (IntKind.bits .u32) (15 : Int)).toNat : Int))) (dflt (.int .u32)))).toNat : Int)) &&& BitVec.ofInt (IntKind.bits .u32) (15 : Int)).toNat : Int) < (16 : Int) ∧ List.length gl0 = 16) then
 bif decide (Int.toNat (IntKind.wrap .u32 ((BitVec.ofInt (IntKind.bits .u32) (IntKind.wrap .u32 ((BitVec.ofInt (IntKind.bits .u32) (Int.fdiv (IntKind.wrap .u32 ((BitVec.ofInt (IntKind.bits .u32) c ^^^ BitVec.ofInt (IntKind.bits .u32) (IntKind.wrap .u32 (List.getD a (Int.toNat f) (dflt (.int .u8))))).toNat : Int)) (2 ^ (min (Int.toNat (4 : Int)) (IntKind.bits .u32)))) ^^^ BitVec.ofInt (IntKind.bits .u32) (List.getD gl0 (Int.toNat (IntKind.wrap .u32 ((BitVec.ofInt (IntKind.bits .u32) (IntKind.wrap .u32 ((BitVec.ofInt (IntKind.bits .u32) c ^^^ BitVec.ofInt (IntKind.bits .u32) (IntKind.wrap .u32 (List.getD a (Int.toNat f) (dflt (.int .u8))))).toNat : Int)) &&& BitVec.ofInt (IntKind.bits .u32) (15 : Int)).toNat : Int))) (dflt (.int .u32)))).toNat : Int)) &&& BitVec.ofInt (IntKind.bits .u32) (15 : Int)).toNat : Int)) < List.length gl0) then
 some (.inl ((IntKind.wrap .u32 ((BitVec.ofInt (IntKind.bits .u32) (Int.fdiv (IntKind.wrap .u32 ((BitVec.ofInt (IntKind.bits .u32) (Int.fdiv (IntKind.wrap .u32 ((BitVec.ofInt (IntKind.bits .u32) c ^^^ BitVec.ofInt (IntKind.bits .u32) (IntKind.wrap .u32 (List.getD a (Int.toNat f) (dflt (.int .u8))))).toNat : Int)) (2 ^ (min (Int.toNat (4 : Int)) (IntKind.bits .u32)))) ^^^ BitVec.ofInt (IntKind.bits .u32) (List.getD gl0 (Int.toNat (IntKind.wrap .u32 ((BitVec.ofInt (IntKind.bits .u32) (IntKind.wrap .u32 ((BitVec.ofInt (IntKind.bits .u32) c ^^^ BitVec.ofInt (IntKind.bits .u32) (IntKind.wrap .u32 (List.getD a (Int.toNat f) (dflt (.int .u8))))).toNat : Int)) &&& BitVec.ofInt (IntKind.bits .u32) (15 : Int)).toNat : Int))) (dflt (.int .u32)))).toNat : Int)) (2 ^ (min (Int.toNat (4 : Int)) (IntKind.bits .u32)))) ^^^ BitVec.ofInt (IntKind.bits .u32) (List.getD gl0 (Int.toNat (IntKind.wrap .u32 ((BitVec.ofInt (IntKind.bits .u32) (IntKind.wrap .u32 ((BitVec.ofInt (IntKind.bits .u32) (Int.fdiv (IntKind.wrap .u32 ((BitVec.ofInt (IntKind.bits .u32) c ^^^ BitVec.ofInt (IntKind.bits .u32) (IntKind.wrap .u32 (List.getD a (Int.toNat f) (dflt (.int .u8))))).toNat : Int)) (2 ^ (min (Int.toNat (4 : Int)) (IntKind.bits .u32)))) ^^^ BitVec.ofInt (IntKind.bits .u32) (List.getD gl0 (Int.toNat (IntKind.wrap .u32 ((BitVec.ofInt (IntKind.bits .u32) (IntKind.wrap .u32 ((BitVec.ofInt (IntKind.bits .u32) c ^^^ BitVec.ofInt (IntKind.bits .u32) (IntKind.wrap .u32 (List.getD a (Int.toNat f) (dflt (.int .u8))))).toNat : Int)) &&& BitVec.ofInt (IntKind.bits .u32) (15 : Int)).toNat : Int))) (dflt (.int .u32)))).toNat : Int)) &&& BitVec.ofInt (IntKind.bits .u32) (15 : Int)).toNat : Int))) (dflt (.int .u32)))).toNat : Int), IntKind.wrap .i64 (f + (1 : Int)), ()), ()))
 else none
 else none
 else none
 else none
 else none
 else none
 else
 inrO (some ((), IntKind.wrap .u32 ((BitVec.ofInt (IntKind.bits .u32) 4294967295 ^^^ BitVec.ofInt (IntKind.bits .u32) c).toNat : Int))))
 (((4294967295 : Int), (0 : Int), ()), ())
def e24 (fu : Nat) : Ent := ⟨24, (.cons (.hole (.sl (.int .u8))) .nil), .nil, (.hole (.int .u32)), p24 fu⟩
def d24 (_ : Nat) : DC := (.seq (.region [opD 2 (.mov (.const (.int .u32 0)))] [[]] false) (.seq (.region [opD 3 (.mov (.const (.int .u32 4294967295)))] [[]] false) (.seq (.seq (.region [mvD 6 0, opD 7 (.len false (tD 6)), opD 8 (.mov (cD 0))] [[], [0], []] false) (.block 0 (.loop ⟨[3, 8], (.cons (.hole (.int .u32)) (.cons (.hole (.int .i64)) .nil)), [], .nil, [6, 7], []⟩
 (.seq (.region [opD 9 (.bin .lss (tD 8) (tD 7))] [[]] false) (.seq (.cond (.tmp 9) .skip (.exit 0)) (.seq (.block 1 (.seq (.region [opD 10 (.iaddr 1 (tD 6) (tD 8)), opD 11 (.load false 1 (tD 10)), mvD 5 11] [[], [0], [1, 0, 1]] false) (.seq (.region [mvD 12 3, mvD 13 5, opD 14 (.conv .u32 (tD 13)), opD 15 (.bin .xor (tD 12) (tD 14)), mvD 3 15] [[], [], [1], [0, 2], [3, 0, 1, 2, 3]] false) (.seq (.region [mvD 16 3, opD 17 (.bin .shr (tD 16) (.const (.int .u64 4))), mvD 18 3, opD 19 (.bin .and (tD 18) (.const (.int .u32 15))), opD 20 (.pure (.gidx 16) [(.global 0), (tD 19)]), opD 21 (.load false 1 (tD 20)), opD 22 (.bin .xor (tD 17) (tD 21)), mvD 3 22] [[], [0], [], [2], [3], [4], [1, 5], [6, 0, 1, 2, 3, 4, 5, 6]] false) (.region [mvD 23 3, opD 24 (.bin .shr (tD 23) (.const (.int .u64 4))), mvD 25 3, opD 26 (.bin .and (tD 25) (.const (.int .u32 15))), opD 27 (.pure (.gidx 16) [(.global 0), (tD 26)]), opD 28 (.load false 1 (tD 27)), opD 29 (.bin .xor (tD 24) (tD 28)), mvD 3 29] [[], [0], [], [2], [3], [4], [1, 5], [6, 0, 1, 2, 3, 4, 5, 6]] false))))) (.region [opD 30 (.bin .add (tD 8) (cD 1)), mvD 8 30] [[], [0]] false))))))) (.seq (.region [mvD 31 3, opD 32 (.pure .com [(tD 31)]), mvD 2 32] [[], [0], [1, 0, 1]] false) .ret))))
set_option maxRecDepth 1000000 in
theorem v24 (fu : Nat) : evF fu (d24 fu) rs24 33 (e24 fu).ash (e24 fu).osh (e24 fu).vsh = p24 fu := by kernel_rfl
set_option maxRecDepth 1000000 in
theorem b24 (fu : Nat) : BodyD Tryd.prog 24 33 (d24 fu).erase rs24 := bodyD_mk Tryd.func24 (by kernel_rfl) (by kernel_rfl) (by kernel_rfl) (by kernel_rfl)
theorem g24 (fu : Nat) : (e24 fu).Good Tryd.prog := good_by orders (b24 fu) (l := []) (by kernel_rfl) trivial (by kernel_rfl) (v24 fu)
def rs11 : List RVx := [(.tmp 0)]
/-- gazette/gazettelaw01.lives -/
def p11 (fu : Nat) : Unit → Option ((Unit) × (Bool)) := fun _ =>
Option.bind (p34 fu (((), ()), (300 : Int), ())) fun ⟨⟨⟨a, _⟩, _⟩, _⟩ =>
bif eqL a then
 Option.bind (p35 fu ((a, ()), (⟨#[97, 98]⟩ : ByteArray), ())) fun ⟨⟨⟨c, _⟩, _, _⟩, _⟩ =>
 bif eqL c then
 Option.bind (p27 fu ((c, ()), ())) fun ⟨_, f⟩ =>
 bif eqL f then
 bif ByteArray.toList (strOfNums f) == ByteArray.toList (⟨#[172, 2, 2, 97, 98]⟩ : ByteArray) then
 bif decide (9 = List.length ([(49 : Int), (50 : Int), (51 : Int), (52 : Int), (53 : Int), (54 : Int), (55 : Int), (56 : Int), (57 : Int)]) ∧ 0 < 9) then
 Option.bind (p24 fu ([(49 : Int), (50 : Int), (51 : Int), (52 : Int), (53 : Int), (54 : Int), (55 : Int), (56 : Int), (57 : Int)], ())) fun ⟨_, h⟩ =>
 some ((), (h == (3808858755 : Int)))
 else none
 else
 some ((), false)
 else none
 else none
else none
def e11 (fu : Nat) : Ent := ⟨11, .nil, .nil, (.hole .bool), p11 fu⟩
def d11 (fu : Nat) : DC := (.seq (.region [opD 0 (.mov (.const vB))] [[]] false) (.seq (.region [opD 2 (.build 1 [vS] []), opD 3 (.box 60 1 (tD 2)), mvD 1 3] [[], [0], [1, 0, 1]] false) (.seq (.region [mvD 4 1, oqD 5 (.call 34 [(tD 4), (.const (.int .u64 300))]) (.ent (e34 fu))] [[], [0]] false) (.seq (.region [mvD 6 1, oqD 7 (.call 35 [(tD 6), (.const (.string ⟨#[97, 98]⟩))]) (.ent (e35 fu))] [[], [0]] false) (.seq (.region [mvD 8 1, oqD 9 (.call 27 [(tD 8)]) (.ent (e27 fu)), opD 10 (.b2s (tD 9)), opD 11 (.bin .eql (tD 10) (.const (.string ⟨#[172, 2, 2, 97, 98]⟩))), mvD 12 11, (⟨(some 13), (some (12, true)), (.bslice 5 1 9 [(.int .u8 0)] [(0, (.const (.int .u8 49))), (1, (.const (.int .u8 50))), (2, (.const (.int .u8 51))), (3, (.const (.int .u8 52))), (4, (.const (.int .u8 53))), (5, (.const (.int .u8 54))), (6, (.const (.int .u8 55))), (7, (.const (.int .u8 56))), (8, (.const (.int .u8 57)))])⟩, (.ty (.int .u8))), ogD 14 12 true (.b2b (tD 13)), (⟨(some 15), (some (12, true)), (.call 24 [(tD 14)])⟩, (.ent (e24 fu))), ogD 16 12 true (.bin .eql (tD 15) (.const (.int .u32 3808858755))), opD 17 (.pick (tD 12) (tD 16) (.const vB)), mvD 0 17] [[], [0], [1], [2], [3, 1], [4], [5, 4], [6, 4, 4], [7, 4], [4, 8], [9, 7, 0, 1, 2, 3, 4, 5, 6, 7, 8, 9]] false) .ret)))))
set_option maxRecDepth 1000000 in
theorem v11 (fu : Nat) : evF fu (d11 fu) rs11 18 (e11 fu).ash (e11 fu).osh (e11 fu).vsh = p11 fu := by kernel_rfl
set_option maxRecDepth 1000000 in
theorem b11 (fu : Nat) : BodyD Tryd.prog 11 18 (d11 fu).erase rs11 := bodyD_mk Tryd.func11 (by kernel_rfl) (by kernel_rfl) (by kernel_rfl) (by kernel_rfl)
theorem g11 (fu : Nat) : (e11 fu).Good Tryd.prog := good_by orders (b11 fu) (l := [e34 fu, e35 fu, e27 fu, e24 fu]) (by kernel_rfl) ⟨g34 fu, g35 fu, g27 fu, g24 fu, trivial⟩ (by kernel_rfl) (v11 fu)
def rs14 : List RVx := [(.tmp 2)]
/-- gazette/codec.NewReader -/
def p14 (_ : Nat) : (List (Int)) × (Unit) → Option ((Unit) × ((List (Int)) × ((Int) × ((Unit) × (Unit))))) := fun ⟨a, _⟩ =>
bif decide (List.length a ≤ maxLen ∧ List.length a * 1 ≤ 140737488355328) then
 bif eqL a then
 some ((), (a, (0 : Int), (), ()))
 else none
else none
def e14 (fu : Nat) : Ent := ⟨14, (.cons (.hole (.sl (.int .u8))) .nil), .nil, (.box 95 3 (.cons (.own .own 5 (.int .u8)) (.cons (.hole (.int .i64)) (.cons (.nilv 1) .nil)))), p14 fu⟩
def d14 (_ : Nat) : DC := (.seq (.region [opD 2 (.mov (.const (.pointer none)))] [[]] false) (.seq (.region [mvD 3 0, oqD 4 (.app 5 1 [(.int .u8 0)] 1 (.const vS) (tD 3)) (.ty (.int .u8)), opD 5 (.build 3 [vS, vI, .nilIface] [(0, (1, (tD 4)))]), opD 6 (.box 95 3 (tD 5)), mvD 2 6] [[], [0], [1], [2], [3, 1, 0, 1, 2, 3]] false) .ret))
set_option maxRecDepth 1000000 in
theorem v14 (fu : Nat) : evF fu (d14 fu) rs14 7 (e14 fu).ash (e14 fu).osh (e14 fu).vsh = p14 fu := by kernel_rfl
set_option maxRecDepth 1000000 in
theorem b14 (fu : Nat) : BodyD Tryd.prog 14 7 (d14 fu).erase rs14 := bodyD_mk Tryd.func14 (by kernel_rfl) (by kernel_rfl) (by kernel_rfl) (by kernel_rfl)
theorem g14 (fu : Nat) : (e14 fu).Good Tryd.prog := good_by orders (b14 fu) (l := []) (by kernel_rfl) trivial (by kernel_rfl) (v14 fu)
def rs40 : List RVx := [(.tmp 2), (.tmp 3), (.tmp 4)]
/-- gazette/codec.number -/
def p40 (fu : Nat) : (List (Int)) × (Unit) → Option ((Unit) × ((Int) × ((Int) × ((Int) × (Unit))))) := fun ⟨a, _⟩ =>
loopO (S := ((Int) × ((Int) × (Unit))) × (Unit)) fu (fun ⟨⟨c, f, _⟩, _⟩ =>
 bif decide (f < (10 : Int)) then
 bif (f == (List.length a : Int)) then
 inrO (some ((), ((0 : Int), (0 : Int), (11 : Int), ())))
 else
 bif decide ((0 : Int) ≤ f ∧ f < (List.length a : Int)) then
 bif decide (Int.toNat f < List.length a) then
 orK (E := ((Int) × ((Bool) × ((Bool) × ((Bool) × (Unit))))) × (Unit))
 (bif (f == (9 : Int)) then
 bif ((List.getD a (Int.toNat f) (dflt (.int .u8))) != (1 : Int)) then
 inrO (inrO (some ((), ((0 : Int), (0 : Int), (12 : Int), ()))))
 else
 bif ((List.getD a (Int.toNat f) (dflt (.int .u8))) == (0 : Int)) then
 bif decide (f > (0 : Int)) then
 inrO (inrO (some ((), ((0 : Int), (0 : Int), (12 : Int), ()))))
 else
 some (.inl (((List.getD a (Int.toNat f) (dflt (.int .u8))), ((List.getD a (Int.toNat f) (dflt (.int .u8))) == (0 : Int)), true, decide (f > (0 : Int)), ()), ()))
 else
 some (.inl (((List.getD a (Int.toNat f) (dflt (.int .u8))), ((List.getD a (Int.toNat f) (dflt (.int .u8))) == (0 : Int)), false, false, ()), ()))
 else
 bif ((List.getD a (Int.toNat f) (dflt (.int .u8))) == (0 : Int)) then
 bif decide (f > (0 : Int)) then
 inrO (inrO (some ((), ((0 : Int), (0 : Int), (12 : Int), ()))))
 else
 some (.inl (((List.getD a (Int.toNat f) (dflt (.int .u8))), ((List.getD a (Int.toNat f) (dflt (.int .u8))) == (0 : Int)), true, decide (f > (0 : Int)), ()), ()))
 else
 some (.inl (((List.getD a (Int.toNat f) (dflt (.int .u8))), ((List.getD a (Int.toNat f) (dflt (.int .u8))) == (0 : Int)), false, false, ()), ())))
 fun ⟨⟨_, _, _, _, _⟩, _⟩ =>
 bif decide ((0 : Int) ≤ (IntKind.wrap .i64 ((7 : Int) * f))) then
 bif decide ((List.getD a (Int.toNat f) (dflt (.int .u8))) < (128 : Int)) then
 inrO (some ((), (IntKind.wrap .u64 ((BitVec.ofInt (IntKind.bits .u64) c ||| BitVec.ofInt (IntKind.bits .u64) (IntKind.wrap .u64 ((IntKind.wrap .u64 (IntKind.wrap .u8 ((BitVec.ofInt (IntKind.bits .u8) (List.getD a (Int.toNat f) (dflt (.int .u8))) &&& BitVec.ofInt (IntKind.bits .u8) (127 : Int)).toNat : Int))) * 2 ^ (min (Int.toNat (IntKind.wrap .i64 ((7 : Int) * f))) (IntKind.bits .u64))))).toNat : Int), IntKind.wrap .i64 (f + (1 : Int)), (0 : Int), ())))
 else
 some (.inl ((IntKind.wrap .u64 ((BitVec.ofInt (IntKind.bits .u64) c ||| BitVec.ofInt (IntKind.bits .u64) (IntKind.wrap .u64 ((IntKind.wrap .u64 (IntKind.wrap .u8 ((BitVec.ofInt (IntKind.bits .u8) (List.getD a (Int.toNat f) (dflt (.int .u8))) &&& BitVec.ofInt (IntKind.bits .u8) (127 : Int)).toNat : Int))) * 2 ^ (min (Int.toNat (IntKind.wrap .i64 ((7 : Int) * f))) (IntKind.bits .u64))))).toNat : Int), IntKind.wrap .i64 (f + (1 : Int)), ()), ()))
 else none
 else none
 else none
 else
 inrO (some ((), ((0 : Int), (0 : Int), (12 : Int), ()))))
 (((0 : Int), (0 : Int), ()), ())
def e40 (fu : Nat) : Ent := ⟨40, (.cons (.hole (.sl (.int .u8))) .nil), .nil, (.tup 3 (.cons (.hole (.int .u64)) (.cons (.hole (.int .i64)) (.cons (.hole (.int .i64)) .nil)))), p40 fu⟩
def d40 (_ : Nat) : DC := (.seq (.region [opD 2 (.mov (.const vU)), opD 3 (.mov (cD 0)), opD 4 (.mov (cD 0))] [[], [0], [1]] false) (.seq (.region [opD 5 (.mov (.const vU))] [[]] false) (.seq (.seq (.region [opD 9 (.mov (cD 0))] [[]] false) (.block 0 (.loop ⟨[5, 9], (.cons (.hole (.int .u64)) (.cons (.hole (.int .i64)) .nil)), [], .nil, [0], []⟩
 (.seq (.region [opD 10 (.bin .lss (tD 9) (cD 10))] [[]] false) (.seq (.cond (.tmp 10) .skip (.exit 0)) (.seq (.block 1 (.seq (.region [mvD 11 9, mvD 6 11] [[], [0, 0]] false) (.seq (.seq (.region [mvD 12 6, mvD 13 0, opD 14 (.len false (tD 13)), opD 15 (.bin .eql (tD 12) (tD 14))] [[], [], [1], [0, 2]] false) (.cond (.tmp 15) (.seq (.region [opD 2 (.mov (.const vU)), opD 3 (.mov (cD 0)), opD 4 (.mov (cD 11))] [[], [0, 0], [1, 0, 1]] false) .ret) .skip)) (.seq (.region [mvD 16 0, mvD 17 6, opD 18 (.iaddr 1 (tD 16) (tD 17)), opD 19 (.load false 1 (tD 18)), mvD 7 19] [[], [], [0, 1], [2], [3, 0, 1, 2, 3]] false) (.seq (.region [mvD 20 6, opD 21 (.bin .eql (tD 20) (cD 9)), mvD 8 21] [[], [0], [1, 0, 1]] false) (.join ⟨[28, 29, 30, 33], (.cons (.hole (.int .u8)) (.cons (.hole .bool) (.cons (.hole .bool) (.cons (.hole .bool) .nil)))), [], .nil, [0, 5, 6, 7, 9], []⟩
 (.seq (.region [mvD 22 8, mvD 23 22, ogD 24 23 true (.mov (tD 7)), ogD 25 23 true (.bin .neq (tD 24) (.const (.int .u8 1))), opD 26 (.pick (tD 23) (tD 25) (.const vB)), mvD 27 26, ogD 28 27 false (.mov (tD 7)), ogD 29 27 false (.bin .eql (tD 28) (.const (.int .u8 0))), ogD 30 27 false (.mov (tD 29)), ogD 31 30 true (.mov (tD 6)), ogD 32 30 true (.bin .gtr (tD 31) (cD 0)), ogD 33 27 false (.pick (tD 30) (tD 32) (.const vB)), opD 34 (.pick (tD 27) (.const (.bool true)) (tD 33))] [[], [0], [1], [2, 1], [1, 3], [4, 1], [5], [6, 5], [7, 5, 5], [8], [9, 8], [8, 10, 5], [5, 11]] false) (.cond (.tmp 34) (.exit 0) .skip))
 (.seq (.region [mvD 35 5, mvD 36 7, opD 37 (.bin .and (tD 36) (.const (.int .u8 127))), opD 38 (.conv .u64 (tD 37)), mvD 39 6, opD 40 (.bin .mul (cD 7) (tD 39)), opD 41 (.bin .shl (tD 38) (tD 40)), opD 42 (.bin .or (tD 35) (tD 41)), mvD 5 42] [[], [], [1], [2], [], [4], [3, 5], [0, 6], [7, 0, 1, 2, 3, 4, 5, 6, 7]] false) (.seq (.region [mvD 43 7, opD 44 (.bin .lss (tD 43) (.const (.int .u8 128)))] [[], [0]] false) (.cond (.tmp 44) (.seq (.region [mvD 45 5, mvD 46 6, opD 47 (.bin .add (tD 46) (cD 1)), mvD 2 45, mvD 3 47, opD 4 (.mov (cD 0))] [[], [], [1], [0, 0], [2, 3, 0, 1, 2, 3], [4, 0, 1, 2, 3, 4]] false) .ret) .skip))))))))) (.region [opD 48 (.bin .add (tD 9) (cD 1)), mvD 9 48] [[], [0]] false))))))) (.seq (.region [opD 2 (.mov (.const vU)), opD 3 (.mov (cD 0)), opD 4 (.mov (cD 12))] [[], [0, 0], [1, 0, 1]] false) .ret))))
set_option maxRecDepth 1000000 in
theorem v40 (fu : Nat) : evF fu (d40 fu) rs40 49 (e40 fu).ash (e40 fu).osh (e40 fu).vsh = p40 fu := by kernel_rfl
set_option maxRecDepth 1000000 in
theorem b40 (fu : Nat) : BodyD Tryd.prog 40 49 (d40 fu).erase rs40 := bodyD_mk Tryd.func40 (by kernel_rfl) (by kernel_rfl) (by kernel_rfl) (by kernel_rfl)
theorem g40 (fu : Nat) : (e40 fu).Good Tryd.prog := good_by orders (b40 fu) (l := []) (by kernel_rfl) trivial (by kernel_rfl) (v40 fu)
def rs43 : List RVx := []
/-- (*gazette/codec.Reader).failAt -/
def p43 (_ : Nat) : ((List (Int)) × ((Int) × ((Unit) × (Unit)))) × ((Int) × ((Int) × (Unit))) → Option ((((List (Int)) × ((Int) × (((Bool) × (((Int) × ((Int) × (Unit))) × (Unit))) × (Unit)))) × ((Unit) × (Unit))) × (Unit)) := fun ⟨⟨a, c, _, _⟩, f, h, _⟩ =>
bif (h != (0 : Int)) then
 bif eqL a then
 some (((a, c, (true, (h, f, ()), dflt .unit), ()), (), ()), ())
 else none
else
 bif eqL a then
 some (((a, c, zR0, ()), (), ()), ())
 else none
def e43 (fu : Nat) : Ent := ⟨43, (.cons (.box 95 3 (.cons (.own .own 5 (.int .u8)) (.cons (.hole (.int .i64)) (.cons (.nilv 1) .nil)))) (.cons (.hole (.int .i64)) (.cons (.hole (.int .i64)) .nil))), (.cons Y0 (.cons .dead .nil)), (.tup 0 .nil), p43 fu⟩
def d43 (_ : Nat) : DC := (.seq (.region [mvD 6 0, opD 7 (.pure .nilc [(tD 6)]), opD 8 (.faddr 2 (tD 7)), opD 9 (.load false 1 (tD 8)), opD 10 (.pure (.nilq 1 false) [(tD 9)]), mvD 11 10, ogD 12 11 true (.mov (tD 2)), ogD 13 11 true (.bin .neq (tD 12) (cD 0)), opD 14 (.pick (tD 11) (tD 13) (.const vB))] [[], [0], [1], [2], [3], [4], [5], [6, 5], [5, 7]] false) (.cond (.tmp 14) (.region [mvD 15 0, mvD 16 2, mvD 17 1, opD 18 (.build 2 [vI, vI] [(0, (1, (tD 16))), (1, (1, (tD 17)))]), opD 19 (.box 103 2 (tD 18)), opD 20 (.ifc 99 (tD 19)), opD 21 (.pure .nilc [(tD 15)]), opD 22 (.faddr 2 (tD 21)), onD (.store 1 (tD 22) (tD 20))] [[], [], [], [1, 2], [3], [4], [0, 0, 1, 2, 3, 4, 5], [6, 0, 1, 2, 3, 4, 5], [7, 5, 0, 1, 2, 3, 4, 5]] false) .skip))
set_option maxRecDepth 1000000 in
theorem v43 (fu : Nat) : evF fu (d43 fu) rs43 23 (e43 fu).ash (e43 fu).osh (e43 fu).vsh = p43 fu := by kernel_rfl
set_option maxRecDepth 1000000 in
theorem b43 (fu : Nat) : BodyD Tryd.prog 43 23 (d43 fu).erase rs43 := bodyD_mk Tryd.func43 (by kernel_rfl) (by kernel_rfl) (by kernel_rfl) (by kernel_rfl)
theorem g43 (fu : Nat) : (e43 fu).Good Tryd.prog := good_by orders (b43 fu) (l := []) (by kernel_rfl) trivial (by kernel_rfl) (v43 fu)
def rs41 : List RVx := []
/-- (*gazette/codec.Reader).Fail -/
def p41 (fu : Nat) : ((List (Int)) × ((Int) × ((Unit) × (Unit)))) × ((Int) × (Unit)) → Option ((((List (Int)) × ((Int) × (((Bool) × (((Int) × ((Int) × (Unit))) × (Unit))) × (Unit)))) × ((Unit) × (Unit))) × (Unit)) := fun ⟨⟨a, c, _, _⟩, f, _⟩ =>
bif eqL a then
 Option.bind (p43 fu ((a, c, (), ()), c, f, ())) fun ⟨⟨⟨h, i, ⟨j, ⟨k, l, _⟩, _⟩, _⟩, _, _⟩, _⟩ =>
 bif j then
 bif eqL h then
 some (((h, i, (true, (k, l, ()), dflt .unit), ()), (), ()), ())
 else none
 else
 bif eqL h then
 some (((h, i, zR0, ()), (), ()), ())
 else none
else none
def e41 (fu : Nat) : Ent := ⟨41, (.cons (.box 95 3 (.cons (.own .own 5 (.int .u8)) (.cons (.hole (.int .i64)) (.cons (.nilv 1) .nil)))) (.cons (.hole (.int .i64)) .nil)), (.cons Y0 (.cons .dead .nil)), (.tup 0 .nil), p41 fu⟩
def d41 (fu : Nat) : DC := (.region [mvD 4 0, mvD 5 0, opD 6 (.pure .nilc [(tD 5)]), opD 7 (.faddr 1 (tD 6)), opD 8 (.load false 1 (tD 7)), mvD 9 1, oqD 10 (.call 43 [(tD 4), (tD 8), (tD 9)]) (.ent (e43 fu))] [[], [], [1], [2], [3], [], [0, 4, 5]] false)
set_option maxRecDepth 1000000 in
theorem v41 (fu : Nat) : evF fu (d41 fu) rs41 11 (e41 fu).ash (e41 fu).osh (e41 fu).vsh = p41 fu := by kernel_rfl
set_option maxRecDepth 1000000 in
theorem b41 (fu : Nat) : BodyD Tryd.prog 41 11 (d41 fu).erase rs41 := bodyD_mk Tryd.func41 (by kernel_rfl) (by kernel_rfl) (by kernel_rfl) (by kernel_rfl)
theorem g41 (fu : Nat) : (e41 fu).Good Tryd.prog := good_by orders (b41 fu) (l := [e43 fu]) (by kernel_rfl) ⟨g43 fu, trivial⟩ (by kernel_rfl) (v41 fu)
def rs91 : List RVx := []
/-- (*gazette/gazetteref01.Reader).fail -/
def p91 (_ : Nat) : ((List (Int)) × ((Int) × ((Int) × ((Int) × (Unit))))) × ((Int) × ((Int) × (Unit))) → Option ((((List (Int)) × ((Int) × ((Int) × ((Int) × (Unit))))) × (Unit)) × (Unit)) := fun ⟨⟨a, c, f, h, _⟩, i, j, _⟩ =>
orK (E := ((Bool) × (Unit)) × (Unit))
 (bif (f == (0 : Int)) then
 some (.inl (((i != (0 : Int)), ()), ()))
 else
 some (.inl ((false, ()), ())))
 fun ⟨⟨k, _⟩, _⟩ =>
bif k then
 some (((a, j, i, j, ()), ()), ())
else
 some (((a, c, f, h, ()), ()), ())
def e91 (fu : Nat) : Ent := ⟨91, (.cons Y1 (.cons (.hole (.int .i64)) (.cons (.hole (.int .i64)) .nil))), (.cons Y2 .nil), (.tup 0 .nil), p91 fu⟩
def d91 (_ : Nat) : DC := (.join ⟨[14], (.cons (.hole .bool) .nil), [], .nil, [0, 1, 2], [0]⟩
 (.region [mvD 6 0, opD 7 (.pure .nilc [(tD 6)]), opD 8 (.faddr 2 (tD 7)), opD 9 (.load false 1 (tD 8)), opD 10 (.bin .eql (tD 9) (cD 0)), mvD 11 10, ogD 12 11 true (.mov (tD 1)), ogD 13 11 true (.bin .neq (tD 12) (cD 0)), opD 14 (.pick (tD 11) (tD 13) (.const vB))] [[], [0], [1], [2], [3], [4], [5], [6, 5], [5, 7]] false)
 (.cond (.tmp 14) (.seq (.region [mvD 15 0, mvD 16 1, opD 17 (.pure .nilc [(tD 15)]), opD 18 (.faddr 2 (tD 17)), onD (.store 1 (tD 18) (tD 16))] [[], [], [0, 0, 1], [2, 0, 1], [3, 1, 0, 1]] false) (.seq (.region [mvD 19 0, mvD 20 2, opD 21 (.pure .nilc [(tD 19)]), opD 22 (.faddr 3 (tD 21)), onD (.store 1 (tD 22) (tD 20))] [[], [], [0, 0, 1], [2, 0, 1], [3, 1, 0, 1]] false) (.region [mvD 23 0, mvD 24 2, opD 25 (.pure .nilc [(tD 23)]), opD 26 (.faddr 1 (tD 25)), onD (.store 1 (tD 26) (tD 24))] [[], [], [0, 0, 1], [2, 0, 1], [3, 1, 0, 1]] false))) .skip))
set_option maxRecDepth 1000000 in
theorem v91 (fu : Nat) : evF fu (d91 fu) rs91 27 (e91 fu).ash (e91 fu).osh (e91 fu).vsh = p91 fu := by kernel_rfl
set_option maxRecDepth 1000000 in
theorem b91 (fu : Nat) : BodyD Tryd.prog 91 27 (d91 fu).erase rs91 := bodyD_mk Tryd.func91 (by kernel_rfl) (by kernel_rfl) (by kernel_rfl) (by kernel_rfl)
theorem g91 (fu : Nat) : (e91 fu).Good Tryd.prog := good_by orders (b91 fu) (l := []) (by kernel_rfl) trivial (by kernel_rfl) (v91 fu)
def rs51 : List RVx := [(.tmp 2)]
/-- (*gazette/gazetteref01.Reader).Uint -/
def p51 (fu : Nat) : ((List (Int)) × ((Int) × ((Int) × ((Int) × (Unit))))) × (Unit) → Option ((((List (Int)) × ((Int) × ((Int) × ((Int) × (Unit))))) × (Unit)) × (Int)) := fun ⟨⟨a, c, f, h, _⟩, _⟩ =>
bif (f != (0 : Int)) then
 some (((a, c, f, h, ()), ()), (0 : Int))
else
 loopO (S := ((Int) × ((Int) × (Unit))) × (Unit)) fu (fun ⟨⟨i, j, _⟩, _⟩ =>
 bif decide ((IntKind.wrap .i64 (c + j)) ≥ (List.length a : Int)) then
 Option.bind (p91 fu ((a, c, f, h, ()), (11 : Int), c, ())) fun ⟨⟨⟨k, l, m, n, _⟩, _⟩, _⟩ =>
 inrO (some (((k, l, m, n, ()), ()), (0 : Int)))
 else
 bif decide ((0 : Int) ≤ IntKind.wrap .i64 (c + j) ∧ IntKind.wrap .i64 (c + j) < (List.length a : Int)) then
 bif decide (Int.toNat (IntKind.wrap .i64 (c + j)) < List.length a) then
 orK (E := ((Bool) × (Unit)) × (Unit))
 (bif (j == (9 : Int)) then
 some (.inl ((((List.getD a (Int.toNat (IntKind.wrap .i64 (c + j))) (dflt (.int .u8))) != (1 : Int)), ()), ()))
 else
 some (.inl ((false, ()), ())))
 fun ⟨⟨o, _⟩, _⟩ =>
 bif o then
 Option.bind (p91 fu ((a, c, f, h, ()), (12 : Int), c, ())) fun ⟨⟨⟨q, s, t, u, _⟩, _⟩, _⟩ =>
 inrO (some (((q, s, t, u, ()), ()), (0 : Int)))
 else
 bif decide ((0 : Int) ≤ (IntKind.wrap .i64 ((7 : Int) * j))) then
 bif decide ((List.getD a (Int.toNat (IntKind.wrap .i64 (c + j))) (dflt (.int .u8))) < (128 : Int)) then
 orK (E := ((Bool) × (Unit)) × (Unit))
 (bif ((List.getD a (Int.toNat (IntKind.wrap .i64 (c + j))) (dflt (.int .u8))) == (0 : Int)) then
 some (.inl ((decide (j > (0 : Int)), ()), ()))
 else
 some (.inl ((false, ()), ())))
 fun ⟨⟨w, _⟩, _⟩ =>
 bif w then
 Option.bind (p91 fu ((a, c, f, h, ()), (12 : Int), c, ())) fun ⟨⟨⟨x, y, z, a0, _⟩, _⟩, _⟩ =>
 inrO (some (((x, y, z, a0, ()), ()), (0 : Int)))
 else
 inrO (some (((a, IntKind.wrap .i64 ((IntKind.wrap .i64 (c + j)) + (1 : Int)), f, h, ()), ()), IntKind.wrap .u64 (i + (IntKind.wrap .u64 ((IntKind.wrap .u64 (IntKind.wrap .u8 ((BitVec.ofInt (IntKind.bits .u8) (List.getD a (Int.toNat (IntKind.wrap .i64 (c + j))) (dflt (.int .u8))) &&& BitVec.ofInt (IntKind.bits .u8) (127 : Int)).toNat : Int))) * 2 ^ (min (Int.toNat (IntKind.wrap .i64 ((7 : Int) * j))) (IntKind.bits .u64)))))))
 else
 some (.inl ((IntKind.wrap .u64 (i + (IntKind.wrap .u64 ((IntKind.wrap .u64 (IntKind.wrap .u8 ((BitVec.ofInt (IntKind.bits .u8) (List.getD a (Int.toNat (IntKind.wrap .i64 (c + j))) (dflt (.int .u8))) &&& BitVec.ofInt (IntKind.bits .u8) (127 : Int)).toNat : Int))) * 2 ^ (min (Int.toNat (IntKind.wrap .i64 ((7 : Int) * j))) (IntKind.bits .u64))))), IntKind.wrap .i64 (j + (1 : Int)), ()), ()))
 else none
 else none
 else none)
 (((0 : Int), (0 : Int), ()), ())
def e51 (fu : Nat) : Ent := ⟨51, (.cons Y1 .nil), (.cons Y2 .nil), (.hole (.int .u64)), p51 fu⟩
def d51 (fu : Nat) : DC := (.seq (.region [opD 2 (.mov (.const vU))] [[]] false) (.seq (.seq (.region [mvD 6 0, opD 7 (.pure .nilc [(tD 6)]), opD 8 (.faddr 2 (tD 7)), opD 9 (.load false 1 (tD 8)), opD 10 (.bin .neq (tD 9) (cD 0))] [[], [0], [1], [2], [3]] false) (.cond (.tmp 10) (.seq (.region [opD 2 (.mov (.const vU))] [[]] false) .ret) .skip)) (.seq (.region [opD 3 (.mov (.const vU))] [[]] false) (.seq (.region [opD 4 (.mov (cD 0))] [[]] false) (.block 0 (.loop ⟨[3, 4], (.cons (.hole (.int .u64)) (.cons (.hole (.int .i64)) .nil)), [], .nil, [0], [0]⟩
 (.seq (.block 1 (.seq (.seq (.region [mvD 13 0, opD 14 (.pure .nilc [(tD 13)]), opD 15 (.faddr 1 (tD 14)), opD 16 (.load false 1 (tD 15)), mvD 17 4, opD 18 (.bin .add (tD 16) (tD 17)), mvD 19 0, opD 20 (.pure .nilc [(tD 19)]), opD 21 (.faddr 0 (tD 20)), opD 22 (.load false 1 (tD 21)), opD 23 (.len false (tD 22)), opD 24 (.bin .geq (tD 18) (tD 23))] [[], [0], [1], [2], [], [3, 4], [], [6], [7], [8], [9], [5, 10]] true) (.cond (.tmp 24) (.seq (.region [mvD 25 0, mvD 26 0, opD 27 (.pure .nilc [(tD 26)]), opD 28 (.faddr 1 (tD 27)), opD 29 (.load false 1 (tD 28)), oqD 30 (.call 91 [(tD 25), (cD 11), (tD 29)]) (.ent (e91 fu))] [[], [], [1], [2], [3], [0, 4]] false) (.seq (.region [opD 2 (.mov (.const vU))] [[]] false) .ret)) .skip)) (.seq (.region [mvD 31 0, opD 32 (.pure .nilc [(tD 31)]), opD 33 (.faddr 0 (tD 32)), opD 34 (.load false 1 (tD 33)), mvD 35 0, opD 36 (.pure .nilc [(tD 35)]), opD 37 (.faddr 1 (tD 36)), opD 38 (.load false 1 (tD 37)), mvD 39 4, opD 40 (.bin .add (tD 38) (tD 39)), opD 41 (.iaddr 1 (tD 34) (tD 40)), opD 42 (.load false 1 (tD 41)), mvD 5 42] [[], [0], [1], [2], [], [4], [5], [6], [], [7, 8], [3, 9], [10], [11, 0, 1, 2, 3, 4, 5, 6, 7, 8, 9, 10, 11]] true) (.seq (.join ⟨[48], (.cons (.hole .bool) .nil), [], .nil, [0, 3, 4, 5], [0]⟩
 (.region [mvD 43 4, opD 44 (.bin .eql (tD 43) (cD 9)), mvD 45 44, ogD 46 45 true (.mov (tD 5)), ogD 47 45 true (.bin .neq (tD 46) (.const (.int .u8 1))), opD 48 (.pick (tD 45) (tD 47) (.const vB))] [[], [0], [1], [2], [3, 2], [2, 4]] false)
 (.cond (.tmp 48) (.seq (.region [mvD 49 0, mvD 50 0, opD 51 (.pure .nilc [(tD 50)]), opD 52 (.faddr 1 (tD 51)), opD 53 (.load false 1 (tD 52)), oqD 54 (.call 91 [(tD 49), (cD 12), (tD 53)]) (.ent (e91 fu))] [[], [], [1], [2], [3], [0, 4]] false) (.seq (.region [opD 2 (.mov (.const vU))] [[]] false) .ret)) .skip)) (.seq (.region [mvD 55 3, mvD 56 5, opD 57 (.bin .and (tD 56) (.const (.int .u8 127))), opD 58 (.conv .u64 (tD 57)), mvD 59 4, opD 60 (.bin .mul (cD 7) (tD 59)), opD 61 (.bin .shl (tD 58) (tD 60)), opD 62 (.bin .add (tD 55) (tD 61)), mvD 3 62] [[], [], [1], [2], [], [4], [3, 5], [0, 6], [7, 0, 1, 2, 3, 4, 5, 6, 7]] false) (.seq (.region [mvD 63 5, opD 64 (.bin .lss (tD 63) (.const (.int .u8 128)))] [[], [0]] false) (.cond (.tmp 64) (.seq (.join ⟨[70], (.cons (.hole .bool) .nil), [], .nil, [0, 3, 4], [0]⟩
 (.region [mvD 65 5, opD 66 (.bin .eql (tD 65) (.const (.int .u8 0))), mvD 67 66, ogD 68 67 true (.mov (tD 4)), ogD 69 67 true (.bin .gtr (tD 68) (cD 0)), opD 70 (.pick (tD 67) (tD 69) (.const vB))] [[], [0], [1], [2], [3, 2], [2, 4]] false)
 (.cond (.tmp 70) (.seq (.region [mvD 71 0, mvD 72 0, opD 73 (.pure .nilc [(tD 72)]), opD 74 (.faddr 1 (tD 73)), opD 75 (.load false 1 (tD 74)), oqD 76 (.call 91 [(tD 71), (cD 12), (tD 75)]) (.ent (e91 fu))] [[], [], [1], [2], [3], [0, 4]] false) (.seq (.region [opD 2 (.mov (.const vU))] [[]] false) .ret)) .skip)) (.seq (.region [mvD 77 0, mvD 78 0, opD 79 (.pure .nilc [(tD 78)]), opD 80 (.faddr 1 (tD 79)), opD 81 (.load false 1 (tD 80)), mvD 82 4, opD 83 (.bin .add (tD 81) (tD 82)), opD 84 (.bin .add (tD 83) (cD 1)), opD 85 (.pure .nilc [(tD 77)]), opD 86 (.faddr 1 (tD 85)), onD (.store 1 (tD 86) (tD 84))] [[], [], [1], [2], [3], [], [4, 5], [6], [0, 0, 1, 2, 3, 4, 5, 6, 7], [8, 0, 1, 2, 3, 4, 5, 6, 7], [9, 7, 0, 1, 2, 3, 4, 5, 6, 7]] false) (.seq (.region [mvD 87 3, mvD 2 87] [[], [0, 0]] false) .ret))) .skip))))))) (.region [mvD 11 4, opD 12 (.bin .add (tD 11) (cD 1)), mvD 4 12] [[], [0], [1, 0, 1]] false))))))))
set_option maxRecDepth 1000000 in
theorem v51 (fu : Nat) : evF fu (d51 fu) rs51 88 (e51 fu).ash (e51 fu).osh (e51 fu).vsh = p51 fu := by kernel_rfl
set_option maxRecDepth 1000000 in
theorem b51 (fu : Nat) : BodyD Tryd.prog 51 88 (d51 fu).erase rs51 := bodyD_mk Tryd.func51 (by kernel_rfl) (by kernel_rfl) (by kernel_rfl) (by kernel_rfl)
theorem g51 (fu : Nat) : (e51 fu).Good Tryd.prog := good_by orders (b51 fu) (l := [e91 fu, e91 fu, e91 fu]) (by kernel_rfl) ⟨g91 fu, g91 fu, g91 fu, trivial⟩ (by kernel_rfl) (v51 fu)
def rs65 : List RVx := [(.tmp 2)]
/-- (*gazette/gazetteref01.Reader).Int -/
def p65 (fu : Nat) : ((List (Int)) × ((Int) × ((Int) × ((Int) × (Unit))))) × (Unit) → Option ((((List (Int)) × ((Int) × ((Int) × ((Int) × (Unit))))) × (Unit)) × (Int)) := fun ⟨⟨a, c, f, h, _⟩, _⟩ =>
Option.bind (p51 fu ((a, c, f, h, ()), ())) fun ⟨⟨⟨i, j, k, l, _⟩, _⟩, m⟩ =>
bif ((Int.tmod m (2 : Int)) == (1 : Int)) then
 some (((i, j, k, l, ()), ()), IntKind.wrap .i64 ((IntKind.wrap .i64 (0 - (IntKind.wrap .i64 (IntKind.wrap .u64 (Int.tdiv m (2 : Int)))))) - (1 : Int)))
else
 some (((i, j, k, l, ()), ()), IntKind.wrap .i64 (IntKind.wrap .u64 (Int.tdiv m (2 : Int))))
def e65 (fu : Nat) : Ent := ⟨65, (.cons Y1 .nil), (.cons Y2 .nil), (.hole (.int .i64)), p65 fu⟩
def d65 (fu : Nat) : DC := (.seq (.region [opD 2 (.mov (cD 0))] [[]] false) (.seq (.region [mvD 4 0, oqD 5 (.call 51 [(tD 4)]) (.ent (e51 fu)), mvD 3 5] [[], [0], [1, 1, 0, 1]] false) (.seq (.seq (.region [mvD 6 3, opD 7 (.bin .rem (tD 6) (.const (.int .u64 2))), opD 8 (.bin .eql (tD 7) (.const (.int .u64 1)))] [[], [0], [1]] false) (.cond (.tmp 8) (.seq (.region [mvD 9 3, opD 10 (.bin .quo (tD 9) (.const (.int .u64 2))), opD 11 (.conv .i64 (tD 10)), opD 12 (.pure .neg [(tD 11)]), opD 13 (.bin .sub (tD 12) (cD 1)), mvD 2 13] [[], [0], [1], [2], [3], [4, 0, 1, 2, 3, 4]] false) .ret) .skip)) (.seq (.region [mvD 14 3, opD 15 (.bin .quo (tD 14) (.const (.int .u64 2))), opD 16 (.conv .i64 (tD 15)), mvD 2 16] [[], [0], [1], [2, 0, 1, 2]] false) .ret))))
set_option maxRecDepth 1000000 in
theorem v65 (fu : Nat) : evF fu (d65 fu) rs65 17 (e65 fu).ash (e65 fu).osh (e65 fu).vsh = p65 fu := by kernel_rfl
set_option maxRecDepth 1000000 in
theorem b65 (fu : Nat) : BodyD Tryd.prog 65 17 (d65 fu).erase rs65 := bodyD_mk Tryd.func65 (by kernel_rfl) (by kernel_rfl) (by kernel_rfl) (by kernel_rfl)
theorem g65 (fu : Nat) : (e65 fu).Good Tryd.prog := good_by orders (b65 fu) (l := [e51 fu]) (by kernel_rfl) ⟨g51 fu, trivial⟩ (by kernel_rfl) (v65 fu)
/-- (*gazette/codec.Reader).failAt -/
def p43_2 (_ : Nat) : ((List (Int)) × ((Int) × (((Bool) × (((Int) × ((Int) × (Unit))) × (Unit))) × (Unit)))) × ((Int) × ((Int) × (Unit))) → Option ((((List (Int)) × ((Int) × (((Bool) × (((Int) × ((Int) × (Unit))) × (Unit))) × (Unit)))) × ((Unit) × (Unit))) × (Unit)) := fun ⟨⟨a, c, ⟨f, ⟨h, i, _⟩, _⟩, _⟩, j, k, _⟩ =>
bif f then
 bif eqL a then
 some (((a, c, (true, (h, i, ()), dflt .unit), ()), (), ()), ())
 else none
else
 bif (k != (0 : Int)) then
 bif eqL a then
 some (((a, c, (true, (k, j, ()), dflt .unit), ()), (), ()), ())
 else none
 else
 bif eqL a then
 some (((a, c, zR0, ()), (), ()), ())
 else none
def e43_2 (fu : Nat) : Ent := ⟨43, (.cons Y3 (.cons (.hole (.int .i64)) (.cons (.hole (.int .i64)) .nil))), (.cons Y0 (.cons .dead .nil)), (.tup 0 .nil), p43_2 fu⟩
def d43_2 (_ : Nat) : DC := (.seq (.region [mvD 6 0, opD 7 (.pure .nilc [(tD 6)]), opD 8 (.faddr 2 (tD 7)), opD 9 (.load false 1 (tD 8)), opD 10 (.pure (.nilq 1 false) [(tD 9)]), mvD 11 10, ogD 12 11 true (.mov (tD 2)), ogD 13 11 true (.bin .neq (tD 12) (cD 0)), opD 14 (.pick (tD 11) (tD 13) (.const vB))] [[], [0], [1], [2], [3], [4], [5], [6, 5], [5, 7]] false) (.cond (.tmp 14) (.region [mvD 15 0, mvD 16 2, mvD 17 1, opD 18 (.build 2 [vI, vI] [(0, (1, (tD 16))), (1, (1, (tD 17)))]), opD 19 (.box 103 2 (tD 18)), opD 20 (.ifc 99 (tD 19)), opD 21 (.pure .nilc [(tD 15)]), opD 22 (.faddr 2 (tD 21)), onD (.store 1 (tD 22) (tD 20))] [[], [], [], [1, 2], [3], [4], [0, 0, 1, 2, 3, 4, 5], [6, 0, 1, 2, 3, 4, 5], [7, 5, 0, 1, 2, 3, 4, 5]] false) .skip))
set_option maxRecDepth 1000000 in
theorem v43_2 (fu : Nat) : evF fu (d43_2 fu) rs43 23 (e43_2 fu).ash (e43_2 fu).osh (e43_2 fu).vsh = p43_2 fu := by kernel_rfl
set_option maxRecDepth 1000000 in
theorem b43_2 (fu : Nat) : BodyD Tryd.prog 43 23 (d43_2 fu).erase rs43 := bodyD_mk Tryd.func43 (by kernel_rfl) (by kernel_rfl) (by kernel_rfl) (by kernel_rfl)
theorem g43_2 (fu : Nat) : (e43_2 fu).Good Tryd.prog := good_by orders (b43_2 fu) (l := []) (by kernel_rfl) trivial (by kernel_rfl) (v43_2 fu)
def rs66 : List RVx := [(.tmp 2)]
/-- (*gazette/gazetteref01.Reader).Bool -/
def p66 (fu : Nat) : ((List (Int)) × ((Int) × ((Int) × ((Int) × (Unit))))) × (Unit) → Option ((((List (Int)) × ((Int) × ((Int) × ((Int) × (Unit))))) × (Unit)) × (Bool)) := fun ⟨⟨a, c, f, h, _⟩, _⟩ =>
bif (f != (0 : Int)) then
 some (((a, c, f, h, ()), ()), false)
else
 bif decide (c ≥ (List.length a : Int)) then
 Option.bind (p91 fu ((a, c, f, h, ()), (11 : Int), c, ())) fun ⟨⟨⟨i, j, k, l, _⟩, _⟩, _⟩ =>
 some (((i, j, k, l, ()), ()), false)
 else
 bif decide ((0 : Int) ≤ c ∧ c < (List.length a : Int)) then
 bif decide (Int.toNat c < List.length a) then
 bif decide ((List.getD a (Int.toNat c) (dflt (.int .u8))) > (1 : Int)) then
 Option.bind (p91 fu ((a, c, f, h, ()), (16 : Int), c, ())) fun ⟨⟨⟨m, n, o, q, _⟩, _⟩, _⟩ =>
 some (((m, n, o, q, ()), ()), false)
 else
 bif decide ((0 : Int) ≤ IntKind.wrap .i64 ((IntKind.wrap .i64 (c + (1 : Int))) - (1 : Int)) ∧ IntKind.wrap .i64 ((IntKind.wrap .i64 (c + (1 : Int))) - (1 : Int)) < (List.length a : Int)) then
 bif decide (Int.toNat (IntKind.wrap .i64 ((IntKind.wrap .i64 (c + (1 : Int))) - (1 : Int))) < List.length a) then
 some (((a, IntKind.wrap .i64 (c + (1 : Int)), f, h, ()), ()), ((List.getD a (Int.toNat (IntKind.wrap .i64 ((IntKind.wrap .i64 (c + (1 : Int))) - (1 : Int)))) (dflt (.int .u8))) == (1 : Int)))
 else none
 else none
 else none
 else none
def e66 (fu : Nat) : Ent := ⟨66, (.cons Y1 .nil), (.cons Y2 .nil), (.hole .bool), p66 fu⟩
def d66 (fu : Nat) : DC := (.seq (.region [opD 2 (.mov (.const vB))] [[]] false) (.seq (.seq (.region [mvD 3 0, opD 4 (.pure .nilc [(tD 3)]), opD 5 (.faddr 2 (tD 4)), opD 6 (.load false 1 (tD 5)), opD 7 (.bin .neq (tD 6) (cD 0))] [[], [0], [1], [2], [3]] false) (.cond (.tmp 7) (.seq (.region [opD 2 (.mov (.const vB))] [[]] false) .ret) .skip)) (.seq (.seq (.region [mvD 8 0, opD 9 (.pure .nilc [(tD 8)]), opD 10 (.faddr 1 (tD 9)), opD 11 (.load false 1 (tD 10)), mvD 12 0, opD 13 (.pure .nilc [(tD 12)]), opD 14 (.faddr 0 (tD 13)), opD 15 (.load false 1 (tD 14)), opD 16 (.len false (tD 15)), opD 17 (.bin .geq (tD 11) (tD 16))] [[], [0], [1], [2], [], [4], [5], [6], [7], [3, 8]] true) (.cond (.tmp 17) (.seq (.region [mvD 18 0, mvD 19 0, opD 20 (.pure .nilc [(tD 19)]), opD 21 (.faddr 1 (tD 20)), opD 22 (.load false 1 (tD 21)), oqD 23 (.call 91 [(tD 18), (cD 11), (tD 22)]) (.ent (e91 fu))] [[], [], [1], [2], [3], [0, 4]] false) (.seq (.region [opD 2 (.mov (.const vB))] [[]] false) .ret)) .skip)) (.seq (.seq (.region [mvD 24 0, opD 25 (.pure .nilc [(tD 24)]), opD 26 (.faddr 0 (tD 25)), opD 27 (.load false 1 (tD 26)), mvD 28 0, opD 29 (.pure .nilc [(tD 28)]), opD 30 (.faddr 1 (tD 29)), opD 31 (.load false 1 (tD 30)), opD 32 (.iaddr 1 (tD 27) (tD 31)), opD 33 (.load false 1 (tD 32)), opD 34 (.bin .gtr (tD 33) (.const (.int .u8 1)))] [[], [0], [1], [2], [], [4], [5], [6], [3, 7], [8], [9]] true) (.cond (.tmp 34) (.seq (.region [mvD 35 0, mvD 36 0, opD 37 (.pure .nilc [(tD 36)]), opD 38 (.faddr 1 (tD 37)), opD 39 (.load false 1 (tD 38)), oqD 40 (.call 91 [(tD 35), (cD 16), (tD 39)]) (.ent (e91 fu))] [[], [], [1], [2], [3], [0, 4]] false) (.seq (.region [opD 2 (.mov (.const vB))] [[]] false) .ret)) .skip)) (.seq (.region [mvD 41 0, opD 42 (.pure .nilc [(tD 41)]), opD 43 (.faddr 1 (tD 42)), opD 44 (.load false 1 (tD 43)), opD 45 (.bin .add (tD 44) (cD 1)), opD 46 (.pure .nilc [(tD 41)]), opD 47 (.faddr 1 (tD 46)), onD (.store 1 (tD 47) (tD 45))] [[], [0], [1], [2], [3], [0, 0, 1, 2, 3, 4], [5, 0, 1, 2, 3, 4], [6, 4, 0, 1, 2, 3, 4]] false) (.seq (.region [mvD 48 0, opD 49 (.pure .nilc [(tD 48)]), opD 50 (.faddr 0 (tD 49)), opD 51 (.load false 1 (tD 50)), mvD 52 0, opD 53 (.pure .nilc [(tD 52)]), opD 54 (.faddr 1 (tD 53)), opD 55 (.load false 1 (tD 54)), opD 56 (.bin .sub (tD 55) (cD 1)), opD 57 (.iaddr 1 (tD 51) (tD 56)), opD 58 (.load false 1 (tD 57)), opD 59 (.bin .eql (tD 58) (.const (.int .u8 1))), mvD 2 59] [[], [0], [1], [2], [], [4], [5], [6], [7], [3, 8], [9], [10], [11, 0, 1, 2, 3, 4, 5, 6, 7, 8, 9, 10, 11]] true) .ret))))))
set_option maxRecDepth 1000000 in
theorem v66 (fu : Nat) : evF fu (d66 fu) rs66 60 (e66 fu).ash (e66 fu).osh (e66 fu).vsh = p66 fu := by kernel_rfl
set_option maxRecDepth 1000000 in
theorem b66 (fu : Nat) : BodyD Tryd.prog 66 60 (d66 fu).erase rs66 := bodyD_mk Tryd.func66 (by kernel_rfl) (by kernel_rfl) (by kernel_rfl) (by kernel_rfl)
theorem g66 (fu : Nat) : (e66 fu).Good Tryd.prog := good_by orders (b66 fu) (l := [e91 fu, e91 fu]) (by kernel_rfl) ⟨g91 fu, g91 fu, trivial⟩ (by kernel_rfl) (v66 fu)
def rs44 : List RVx := [(.tmp 4)]
/-- gazette/codec.whole[int] -/
def p44_2 (_ : Nat) : ((List (Int)) × ((Int) × (((Bool) × (((Int) × ((Int) × (Unit))) × (Unit))) × (Unit)))) × ((Int) × (Unit)) → Option ((((List (Int)) × ((Int) × (((Bool) × (((Int) × ((Int) × (Unit))) × (Unit))) × (Unit)))) × ((Unit) × (Unit))) × (Int)) := fun ⟨⟨a, c, ⟨f, ⟨h, i, _⟩, _⟩, _⟩, j, _⟩ =>
bif f then
 bif eqL a then
 some (((a, c, (true, (h, i, ()), dflt .unit), ()), (), ()), (0 : Int))
 else none
else
 bif eqL a then
 some (((a, c, zR0, ()), (), ()), j)
 else none
def e44_2 (fu : Nat) : Ent := ⟨44, (.cons Y3 (.cons (.hole (.int .i64)) .nil)), (.cons Y0 (.cons .dead .nil)), (.hole (.int .i64)), p44_2 fu⟩
def d44_2 (_ : Nat) : DC := (.seq (.region [opD 4 (.mov (cD 0))] [[]] false) (.seq (.seq (.region [mvD 6 0, opD 7 (.pure .nilc [(tD 6)]), opD 8 (.faddr 2 (tD 7)), opD 9 (.load false 1 (tD 8)), opD 10 (.pure (.nilq 1 true) [(tD 9)])] [[], [0], [1], [2], [3]] false) (.cond (.tmp 10) (.seq (.region [opD 5 (.mov (cD 0))] [[]] false) (.seq (.region [mvD 11 5, mvD 4 11] [[], [0, 0]] false) .ret)) .skip)) (.seq (.region [mvD 12 1, mvD 4 12] [[], [0, 0]] false) .ret)))
set_option maxRecDepth 1000000 in
theorem v44_2 (fu : Nat) : evF fu (d44_2 fu) rs44 13 (e44_2 fu).ash (e44_2 fu).osh (e44_2 fu).vsh = p44_2 fu := by kernel_rfl
set_option maxRecDepth 1000000 in
theorem b44_2 (fu : Nat) : BodyD Tryd.prog 44 13 (d44_2 fu).erase rs44 := bodyD_mk Tryd.func44 (by kernel_rfl) (by kernel_rfl) (by kernel_rfl) (by kernel_rfl)
theorem g44_2 (fu : Nat) : (e44_2 fu).Good Tryd.prog := good_by orders (b44_2 fu) (l := []) (by kernel_rfl) trivial (by kernel_rfl) (v44_2 fu)
def rs45 : List RVx := [(.tmp 4)]
/-- (*gazette/codec.Reader).take -/
def p45_2 (fu : Nat) : ((List (Int)) × ((Int) × (((Bool) × (((Int) × ((Int) × (Unit))) × (Unit))) × (Unit)))) × ((Int) × (Unit)) → Option ((((List (Int)) × ((Int) × (((Bool) × (((Int) × ((Int) × (Unit))) × (Unit))) × (Unit)))) × ((Unit) × (Unit))) × (List (Int))) := fun ⟨⟨a, c, ⟨f, ⟨h, i, _⟩, _⟩, _⟩, j, _⟩ =>
bif f then
 bif eqL a then
 some (((a, c, (true, (h, i, ()), dflt .unit), ()), (), ()), [])
 else none
else
 bif decide (j > (IntKind.wrap .i64 (((List.length a) : Int) - c))) then
 bif eqL a then
 Option.bind (p41 fu ((a, c, (), ()), (11 : Int), ())) fun ⟨⟨⟨k, l, ⟨m, ⟨n, o, _⟩, _⟩, _⟩, _, _⟩, _⟩ =>
 bif m then
 bif eqL k then
 some (((k, l, (true, (n, o, ()), dflt .unit), ()), (), ()), [])
 else none
 else
 bif decide ((0 : Int) ≤ IntKind.wrap .i64 ((IntKind.wrap .i64 (l + j)) - j)) then
 bif decide ((0 : Int) ≤ IntKind.wrap .i64 (l + j)) then
 bif decide (Int.toNat (IntKind.wrap .i64 ((IntKind.wrap .i64 (l + j)) - j)) ≤ Int.toNat (IntKind.wrap .i64 (l + j)) ∧ 0 + (Int.toNat (IntKind.wrap .i64 (l + j))) ≤ List.length k) then
 bif decide ((Int.toNat (IntKind.wrap .i64 ((IntKind.wrap .i64 (l + j)) - j))) + ((Int.toNat (IntKind.wrap .i64 (l + j))) - (Int.toNat (IntKind.wrap .i64 ((IntKind.wrap .i64 (l + j)) - j)))) ≤ List.length k) then
 bif decide (List.length (sub' k (Int.toNat (IntKind.wrap .i64 ((IntKind.wrap .i64 (l + j)) - j))) ((Int.toNat (IntKind.wrap .i64 (l + j))) - (Int.toNat (IntKind.wrap .i64 ((IntKind.wrap .i64 (l + j)) - j))))) ≤ maxLen ∧ List.length (sub' k (Int.toNat (IntKind.wrap .i64 ((IntKind.wrap .i64 (l + j)) - j))) ((Int.toNat (IntKind.wrap .i64 (l + j))) - (Int.toNat (IntKind.wrap .i64 ((IntKind.wrap .i64 (l + j)) - j))))) * 1 ≤ 140737488355328) then
 bif eqL k then
 bif eqL (sub' k (Int.toNat (IntKind.wrap .i64 ((IntKind.wrap .i64 (l + j)) - j))) ((Int.toNat (IntKind.wrap .i64 (l + j))) - (Int.toNat (IntKind.wrap .i64 ((IntKind.wrap .i64 (l + j)) - j))))) then
 some (((k, IntKind.wrap .i64 (l + j), zR0, ()), (), ()), sub' k (Int.toNat (IntKind.wrap .i64 ((IntKind.wrap .i64 (l + j)) - j))) ((Int.toNat (IntKind.wrap .i64 (l + j))) - (Int.toNat (IntKind.wrap .i64 ((IntKind.wrap .i64 (l + j)) - j)))))
 else none
 else none
 else none
 else none
 else none
 else none
 else none
 else none
 else
 bif decide ((0 : Int) ≤ IntKind.wrap .i64 ((IntKind.wrap .i64 (c + j)) - j)) then
 bif decide ((0 : Int) ≤ IntKind.wrap .i64 (c + j)) then
 bif decide (Int.toNat (IntKind.wrap .i64 ((IntKind.wrap .i64 (c + j)) - j)) ≤ Int.toNat (IntKind.wrap .i64 (c + j)) ∧ 0 + (Int.toNat (IntKind.wrap .i64 (c + j))) ≤ List.length a) then
 bif decide ((Int.toNat (IntKind.wrap .i64 ((IntKind.wrap .i64 (c + j)) - j))) + ((Int.toNat (IntKind.wrap .i64 (c + j))) - (Int.toNat (IntKind.wrap .i64 ((IntKind.wrap .i64 (c + j)) - j)))) ≤ List.length a) then
 bif decide (List.length (sub' a (Int.toNat (IntKind.wrap .i64 ((IntKind.wrap .i64 (c + j)) - j))) ((Int.toNat (IntKind.wrap .i64 (c + j))) - (Int.toNat (IntKind.wrap .i64 ((IntKind.wrap .i64 (c + j)) - j))))) ≤ maxLen ∧ List.length (sub' a (Int.toNat (IntKind.wrap .i64 ((IntKind.wrap .i64 (c + j)) - j))) ((Int.toNat (IntKind.wrap .i64 (c + j))) - (Int.toNat (IntKind.wrap .i64 ((IntKind.wrap .i64 (c + j)) - j))))) * 1 ≤ 140737488355328) then
 bif eqL a then
 bif eqL (sub' a (Int.toNat (IntKind.wrap .i64 ((IntKind.wrap .i64 (c + j)) - j))) ((Int.toNat (IntKind.wrap .i64 (c + j))) - (Int.toNat (IntKind.wrap .i64 ((IntKind.wrap .i64 (c + j)) - j))))) then
 some (((a, IntKind.wrap .i64 (c + j), zR0, ()), (), ()), sub' a (Int.toNat (IntKind.wrap .i64 ((IntKind.wrap .i64 (c + j)) - j))) ((Int.toNat (IntKind.wrap .i64 (c + j))) - (Int.toNat (IntKind.wrap .i64 ((IntKind.wrap .i64 (c + j)) - j)))))
 else none
 else none
 else none
 else none
 else none
 else none
 else none
def e45_2 (fu : Nat) : Ent := ⟨45, (.cons Y3 (.cons (.hole (.int .i64)) .nil)), (.cons Y0 (.cons .dead .nil)), (.own .own 5 (.int .u8)), p45_2 fu⟩
def d45_2 (fu : Nat) : DC := (.seq (.region [opD 4 (.mov (.const vS))] [[]] false) (.seq (.seq (.region [mvD 5 0, opD 6 (.pure .nilc [(tD 5)]), opD 7 (.faddr 2 (tD 6)), opD 8 (.load false 1 (tD 7)), opD 9 (.pure (.nilq 1 false) [(tD 8)]), mvD 10 9, ogD 11 10 true (.mov (tD 1)), ogD 12 10 true (.mov (tD 0)), ogD 13 10 true (.pure .nilc [(tD 12)]), ogD 14 10 true (.faddr 0 (tD 13)), ogD 15 10 true (.load false 1 (tD 14)), ogD 16 10 true (.len false (tD 15)), ogD 17 10 true (.mov (tD 0)), ogD 18 10 true (.pure .nilc [(tD 17)]), ogD 19 10 true (.faddr 1 (tD 18)), ogD 20 10 true (.load false 1 (tD 19)), ogD 21 10 true (.bin .sub (tD 16) (tD 20)), ogD 22 10 true (.bin .gtr (tD 11) (tD 21)), opD 23 (.pick (tD 10) (tD 22) (.const vB))] [[], [0], [1], [2], [3], [4], [5], [5], [7, 5], [8, 5], [9, 5], [10, 5], [5], [12, 5], [13, 5], [14, 5], [11, 15, 5], [6, 16, 5], [5, 17]] true) (.cond (.tmp 23) (.region [mvD 24 0, oqD 25 (.call 41 [(tD 24), (cD 11)]) (.ent (e41 fu))] [[], [0]] false) .skip)) (.seq (.seq (.region [mvD 26 0, opD 27 (.pure .nilc [(tD 26)]), opD 28 (.faddr 2 (tD 27)), opD 29 (.load false 1 (tD 28)), opD 30 (.pure (.nilq 1 true) [(tD 29)])] [[], [0], [1], [2], [3]] false) (.cond (.tmp 30) (.seq (.region [opD 4 (.mov (.const vS))] [[]] false) .ret) .skip)) (.seq (.region [mvD 31 0, opD 32 (.pure .nilc [(tD 31)]), opD 33 (.faddr 1 (tD 32)), opD 34 (.load false 1 (tD 33)), mvD 35 1, opD 36 (.bin .add (tD 34) (tD 35)), opD 37 (.pure .nilc [(tD 31)]), opD 38 (.faddr 1 (tD 37)), onD (.store 1 (tD 38) (tD 36))] [[], [0], [1], [2], [], [3, 4], [0, 0, 1, 2, 3, 4, 5], [6, 0, 1, 2, 3, 4, 5], [7, 5, 0, 1, 2, 3, 4, 5]] false) (.seq (.region [mvD 39 0, opD 40 (.pure .nilc [(tD 39)]), opD 41 (.faddr 0 (tD 40)), opD 42 (.load false 1 (tD 41)), mvD 43 0, opD 44 (.pure .nilc [(tD 43)]), opD 45 (.faddr 1 (tD 44)), opD 46 (.load false 1 (tD 45)), mvD 47 1, opD 48 (.bin .sub (tD 46) (tD 47)), mvD 49 0, opD 50 (.pure .nilc [(tD 49)]), opD 51 (.faddr 1 (tD 50)), opD 52 (.load false 1 (tD 51)), opD 53 (.slc 1 (tD 42) (some (tD 48)) (some (tD 52))), oqD 54 (.app 5 1 [(.int .u8 0)] 1 (.const vS) (tD 53)) (.ty (.int .u8)), mvD 4 54] [[], [0], [1], [2], [], [4], [5], [6], [], [7, 8], [], [10], [11], [12], [3, 9, 13], [14], [15, 15, 0, 1, 2, 3, 4, 5, 6, 7, 8, 9, 10, 11, 12, 13, 14, 15]] true) .ret)))))
set_option maxRecDepth 1000000 in
theorem v45_2 (fu : Nat) : evF fu (d45_2 fu) rs45 55 (e45_2 fu).ash (e45_2 fu).osh (e45_2 fu).vsh = p45_2 fu := by kernel_rfl
set_option maxRecDepth 1000000 in
theorem b45_2 (fu : Nat) : BodyD Tryd.prog 45 55 (d45_2 fu).erase rs45 := bodyD_mk Tryd.func45 (by kernel_rfl) (by kernel_rfl) (by kernel_rfl) (by kernel_rfl)
theorem g45_2 (fu : Nat) : (e45_2 fu).Good Tryd.prog := good_by orders (b45_2 fu) (l := [e41 fu]) (by kernel_rfl) ⟨g41 fu, trivial⟩ (by kernel_rfl) (v45_2 fu)
def rs79 : List RVx := [(.tmp 4)]
/-- (*gazette/gazetteref01.Reader).Count -/
def p79 (fu : Nat) : ((List (Int)) × ((Int) × ((Int) × ((Int) × (Unit))))) × ((Int) × (Unit)) → Option ((((List (Int)) × ((Int) × ((Int) × ((Int) × (Unit))))) × (Unit)) × (Int)) := fun ⟨⟨a, c, f, h, _⟩, i, _⟩ =>
Option.bind (p51 fu ((a, c, f, h, ()), ())) fun ⟨⟨⟨j, k, l, m, _⟩, _⟩, n⟩ =>
bif (l != (0 : Int)) then
 some (((j, k, l, m, ()), ()), (0 : Int))
else
 orK (E := ((Bool) × (Unit)) × (Unit))
 (bif decide (i < (0 : Int)) then
 some (.inl ((true, ()), ()))
 else
 some (.inl ((decide (n > (IntKind.wrap .u64 i)), ()), ())))
 fun ⟨⟨o, _⟩, _⟩ =>
 bif o then
 Option.bind (p91 fu ((j, k, l, m, ()), (13 : Int), c, ())) fun ⟨⟨⟨q, s, t, u, _⟩, _⟩, _⟩ =>
 some (((q, s, t, u, ()), ()), (0 : Int))
 else
 bif decide (n > (IntKind.wrap .u64 (IntKind.wrap .i64 ((List.length j : Int) - k)))) then
 Option.bind (p91 fu ((j, k, l, m, ()), (11 : Int), c, ())) fun ⟨⟨⟨w, x, y, z, _⟩, _⟩, _⟩ =>
 some (((w, x, y, z, ()), ()), (0 : Int))
 else
 some (((j, k, l, m, ()), ()), IntKind.wrap .i64 n)
def e79 (fu : Nat) : Ent := ⟨79, (.cons Y1 (.cons (.hole (.int .i64)) .nil)), (.cons Y2 .nil), (.hole (.int .i64)), p79 fu⟩
def d79 (fu : Nat) : DC := (.seq (.region [opD 4 (.mov (cD 0))] [[]] false) (.seq (.region [mvD 7 0, opD 8 (.pure .nilc [(tD 7)]), opD 9 (.faddr 1 (tD 8)), opD 10 (.load false 1 (tD 9)), mvD 5 10] [[], [0], [1], [2], [3, 0, 1, 2, 3]] false) (.seq (.region [mvD 11 0, oqD 12 (.call 51 [(tD 11)]) (.ent (e51 fu)), mvD 6 12] [[], [0], [1, 1, 0, 1]] false) (.seq (.seq (.region [mvD 13 0, opD 14 (.pure .nilc [(tD 13)]), opD 15 (.faddr 2 (tD 14)), opD 16 (.load false 1 (tD 15)), opD 17 (.bin .neq (tD 16) (cD 0))] [[], [0], [1], [2], [3]] false) (.cond (.tmp 17) (.seq (.region [opD 4 (.mov (cD 0))] [[]] false) .ret) .skip)) (.seq (.join ⟨[25], (.cons (.hole .bool) .nil), [], .nil, [0, 5, 6], [0]⟩
 (.region [mvD 18 1, opD 19 (.bin .lss (tD 18) (cD 0)), mvD 20 19, ogD 21 20 false (.mov (tD 6)), ogD 22 20 false (.mov (tD 1)), ogD 23 20 false (.conv .u64 (tD 22)), ogD 24 20 false (.bin .gtr (tD 21) (tD 23)), opD 25 (.pick (tD 20) (.const (.bool true)) (tD 24))] [[], [0], [1], [2], [2], [4, 2], [3, 5, 2], [2, 6]] false)
 (.cond (.tmp 25) (.seq (.region [mvD 26 0, mvD 27 5, oqD 28 (.call 91 [(tD 26), (cD 13), (tD 27)]) (.ent (e91 fu))] [[], [], [0, 1]] false) (.seq (.region [opD 4 (.mov (cD 0))] [[]] false) .ret)) .skip)) (.seq (.seq (.region [mvD 29 6, mvD 30 0, opD 31 (.pure .nilc [(tD 30)]), opD 32 (.faddr 0 (tD 31)), opD 33 (.load false 1 (tD 32)), opD 34 (.len false (tD 33)), mvD 35 0, opD 36 (.pure .nilc [(tD 35)]), opD 37 (.faddr 1 (tD 36)), opD 38 (.load false 1 (tD 37)), opD 39 (.bin .sub (tD 34) (tD 38)), opD 40 (.conv .u64 (tD 39)), opD 41 (.bin .gtr (tD 29) (tD 40))] [[], [], [1], [2], [3], [4], [], [6], [7], [8], [5, 9], [10], [0, 11]] true) (.cond (.tmp 41) (.seq (.region [mvD 42 0, mvD 43 5, oqD 44 (.call 91 [(tD 42), (cD 11), (tD 43)]) (.ent (e91 fu))] [[], [], [0, 1]] false) (.seq (.region [opD 4 (.mov (cD 0))] [[]] false) .ret)) .skip)) (.seq (.region [mvD 45 6, opD 46 (.conv .i64 (tD 45)), mvD 4 46] [[], [0], [1, 0, 1]] false) .ret)))))))
set_option maxRecDepth 1000000 in
theorem v79 (fu : Nat) : evF fu (d79 fu) rs79 47 (e79 fu).ash (e79 fu).osh (e79 fu).vsh = p79 fu := by kernel_rfl
set_option maxRecDepth 1000000 in
theorem b79 (fu : Nat) : BodyD Tryd.prog 79 47 (d79 fu).erase rs79 := bodyD_mk Tryd.func79 (by kernel_rfl) (by kernel_rfl) (by kernel_rfl) (by kernel_rfl)
theorem g79 (fu : Nat) : (e79 fu).Good Tryd.prog := good_by orders (b79 fu) (l := [e51 fu, e91 fu, e91 fu]) (by kernel_rfl) ⟨g51 fu, g91 fu, g91 fu, trivial⟩ (by kernel_rfl) (v79 fu)
def rs68 : List RVx := [(.tmp 4)]
/-- (*gazette/gazetteref01.Reader).Bytes -/
def p68 (fu : Nat) : ((List (Int)) × ((Int) × ((Int) × ((Int) × (Unit))))) × ((Int) × (Unit)) → Option ((((List (Int)) × ((Int) × ((Int) × ((Int) × (Unit))))) × (Unit)) × (List (Int))) := fun ⟨⟨a, c, f, h, _⟩, i, _⟩ =>
Option.bind (p79 fu ((a, c, f, h, ()), i, ())) fun ⟨⟨⟨j, k, l, m, _⟩, _⟩, n⟩ =>
bif (l != (0 : Int)) then
 some (((j, k, l, m, ()), ()), [])
else
 bif decide ((0 : Int) ≤ IntKind.wrap .i64 ((IntKind.wrap .i64 (k + n)) - n)) then
 bif decide ((0 : Int) ≤ IntKind.wrap .i64 (k + n)) then
 bif decide (Int.toNat (IntKind.wrap .i64 ((IntKind.wrap .i64 (k + n)) - n)) ≤ Int.toNat (IntKind.wrap .i64 (k + n)) ∧ Int.toNat (IntKind.wrap .i64 (k + n)) ≤ List.length j) then
 bif decide (0 = List.length ([] : List (Int))) then
 bif decide (List.length ([] : List (Int)) + List.length (slice' j (Int.toNat (IntKind.wrap .i64 ((IntKind.wrap .i64 (k + n)) - n))) (some (Int.toNat (IntKind.wrap .i64 (k + n))))) ≤ maxLen ∧ (List.length ([] : List (Int)) + List.length (slice' j (Int.toNat (IntKind.wrap .i64 ((IntKind.wrap .i64 (k + n)) - n))) (some (Int.toNat (IntKind.wrap .i64 (k + n)))))) * 1 ≤ 140737488355328) then
 bif eqL (([] : List (Int)) ++ slice' j (Int.toNat (IntKind.wrap .i64 ((IntKind.wrap .i64 (k + n)) - n))) (some (Int.toNat (IntKind.wrap .i64 (k + n))))) then
 some (((j, IntKind.wrap .i64 (k + n), l, m, ()), ()), (([] : List (Int)) ++ slice' j (Int.toNat (IntKind.wrap .i64 ((IntKind.wrap .i64 (k + n)) - n))) (some (Int.toNat (IntKind.wrap .i64 (k + n))))))
 else none
 else none
 else none
 else none
 else none
 else none
def e68 (fu : Nat) : Ent := ⟨68, (.cons Y1 (.cons (.hole (.int .i64)) .nil)), (.cons Y2 .nil), (.own .own 5 (.int .u8)), p68 fu⟩
def d68 (fu : Nat) : DC := (.seq (.region [opD 4 (.mov (.const vS))] [[]] false) (.seq (.region [mvD 6 0, mvD 7 1, oqD 8 (.call 79 [(tD 6), (tD 7)]) (.ent (e79 fu)), mvD 5 8] [[], [], [0, 1], [2, 2, 0, 1, 2]] false) (.seq (.seq (.region [mvD 9 0, opD 10 (.pure .nilc [(tD 9)]), opD 11 (.faddr 2 (tD 10)), opD 12 (.load false 1 (tD 11)), opD 13 (.bin .neq (tD 12) (cD 0))] [[], [0], [1], [2], [3]] false) (.cond (.tmp 13) (.seq (.region [opD 4 (.mov (.const vS))] [[]] false) .ret) .skip)) (.seq (.region [mvD 14 0, mvD 15 0, opD 16 (.pure .nilc [(tD 15)]), opD 17 (.faddr 1 (tD 16)), opD 18 (.load false 1 (tD 17)), mvD 19 5, opD 20 (.bin .add (tD 18) (tD 19)), opD 21 (.pure .nilc [(tD 14)]), opD 22 (.faddr 1 (tD 21)), onD (.store 1 (tD 22) (tD 20))] [[], [], [1], [2], [3], [], [4, 5], [0, 0, 1, 2, 3, 4, 5, 6], [7, 0, 1, 2, 3, 4, 5, 6], [8, 6, 0, 1, 2, 3, 4, 5, 6]] false) (.seq (.region [oqD 23 (.bslice 5 1 0 [(.int .u8 0)] []) (.ty (.int .u8)), mvD 24 0, opD 25 (.pure .nilc [(tD 24)]), opD 26 (.faddr 0 (tD 25)), opD 27 (.load false 1 (tD 26)), mvD 28 0, opD 29 (.pure .nilc [(tD 28)]), opD 30 (.faddr 1 (tD 29)), opD 31 (.load false 1 (tD 30)), mvD 32 5, opD 33 (.bin .sub (tD 31) (tD 32)), mvD 34 0, opD 35 (.pure .nilc [(tD 34)]), opD 36 (.faddr 1 (tD 35)), opD 37 (.load false 1 (tD 36)), opD 38 (.slc 1 (tD 27) (some (tD 33)) (some (tD 37))), oqD 39 (.app 5 1 [(.int .u8 0)] 1 (tD 23) (tD 38)) (.ty (.int .u8)), mvD 4 39] [[], [], [1], [2], [3], [], [5], [6], [7], [], [8, 9], [], [11], [12], [13], [4, 10, 14], [0, 15], [16, 16, 0, 1, 2, 3, 4, 5, 6, 7, 8, 9, 10, 11, 12, 13, 14, 15, 16]] true) .ret)))))
set_option maxRecDepth 1000000 in
theorem v68 (fu : Nat) : evF fu (d68 fu) rs68 40 (e68 fu).ash (e68 fu).osh (e68 fu).vsh = p68 fu := by kernel_rfl
set_option maxRecDepth 1000000 in
theorem b68 (fu : Nat) : BodyD Tryd.prog 68 40 (d68 fu).erase rs68 := bodyD_mk Tryd.func68 (by kernel_rfl) (by kernel_rfl) (by kernel_rfl) (by kernel_rfl)
theorem g68 (fu : Nat) : (e68 fu).Good Tryd.prog := good_by orders (b68 fu) (l := [e79 fu]) (by kernel_rfl) ⟨g79 fu, trivial⟩ (by kernel_rfl) (v68 fu)
def rs15 : List RVx := [(.tmp 2)]
/-- (*gazette/codec.Reader).Uint -/
def p15_2 (fu : Nat) : ((List (Int)) × ((Int) × (((Bool) × (((Int) × ((Int) × (Unit))) × (Unit))) × (Unit)))) × (Unit) → Option ((((List (Int)) × ((Int) × (((Bool) × (((Int) × ((Int) × (Unit))) × (Unit))) × (Unit)))) × ((Unit) × (Unit))) × (Int)) := fun ⟨⟨a, c, ⟨f, ⟨h, i, _⟩, _⟩, _⟩, _⟩ =>
bif f then
 bif eqL a then
 some (((a, c, (true, (h, i, ()), dflt .unit), ()), (), ()), (0 : Int))
 else none
else
 bif decide ((0 : Int) ≤ c) then
 bif decide (Int.toNat c ≤ List.length a ∧ 0 + (List.length a) ≤ List.length a) then
 bif decide ((Int.toNat c) + ((List.length a) - (Int.toNat c)) ≤ List.length a) then
 Option.bind (p40 fu (sub' a (Int.toNat c) ((List.length a) - (Int.toNat c)), ())) fun ⟨_, ⟨j, k, l, _⟩⟩ =>
 bif eqL a then
 Option.bind (p41 fu ((a, c, (), ()), l, ())) fun ⟨⟨⟨m, n, ⟨o, ⟨q, s, _⟩, _⟩, _⟩, _, _⟩, _⟩ =>
 bif o then
 bif eqL m then
 some (((m, IntKind.wrap .i64 (n + k), (true, (q, s, ()), dflt .unit), ()), (), ()), j)
 else none
 else
 bif eqL m then
 some (((m, IntKind.wrap .i64 (n + k), zR0, ()), (), ()), j)
 else none
 else none
 else none
 else none
 else none
def e15_2 (fu : Nat) : Ent := ⟨15, (.cons Y3 .nil), (.cons Y0 (.cons .dead .nil)), (.hole (.int .u64)), p15_2 fu⟩
def d15_2 (fu : Nat) : DC := (.seq (.region [opD 2 (.mov (.const vU))] [[]] false) (.seq (.seq (.region [mvD 6 0, opD 7 (.pure .nilc [(tD 6)]), opD 8 (.faddr 2 (tD 7)), opD 9 (.load false 1 (tD 8)), opD 10 (.pure (.nilq 1 true) [(tD 9)])] [[], [0], [1], [2], [3]] false) (.cond (.tmp 10) (.seq (.region [opD 2 (.mov (.const vU))] [[]] false) .ret) .skip)) (.seq (.region [mvD 12 0, opD 13 (.pure .nilc [(tD 12)]), opD 14 (.faddr 0 (tD 13)), opD 15 (.load false 1 (tD 14)), mvD 16 0, opD 17 (.pure .nilc [(tD 16)]), opD 18 (.faddr 1 (tD 17)), opD 19 (.load false 1 (tD 18)), opD 20 (.slc 1 (tD 15) (some (tD 19)) none), oqD 21 (.call 40 [(tD 20)]) (.ent (e40 fu)), mvD 11 21, opD 22 (.ext (tD 11) 0), opD 23 (.ext (tD 11) 1), opD 24 (.ext (tD 11) 2), mvD 3 22, mvD 4 23, mvD 5 24] [[], [0], [1], [2], [], [4], [5], [6], [3, 7], [8], [9], [10], [10], [10], [11, 9, 0, 1, 2, 3, 4, 5, 6, 7, 8, 9, 10, 11], [12, 14, 0, 1, 2, 3, 4, 5, 6, 7, 8, 9, 10, 11, 12, 14], [13, 15, 0, 1, 2, 3, 4, 5, 6, 7, 8, 9, 10, 11, 12, 13, 14, 15]] true) (.seq (.region [mvD 25 0, mvD 26 5, oqD 27 (.call 41 [(tD 25), (tD 26)]) (.ent (e41 fu))] [[], [], [0, 1]] false) (.seq (.region [mvD 28 0, opD 29 (.pure .nilc [(tD 28)]), opD 30 (.faddr 1 (tD 29)), opD 31 (.load false 1 (tD 30)), mvD 32 4, opD 33 (.bin .add (tD 31) (tD 32)), opD 34 (.pure .nilc [(tD 28)]), opD 35 (.faddr 1 (tD 34)), onD (.store 1 (tD 35) (tD 33))] [[], [0], [1], [2], [], [3, 4], [0, 0, 1, 2, 3, 4, 5], [6, 0, 1, 2, 3, 4, 5], [7, 5, 0, 1, 2, 3, 4, 5]] false) (.seq (.region [mvD 36 3, mvD 2 36] [[], [0, 0]] false) .ret))))))
set_option maxRecDepth 1000000 in
theorem v15_2 (fu : Nat) : evF fu (d15_2 fu) rs15 37 (e15_2 fu).ash (e15_2 fu).osh (e15_2 fu).vsh = p15_2 fu := by kernel_rfl
set_option maxRecDepth 1000000 in
theorem b15_2 (fu : Nat) : BodyD Tryd.prog 15 37 (d15_2 fu).erase rs15 := bodyD_mk Tryd.func15 (by kernel_rfl) (by kernel_rfl) (by kernel_rfl) (by kernel_rfl)
theorem g15_2 (fu : Nat) : (e15_2 fu).Good Tryd.prog := good_by orders (b15_2 fu) (l := [e40 fu, e41 fu]) (by kernel_rfl) ⟨g40 fu, g41 fu, trivial⟩ (by kernel_rfl) (v15_2 fu)
def rs48 : List RVx := [(.tmp 2)]
/-- (*gazette/codec.Reader).Int -/
def p48_2 (fu : Nat) : ((List (Int)) × ((Int) × (((Bool) × (((Int) × ((Int) × (Unit))) × (Unit))) × (Unit)))) × (Unit) → Option ((((List (Int)) × ((Int) × (((Bool) × (((Int) × ((Int) × (Unit))) × (Unit))) × (Unit)))) × ((Unit) × (Unit))) × (Int)) := fun ⟨⟨a, c, ⟨f, ⟨h, i, _⟩, _⟩, _⟩, _⟩ =>
bif f then
 bif eqL a then
 Option.bind (p15_2 fu ((a, c, (true, (h, i, ()), dflt .unit), ()), ())) fun ⟨⟨⟨j, k, ⟨l, ⟨m, n, _⟩, _⟩, _⟩, _, _⟩, o⟩ =>
 bif l then
 bif eqL j then
 some (((j, k, (true, (m, n, ()), dflt .unit), ()), (), ()), IntKind.wrap .i64 (IntKind.wrap .u64 ((BitVec.ofInt (IntKind.bits .u64) (Int.fdiv o (2 ^ (min (Int.toNat (1 : Int)) (IntKind.bits .u64)))) ^^^ BitVec.ofInt (IntKind.bits .u64) (IntKind.wrap .u64 (0 - (IntKind.wrap .u64 ((BitVec.ofInt (IntKind.bits .u64) o &&& BitVec.ofInt (IntKind.bits .u64) (1 : Int)).toNat : Int))))).toNat : Int)))
 else none
 else
 bif eqL j then
 some (((j, k, zR0, ()), (), ()), IntKind.wrap .i64 (IntKind.wrap .u64 ((BitVec.ofInt (IntKind.bits .u64) (Int.fdiv o (2 ^ (min (Int.toNat (1 : Int)) (IntKind.bits .u64)))) ^^^ BitVec.ofInt (IntKind.bits .u64) (IntKind.wrap .u64 (0 - (IntKind.wrap .u64 ((BitVec.ofInt (IntKind.bits .u64) o &&& BitVec.ofInt (IntKind.bits .u64) (1 : Int)).toNat : Int))))).toNat : Int)))
 else none
 else none
else
 bif eqL a then
 Option.bind (p15_2 fu ((a, c, zR0, ()), ())) fun ⟨⟨⟨q, s, ⟨t, ⟨u, w, _⟩, _⟩, _⟩, _, _⟩, x⟩ =>
 bif t then
 bif eqL q then
 some (((q, s, (true, (u, w, ()), dflt .unit), ()), (), ()), IntKind.wrap .i64 (IntKind.wrap .u64 ((BitVec.ofInt (IntKind.bits .u64) (Int.fdiv x (2 ^ (min (Int.toNat (1 : Int)) (IntKind.bits .u64)))) ^^^ BitVec.ofInt (IntKind.bits .u64) (IntKind.wrap .u64 (0 - (IntKind.wrap .u64 ((BitVec.ofInt (IntKind.bits .u64) x &&& BitVec.ofInt (IntKind.bits .u64) (1 : Int)).toNat : Int))))).toNat : Int)))
 else none
 else
 bif eqL q then
 some (((q, s, zR0, ()), (), ()), IntKind.wrap .i64 (IntKind.wrap .u64 ((BitVec.ofInt (IntKind.bits .u64) (Int.fdiv x (2 ^ (min (Int.toNat (1 : Int)) (IntKind.bits .u64)))) ^^^ BitVec.ofInt (IntKind.bits .u64) (IntKind.wrap .u64 (0 - (IntKind.wrap .u64 ((BitVec.ofInt (IntKind.bits .u64) x &&& BitVec.ofInt (IntKind.bits .u64) (1 : Int)).toNat : Int))))).toNat : Int)))
 else none
 else none
def e48_2 (fu : Nat) : Ent := ⟨48, (.cons Y3 .nil), (.cons Y0 (.cons .dead .nil)), (.hole (.int .i64)), p48_2 fu⟩
def d48_2 (fu : Nat) : DC := (.seq (.region [opD 2 (.mov (cD 0))] [[]] false) (.seq (.region [mvD 4 0, oqD 5 (.call 15 [(tD 4)]) (.ent (e15_2 fu)), mvD 3 5] [[], [0], [1, 1, 0, 1]] false) (.seq (.region [mvD 6 3, opD 7 (.bin .shr (tD 6) (.const (.int .u64 1))), mvD 8 3, opD 9 (.bin .and (tD 8) (.const (.int .u64 1))), opD 10 (.pure .neg [(tD 9)]), opD 11 (.bin .xor (tD 7) (tD 10)), opD 12 (.conv .i64 (tD 11)), mvD 2 12] [[], [0], [], [2], [3], [1, 4], [5], [6, 0, 1, 2, 3, 4, 5, 6]] false) .ret)))
set_option maxRecDepth 1000000 in
theorem v48_2 (fu : Nat) : evF fu (d48_2 fu) rs48 13 (e48_2 fu).ash (e48_2 fu).osh (e48_2 fu).vsh = p48_2 fu := by kernel_rfl
set_option maxRecDepth 1000000 in
theorem b48_2 (fu : Nat) : BodyD Tryd.prog 48 13 (d48_2 fu).erase rs48 := bodyD_mk Tryd.func48 (by kernel_rfl) (by kernel_rfl) (by kernel_rfl) (by kernel_rfl)
theorem g48_2 (fu : Nat) : (e48_2 fu).Good Tryd.prog := good_by orders (b48_2 fu) (l := [e15_2 fu]) (by kernel_rfl) ⟨g15_2 fu, trivial⟩ (by kernel_rfl) (v48_2 fu)
def rs17 : List RVx := [(.tmp 4)]
/-- (*gazette/codec.Reader).Count -/
def p17_2 (fu : Nat) : ((List (Int)) × ((Int) × (((Bool) × (((Int) × ((Int) × (Unit))) × (Unit))) × (Unit)))) × ((Int) × (Unit)) → Option ((((List (Int)) × ((Int) × (((Bool) × (((Int) × ((Int) × (Unit))) × (Unit))) × (Unit)))) × ((Unit) × (Unit))) × (Int)) := fun ⟨⟨a, c, ⟨f, ⟨h, i, _⟩, _⟩, _⟩, j, _⟩ =>
bif f then
 bif eqL a then
 Option.bind (p15_2 fu ((a, c, (true, (h, i, ()), dflt .unit), ()), ())) fun ⟨⟨⟨k, l, ⟨m, ⟨n, o, _⟩, _⟩, _⟩, _, _⟩, q⟩ =>
 bif m then
 orK (E := (Unit) × (((List (Int)) × ((Int) × (((Bool) × (((Int) × ((Int) × (Unit))) × (Unit))) × (Unit)))) × (Unit)))
 (orK (E := ((Bool) × (Unit)) × (Unit))
 (bif decide (j < (0 : Int)) then
 some (.inl ((true, ()), ()))
 else
 some (.inl ((decide (q > (IntKind.wrap .u64 j)), ()), ())))
 fun ⟨⟨s, _⟩, _⟩ =>
 bif s then
 bif eqL k then
 Option.bind (p43_2 fu ((k, l, (true, (n, o, ()), dflt .unit), ()), c, (13 : Int), ())) fun ⟨⟨⟨t, u, ⟨w, ⟨x, y, _⟩, _⟩, _⟩, _, _⟩, _⟩ =>
 bif w then
 bif eqL t then
 some (.inl ((), ((t, u, (true, (x, y, ()), dflt .unit), ()), ())))
 else none
 else
 bif eqL t then
 some (.inl ((), ((t, u, zR0, ()), ())))
 else none
 else none
 else
 bif eqL k then
 some (.inl ((), ((k, l, (true, (n, o, ()), dflt .unit), ()), ())))
 else none)
 fun ⟨_, ⟨⟨z, a0, ⟨c0, ⟨f0, h0, _⟩, _⟩, _⟩, _⟩⟩ =>
 bif c0 then
 orK (E := (Unit) × (((List (Int)) × ((Int) × (((Bool) × (((Int) × ((Int) × (Unit))) × (Unit))) × (Unit)))) × (Unit)))
 (bif decide (q > (IntKind.wrap .u64 (IntKind.wrap .i64 (((List.length z) : Int) - a0)))) then
 bif eqL z then
 Option.bind (p43_2 fu ((z, a0, (true, (f0, h0, ()), dflt .unit), ()), c, (11 : Int), ())) fun ⟨⟨⟨i0, j0, ⟨k0, ⟨l0, m0, _⟩, _⟩, _⟩, _, _⟩, _⟩ =>
 bif k0 then
 bif eqL i0 then
 some (.inl ((), ((i0, j0, (true, (l0, m0, ()), dflt .unit), ()), ())))
 else none
 else
 bif eqL i0 then
 some (.inl ((), ((i0, j0, zR0, ()), ())))
 else none
 else none
 else
 bif eqL z then
 some (.inl ((), ((z, a0, (true, (f0, h0, ()), dflt .unit), ()), ())))
 else none)
 fun ⟨_, ⟨⟨z, a0, ⟨c0, ⟨f0, h0, _⟩, _⟩, _⟩, _⟩⟩ =>
 bif c0 then
 bif eqL z then
 Option.bind (p44_2 fu ((z, a0, (true, (f0, h0, ()), dflt .unit), ()), IntKind.wrap .i64 q, ())) fun ⟨⟨⟨n0, o0, ⟨q0, ⟨s0, t0, _⟩, _⟩, _⟩, _, _⟩, u0⟩ =>
 bif q0 then
 bif eqL n0 then
 some (((n0, o0, (true, (s0, t0, ()), dflt .unit), ()), (), ()), u0)
 else none
 else
 bif eqL n0 then
 some (((n0, o0, zR0, ()), (), ()), u0)
 else none
 else none
 else
 bif eqL z then
 Option.bind (p44_2 fu ((z, a0, zR0, ()), IntKind.wrap .i64 q, ())) fun ⟨⟨⟨w0, x0, ⟨y0, ⟨z0, a1, _⟩, _⟩, _⟩, _, _⟩, c1⟩ =>
 bif y0 then
 bif eqL w0 then
 some (((w0, x0, (true, (z0, a1, ()), dflt .unit), ()), (), ()), c1)
 else none
 else
 bif eqL w0 then
 some (((w0, x0, zR0, ()), (), ()), c1)
 else none
 else none
 else
 orK (E := (Unit) × (((List (Int)) × ((Int) × (((Bool) × (((Int) × ((Int) × (Unit))) × (Unit))) × (Unit)))) × (Unit)))
 (bif decide (q > (IntKind.wrap .u64 (IntKind.wrap .i64 (((List.length z) : Int) - a0)))) then
 bif eqL z then
 Option.bind (p43_2 fu ((z, a0, zR0, ()), c, (11 : Int), ())) fun ⟨⟨⟨f1, h1, ⟨i1, ⟨j1, k1, _⟩, _⟩, _⟩, _, _⟩, _⟩ =>
 bif i1 then
 bif eqL f1 then
 some (.inl ((), ((f1, h1, (true, (j1, k1, ()), dflt .unit), ()), ())))
 else none
 else
 bif eqL f1 then
 some (.inl ((), ((f1, h1, zR0, ()), ())))
 else none
 else none
 else
 bif eqL z then
 some (.inl ((), ((z, a0, zR0, ()), ())))
 else none)
 fun ⟨_, ⟨⟨z, a0, ⟨c0, ⟨f0, h0, _⟩, _⟩, _⟩, _⟩⟩ =>
 bif c0 then
 bif eqL z then
 Option.bind (p44_2 fu ((z, a0, (true, (f0, h0, ()), dflt .unit), ()), IntKind.wrap .i64 q, ())) fun ⟨⟨⟨l1, m1, ⟨n1, ⟨o1, q1, _⟩, _⟩, _⟩, _, _⟩, s1⟩ =>
 bif n1 then
 bif eqL l1 then
 some (((l1, m1, (true, (o1, q1, ()), dflt .unit), ()), (), ()), s1)
 else none
 else
 bif eqL l1 then
 some (((l1, m1, zR0, ()), (), ()), s1)
 else none
 else none
 else
 bif eqL z then
 Option.bind (p44_2 fu ((z, a0, zR0, ()), IntKind.wrap .i64 q, ())) fun ⟨⟨⟨t1, u1, ⟨w1, ⟨x1, y1, _⟩, _⟩, _⟩, _, _⟩, z1⟩ =>
 bif w1 then
 bif eqL t1 then
 some (((t1, u1, (true, (x1, y1, ()), dflt .unit), ()), (), ()), z1)
 else none
 else
 bif eqL t1 then
 some (((t1, u1, zR0, ()), (), ()), z1)
 else none
 else none
 else
 orK (E := (Unit) × (((List (Int)) × ((Int) × (((Bool) × (((Int) × ((Int) × (Unit))) × (Unit))) × (Unit)))) × (Unit)))
 (orK (E := ((Bool) × (Unit)) × (Unit))
 (bif decide (j < (0 : Int)) then
 some (.inl ((true, ()), ()))
 else
 some (.inl ((decide (q > (IntKind.wrap .u64 j)), ()), ())))
 fun ⟨⟨s, _⟩, _⟩ =>
 bif s then
 bif eqL k then
 Option.bind (p43_2 fu ((k, l, zR0, ()), c, (13 : Int), ())) fun ⟨⟨⟨a2, c2, ⟨f2, ⟨h2, i2, _⟩, _⟩, _⟩, _, _⟩, _⟩ =>
 bif f2 then
 bif eqL a2 then
 some (.inl ((), ((a2, c2, (true, (h2, i2, ()), dflt .unit), ()), ())))
 else none
 else
 bif eqL a2 then
 some (.inl ((), ((a2, c2, zR0, ()), ())))
 else none
 else none
 else
 bif eqL k then
 some (.inl ((), ((k, l, zR0, ()), ())))
 else none)
 fun ⟨_, ⟨⟨z, a0, ⟨c0, ⟨f0, h0, _⟩, _⟩, _⟩, _⟩⟩ =>
 bif c0 then
 orK (E := (Unit) × (((List (Int)) × ((Int) × (((Bool) × (((Int) × ((Int) × (Unit))) × (Unit))) × (Unit)))) × (Unit)))
 (bif decide (q > (IntKind.wrap .u64 (IntKind.wrap .i64 (((List.length z) : Int) - a0)))) then
 bif eqL z then
 Option.bind (p43_2 fu ((z, a0, (true, (f0, h0, ()), dflt .unit), ()), c, (11 : Int), ())) fun ⟨⟨⟨j2, k2, ⟨l2, ⟨m2, n2, _⟩, _⟩, _⟩, _, _⟩, _⟩ =>
 bif l2 then
 bif eqL j2 then
 some (.inl ((), ((j2, k2, (true, (m2, n2, ()), dflt .unit), ()), ())))
 else none
 else
 bif eqL j2 then
 some (.inl ((), ((j2, k2, zR0, ()), ())))
 else none
 else none
 else
 bif eqL z then
 some (.inl ((), ((z, a0, (true, (f0, h0, ()), dflt .unit), ()), ())))
 else none)
 fun ⟨_, ⟨⟨z, a0, ⟨c0, ⟨f0, h0, _⟩, _⟩, _⟩, _⟩⟩ =>
 bif c0 then
 bif eqL z then
 Option.bind (p44_2 fu ((z, a0, (true, (f0, h0, ()), dflt .unit), ()), IntKind.wrap .i64 q, ())) fun ⟨⟨⟨o2, q2, ⟨s2, ⟨t2, u2, _⟩, _⟩, _⟩, _, _⟩, w2⟩ =>
 bif s2 then
 bif eqL o2 then
 some (((o2, q2, (true, (t2, u2, ()), dflt .unit), ()), (), ()), w2)
 else none
 else
 bif eqL o2 then
 some (((o2, q2, zR0, ()), (), ()), w2)
 else none
 else none
 else
 bif eqL z then
 Option.bind (p44_2 fu ((z, a0, zR0, ()), IntKind.wrap .i64 q, ())) fun ⟨⟨⟨x2, y2, ⟨z2, ⟨a3, c3, _⟩, _⟩, _⟩, _, _⟩, f3⟩ =>
 bif z2 then
 bif eqL x2 then
 some (((x2, y2, (true, (a3, c3, ()), dflt .unit), ()), (), ()), f3)
 else none
 else
 bif eqL x2 then
 some (((x2, y2, zR0, ()), (), ()), f3)
 else none
 else none
 else
 orK (E := (Unit) × (((List (Int)) × ((Int) × (((Bool) × (((Int) × ((Int) × (Unit))) × (Unit))) × (Unit)))) × (Unit)))
 (bif decide (q > (IntKind.wrap .u64 (IntKind.wrap .i64 (((List.length z) : Int) - a0)))) then
 bif eqL z then
 Option.bind (p43_2 fu ((z, a0, zR0, ()), c, (11 : Int), ())) fun ⟨⟨⟨h3, i3, ⟨j3, ⟨k3, l3, _⟩, _⟩, _⟩, _, _⟩, _⟩ =>
 bif j3 then
 bif eqL h3 then
 some (.inl ((), ((h3, i3, (true, (k3, l3, ()), dflt .unit), ()), ())))
 else none
 else
 bif eqL h3 then
 some (.inl ((), ((h3, i3, zR0, ()), ())))
 else none
 else none
 else
 bif eqL z then
 some (.inl ((), ((z, a0, zR0, ()), ())))
 else none)
 fun ⟨_, ⟨⟨z, a0, ⟨c0, ⟨f0, h0, _⟩, _⟩, _⟩, _⟩⟩ =>
 bif c0 then
 bif eqL z then
 Option.bind (p44_2 fu ((z, a0, (true, (f0, h0, ()), dflt .unit), ()), IntKind.wrap .i64 q, ())) fun ⟨⟨⟨m3, n3, ⟨o3, ⟨q3, s3, _⟩, _⟩, _⟩, _, _⟩, t3⟩ =>
 bif o3 then
 bif eqL m3 then
 some (((m3, n3, (true, (q3, s3, ()), dflt .unit), ()), (), ()), t3)
 else none
 else
 bif eqL m3 then
 some (((m3, n3, zR0, ()), (), ()), t3)
 else none
 else none
 else
 bif eqL z then
 Option.bind (p44_2 fu ((z, a0, zR0, ()), IntKind.wrap .i64 q, ())) fun ⟨⟨⟨u3, w3, ⟨x3, ⟨y3, z3, _⟩, _⟩, _⟩, _, _⟩, a4⟩ =>
 bif x3 then
 bif eqL u3 then
 some (((u3, w3, (true, (y3, z3, ()), dflt .unit), ()), (), ()), a4)
 else none
 else
 bif eqL u3 then
 some (((u3, w3, zR0, ()), (), ()), a4)
 else none
 else none
 else none
else
 bif eqL a then
 Option.bind (p15_2 fu ((a, c, zR0, ()), ())) fun ⟨⟨⟨c4, f4, ⟨h4, ⟨i4, j4, _⟩, _⟩, _⟩, _, _⟩, k4⟩ =>
 bif h4 then
 orK (E := (Unit) × (((List (Int)) × ((Int) × (((Bool) × (((Int) × ((Int) × (Unit))) × (Unit))) × (Unit)))) × (Unit)))
 (orK (E := ((Bool) × (Unit)) × (Unit))
 (bif decide (j < (0 : Int)) then
 some (.inl ((true, ()), ()))
 else
 some (.inl ((decide (k4 > (IntKind.wrap .u64 j)), ()), ())))
 fun ⟨⟨s, _⟩, _⟩ =>
 bif s then
 bif eqL c4 then
 Option.bind (p43_2 fu ((c4, f4, (true, (i4, j4, ()), dflt .unit), ()), c, (13 : Int), ())) fun ⟨⟨⟨l4, m4, ⟨n4, ⟨o4, q4, _⟩, _⟩, _⟩, _, _⟩, _⟩ =>
 bif n4 then
 bif eqL l4 then
 some (.inl ((), ((l4, m4, (true, (o4, q4, ()), dflt .unit), ()), ())))
 else none
 else
 bif eqL l4 then
 some (.inl ((), ((l4, m4, zR0, ()), ())))
 else none
 else none
 else
 bif eqL c4 then
 some (.inl ((), ((c4, f4, (true, (i4, j4, ()), dflt .unit), ()), ())))
 else none)
 fun ⟨_, ⟨⟨z, a0, ⟨c0, ⟨f0, h0, _⟩, _⟩, _⟩, _⟩⟩ =>
 bif c0 then
 orK (E := (Unit) × (((List (Int)) × ((Int) × (((Bool) × (((Int) × ((Int) × (Unit))) × (Unit))) × (Unit)))) × (Unit)))
 (bif decide (k4 > (IntKind.wrap .u64 (IntKind.wrap .i64 (((List.length z) : Int) - a0)))) then
 bif eqL z then
 Option.bind (p43_2 fu ((z, a0, (true, (f0, h0, ()), dflt .unit), ()), c, (11 : Int), ())) fun ⟨⟨⟨s4, t4, ⟨u4, ⟨w4, x4, _⟩, _⟩, _⟩, _, _⟩, _⟩ =>
 bif u4 then
 bif eqL s4 then
 some (.inl ((), ((s4, t4, (true, (w4, x4, ()), dflt .unit), ()), ())))
 else none
 else
 bif eqL s4 then
 some (.inl ((), ((s4, t4, zR0, ()), ())))
 else none
 else none
 else
 bif eqL z then
 some (.inl ((), ((z, a0, (true, (f0, h0, ()), dflt .unit), ()), ())))
 else none)
 fun ⟨_, ⟨⟨z, a0, ⟨c0, ⟨f0, h0, _⟩, _⟩, _⟩, _⟩⟩ =>
 bif c0 then
 bif eqL z then
 Option.bind (p44_2 fu ((z, a0, (true, (f0, h0, ()), dflt .unit), ()), IntKind.wrap .i64 k4, ())) fun ⟨⟨⟨y4, z4, ⟨a5, ⟨c5, f5, _⟩, _⟩, _⟩, _, _⟩, h5⟩ =>
 bif a5 then
 bif eqL y4 then
 some (((y4, z4, (true, (c5, f5, ()), dflt .unit), ()), (), ()), h5)
 else none
 else
 bif eqL y4 then
 some (((y4, z4, zR0, ()), (), ()), h5)
 else none
 else none
 else
 bif eqL z then
 Option.bind (p44_2 fu ((z, a0, zR0, ()), IntKind.wrap .i64 k4, ())) fun ⟨⟨⟨i5, j5, ⟨k5, ⟨l5, m5, _⟩, _⟩, _⟩, _, _⟩, n5⟩ =>
 bif k5 then
 bif eqL i5 then
 some (((i5, j5, (true, (l5, m5, ()), dflt .unit), ()), (), ()), n5)
 else none
 else
 bif eqL i5 then
 some (((i5, j5, zR0, ()), (), ()), n5)
 else none
 else none
 else
 orK (E := (Unit) × (((List (Int)) × ((Int) × (((Bool) × (((Int) × ((Int) × (Unit))) × (Unit))) × (Unit)))) × (Unit)))
 (bif decide (k4 > (IntKind.wrap .u64 (IntKind.wrap .i64 (((List.length z) : Int) - a0)))) then
 bif eqL z then
 Option.bind (p43_2 fu ((z, a0, zR0, ()), c, (11 : Int), ())) fun ⟨⟨⟨o5, q5, ⟨s5, ⟨t5, u5, _⟩, _⟩, _⟩, _, _⟩, _⟩ =>
 bif s5 then
 bif eqL o5 then
 some (.inl ((), ((o5, q5, (true, (t5, u5, ()), dflt .unit), ()), ())))
 else none
 else
 bif eqL o5 then
 some (.inl ((), ((o5, q5, zR0, ()), ())))
 else none
 else none
 else
 bif eqL z then
 some (.inl ((), ((z, a0, zR0, ()), ())))
 else none)
 fun ⟨_, ⟨⟨z, a0, ⟨c0, ⟨f0, h0, _⟩, _⟩, _⟩, _⟩⟩ =>
 bif c0 then
 bif eqL z then
 Option.bind (p44_2 fu ((z, a0, (true, (f0, h0, ()), dflt .unit), ()), IntKind.wrap .i64 k4, ())) fun ⟨⟨⟨w5, x5, ⟨y5, ⟨z5, a6, _⟩, _⟩, _⟩, _, _⟩, c6⟩ =>
 bif y5 then
 bif eqL w5 then
 some (((w5, x5, (true, (z5, a6, ()), dflt .unit), ()), (), ()), c6)
 else none
 else
 bif eqL w5 then
 some (((w5, x5, zR0, ()), (), ()), c6)
 else none
 else none
 else
 bif eqL z then
 Option.bind (p44_2 fu ((z, a0, zR0, ()), IntKind.wrap .i64 k4, ())) fun ⟨⟨⟨f6, h6, ⟨i6, ⟨j6, k6, _⟩, _⟩, _⟩, _, _⟩, l6⟩ =>
 bif i6 then
 bif eqL f6 then
 some (((f6, h6, (true, (j6, k6, ()), dflt .unit), ()), (), ()), l6)
 else none
 else
 bif eqL f6 then
 some (((f6, h6, zR0, ()), (), ()), l6)
 else none
 else none
 else
 orK (E := (Unit) × (((List (Int)) × ((Int) × (((Bool) × (((Int) × ((Int) × (Unit))) × (Unit))) × (Unit)))) × (Unit)))
 (orK (E := ((Bool) × (Unit)) × (Unit))
 (bif decide (j < (0 : Int)) then
 some (.inl ((true, ()), ()))
 else
 some (.inl ((decide (k4 > (IntKind.wrap .u64 j)), ()), ())))
 fun ⟨⟨s, _⟩, _⟩ =>
 bif s then
 bif eqL c4 then
 Option.bind (p43_2 fu ((c4, f4, zR0, ()), c, (13 : Int), ())) fun ⟨⟨⟨m6, n6, ⟨o6, ⟨q6, s6, _⟩, _⟩, _⟩, _, _⟩, _⟩ =>
 bif o6 then
 bif eqL m6 then
 some (.inl ((), ((m6, n6, (true, (q6, s6, ()), dflt .unit), ()), ())))
 else none
 else
 bif eqL m6 then
 some (.inl ((), ((m6, n6, zR0, ()), ())))
 else none
 else none
 else
 bif eqL c4 then
 some (.inl ((), ((c4, f4, zR0, ()), ())))
 else none)
 fun ⟨_, ⟨⟨z, a0, ⟨c0, ⟨f0, h0, _⟩, _⟩, _⟩, _⟩⟩ =>
 bif c0 then
 orK (E := (Unit) × (((List (Int)) × ((Int) × (((Bool) × (((Int) × ((Int) × (Unit))) × (Unit))) × (Unit)))) × (Unit)))
 (bif decide (k4 > (IntKind.wrap .u64 (IntKind.wrap .i64 (((List.length z) : Int) - a0)))) then
 bif eqL z then
 Option.bind (p43_2 fu ((z, a0, (true, (f0, h0, ()), dflt .unit), ()), c, (11 : Int), ())) fun ⟨⟨⟨t6, u6, ⟨w6, ⟨x6, y6, _⟩, _⟩, _⟩, _, _⟩, _⟩ =>
 bif w6 then
 bif eqL t6 then
 some (.inl ((), ((t6, u6, (true, (x6, y6, ()), dflt .unit), ()), ())))
 else none
 else
 bif eqL t6 then
 some (.inl ((), ((t6, u6, zR0, ()), ())))
 else none
 else none
 else
 bif eqL z then
 some (.inl ((), ((z, a0, (true, (f0, h0, ()), dflt .unit), ()), ())))
 else none)
 fun ⟨_, ⟨⟨z, a0, ⟨c0, ⟨f0, h0, _⟩, _⟩, _⟩, _⟩⟩ =>
 bif c0 then
 bif eqL z then
 Option.bind (p44_2 fu ((z, a0, (true, (f0, h0, ()), dflt .unit), ()), IntKind.wrap .i64 k4, ())) fun ⟨⟨⟨z6, a7, ⟨c7, ⟨f7, h7, _⟩, _⟩, _⟩, _, _⟩, i7⟩ =>
 bif c7 then
 bif eqL z6 then
 some (((z6, a7, (true, (f7, h7, ()), dflt .unit), ()), (), ()), i7)
 else none
 else
 bif eqL z6 then
 some (((z6, a7, zR0, ()), (), ()), i7)
 else none
 else none
 else
 bif eqL z then
 Option.bind (p44_2 fu ((z, a0, zR0, ()), IntKind.wrap .i64 k4, ())) fun ⟨⟨⟨j7, k7, ⟨l7, ⟨m7, n7, _⟩, _⟩, _⟩, _, _⟩, o7⟩ =>
 bif l7 then
 bif eqL j7 then
 some (((j7, k7, (true, (m7, n7, ()), dflt .unit), ()), (), ()), o7)
 else none
 else
 bif eqL j7 then
 some (((j7, k7, zR0, ()), (), ()), o7)
 else none
 else none
 else
 orK (E := (Unit) × (((List (Int)) × ((Int) × (((Bool) × (((Int) × ((Int) × (Unit))) × (Unit))) × (Unit)))) × (Unit)))
 (bif decide (k4 > (IntKind.wrap .u64 (IntKind.wrap .i64 (((List.length z) : Int) - a0)))) then
 bif eqL z then
 Option.bind (p43_2 fu ((z, a0, zR0, ()), c, (11 : Int), ())) fun ⟨⟨⟨q7, s7, ⟨t7, ⟨u7, w7, _⟩, _⟩, _⟩, _, _⟩, _⟩ =>
 bif t7 then
 bif eqL q7 then
 some (.inl ((), ((q7, s7, (true, (u7, w7, ()), dflt .unit), ()), ())))
 else none
 else
 bif eqL q7 then
 some (.inl ((), ((q7, s7, zR0, ()), ())))
 else none
 else none
 else
 bif eqL z then
 some (.inl ((), ((z, a0, zR0, ()), ())))
 else none)
 fun ⟨_, ⟨⟨z, a0, ⟨c0, ⟨f0, h0, _⟩, _⟩, _⟩, _⟩⟩ =>
 bif c0 then
 bif eqL z then
 Option.bind (p44_2 fu ((z, a0, (true, (f0, h0, ()), dflt .unit), ()), IntKind.wrap .i64 k4, ())) fun ⟨⟨⟨x7, y7, ⟨z7, ⟨a8, c8, _⟩, _⟩, _⟩, _, _⟩, f8⟩ =>
 bif z7 then
 bif eqL x7 then
 some (((x7, y7, (true, (a8, c8, ()), dflt .unit), ()), (), ()), f8)
 else none
 else
 bif eqL x7 then
 some (((x7, y7, zR0, ()), (), ()), f8)
 else none
 else none
 else
 bif eqL z then
 Option.bind (p44_2 fu ((z, a0, zR0, ()), IntKind.wrap .i64 k4, ())) fun ⟨⟨⟨h8, i8, ⟨j8, ⟨k8, l8, _⟩, _⟩, _⟩, _, _⟩, m8⟩ =>
 bif j8 then
 bif eqL h8 then
 some (((h8, i8, (true, (k8, l8, ()), dflt .unit), ()), (), ()), m8)
 else none
 else
 bif eqL h8 then
 some (((h8, i8, zR0, ()), (), ()), m8)
 else none
 else none
 else none
def e17_2 (fu : Nat) : Ent := ⟨17, (.cons Y3 (.cons (.hole (.int .i64)) .nil)), (.cons Y0 (.cons .dead .nil)), (.hole (.int .i64)), p17_2 fu⟩
def d17_2 (fu : Nat) : DC := (.seq (.region [opD 4 (.mov (cD 0))] [[]] false) (.seq (.region [mvD 7 0, opD 8 (.pure .nilc [(tD 7)]), opD 9 (.faddr 1 (tD 8)), opD 10 (.load false 1 (tD 9)), mvD 5 10] [[], [0], [1], [2], [3, 0, 1, 2, 3]] false) (.seq (.region [mvD 11 0, oqD 12 (.call 15 [(tD 11)]) (.ent (e15_2 fu)), mvD 6 12] [[], [0], [1, 1, 0, 1]] false) (.join ⟨[], .nil, [(0, 95, 3)], (.cons Y0 .nil), [0, 5, 6], [1]⟩
 (.join ⟨[20], (.cons (.hole .bool) .nil), [], .nil, [0, 5, 6], [0, 1, 116]⟩
 (.region [mvD 13 1, opD 14 (.bin .lss (tD 13) (cD 0)), mvD 15 14, ogD 16 15 false (.mov (tD 6)), ogD 17 15 false (.mov (tD 1)), ogD 18 15 false (.conv .u64 (tD 17)), ogD 19 15 false (.bin .gtr (tD 16) (tD 18)), opD 20 (.pick (tD 15) (.const (.bool true)) (tD 19))] [[], [0], [1], [2], [2], [4, 2], [3, 5, 2], [2, 6]] false)
 (.cond (.tmp 20) (.region [mvD 21 0, mvD 22 5, oqD 23 (.call 43 [(tD 21), (tD 22), (cD 13)]) (.ent (e43_2 fu))] [[], [], [0, 1]] false) .skip))
 (.join ⟨[], .nil, [(0, 95, 3)], (.cons Y0 .nil), [0, 6], [1]⟩
 (.seq (.region [mvD 24 6, mvD 25 0, opD 26 (.pure .nilc [(tD 25)]), opD 27 (.faddr 0 (tD 26)), opD 28 (.load false 1 (tD 27)), opD 29 (.len false (tD 28)), mvD 30 0, opD 31 (.pure .nilc [(tD 30)]), opD 32 (.faddr 1 (tD 31)), opD 33 (.load false 1 (tD 32)), opD 34 (.bin .sub (tD 29) (tD 33)), opD 35 (.conv .u64 (tD 34)), opD 36 (.bin .gtr (tD 24) (tD 35))] [[], [], [1], [2], [3], [4], [], [6], [7], [8], [5, 9], [10], [0, 11]] true) (.cond (.tmp 36) (.region [mvD 37 0, mvD 38 5, oqD 39 (.call 43 [(tD 37), (tD 38), (cD 11)]) (.ent (e43_2 fu))] [[], [], [0, 1]] false) .skip))
 (.seq (.region [mvD 40 0, mvD 41 6, opD 42 (.conv .i64 (tD 41)), oqD 43 (.call 44 [(tD 40), (tD 42)]) (.ent (e44_2 fu)), mvD 4 43] [[], [], [1], [0, 2], [3, 3, 0, 1, 2, 3]] false) .ret))))))
set_option maxRecDepth 1000000 in
theorem v17_2 (fu : Nat) : evF fu (d17_2 fu) rs17 44 (e17_2 fu).ash (e17_2 fu).osh (e17_2 fu).vsh = p17_2 fu := by kernel_rfl
set_option maxRecDepth 1000000 in
theorem b17_2 (fu : Nat) : BodyD Tryd.prog 17 44 (d17_2 fu).erase rs17 := bodyD_mk Tryd.func17 (by kernel_rfl) (by kernel_rfl) (by kernel_rfl) (by kernel_rfl)
theorem g17_2 (fu : Nat) : (e17_2 fu).Good Tryd.prog := good_by orders (b17_2 fu) (l := [e15_2 fu, e43_2 fu, e43_2 fu, e44_2 fu]) (by kernel_rfl) ⟨g15_2 fu, g43_2 fu, g43_2 fu, g44_2 fu, trivial⟩ (by kernel_rfl) (v17_2 fu)
def rs96 : List RVx := [(.tmp 2)]
/-- (*gazette/codec.Reader).nodes -/
def p96_2 (fu : Nat) : ((List (Int)) × ((Int) × (((Bool) × (((Int) × ((Int) × (Unit))) × (Unit))) × (Unit)))) × (Unit) → Option ((((List (Int)) × ((Int) × (((Bool) × (((Int) × ((Int) × (Unit))) × (Unit))) × (Unit)))) × ((Unit) × (Unit))) × (List (Int))) := fun ⟨⟨a, c, ⟨f, ⟨h, i, _⟩, _⟩, _⟩, _⟩ =>
bif f then
 bif eqL a then
 Option.bind (p17_2 fu ((a, c, (true, (h, i, ()), dflt .unit), ()), (7 : Int), ())) fun ⟨⟨⟨j, k, ⟨l, ⟨m, n, _⟩, _⟩, _⟩, _, _⟩, o⟩ =>
 bif l then
 bif eqL j then
 loopO (S := ((List (Int)) × ((Int) × (Unit))) × (((List (Int)) × ((Int) × (((Bool) × (((Int) × ((Int) × (Unit))) × (Unit))) × (Unit)))) × (Unit))) fu (fun ⟨⟨q, s, _⟩, ⟨⟨t, u, ⟨w, ⟨x, y, _⟩, _⟩, _⟩, _⟩⟩ =>
 bif w then
 bif decide (s < o) then
 bif eqL t then
 Option.bind (p48_2 fu ((t, u, (true, (x, y, ()), dflt .unit), ()), ())) fun ⟨⟨⟨z, a0, ⟨c0, ⟨f0, h0, _⟩, _⟩, _⟩, _, _⟩, i0⟩ =>
 bif c0 then
 bif eqL q then
 bif decide (List.length q + List.length ([i0]) ≤ maxLen ∧ (List.length q + List.length ([i0])) * 8 ≤ 140737488355328) then
 bif eqL (q ++ [i0]) then
 bif eqL z then
 some (.inl (((q ++ [i0]), IntKind.wrap .i64 (s + (1 : Int)), ()), ((z, a0, (true, (f0, h0, ()), dflt .unit), ()), ())))
 else none
 else none
 else none
 else none
 else
 bif eqL q then
 bif decide (List.length q + List.length ([i0]) ≤ maxLen ∧ (List.length q + List.length ([i0])) * 8 ≤ 140737488355328) then
 bif eqL (q ++ [i0]) then
 bif eqL z then
 some (.inl (((q ++ [i0]), IntKind.wrap .i64 (s + (1 : Int)), ()), ((z, a0, zR0, ()), ())))
 else none
 else none
 else none
 else none
 else none
 else
 inrO (bif eqL t then
 bif eqL q then
 some (((t, u, (true, (x, y, ()), dflt .unit), ()), (), ()), q)
 else none
 else none)
 else
 bif decide (s < o) then
 bif eqL t then
 Option.bind (p48_2 fu ((t, u, zR0, ()), ())) fun ⟨⟨⟨j0, k0, ⟨l0, ⟨m0, n0, _⟩, _⟩, _⟩, _, _⟩, o0⟩ =>
 bif l0 then
 bif eqL q then
 bif decide (List.length q + List.length ([o0]) ≤ maxLen ∧ (List.length q + List.length ([o0])) * 8 ≤ 140737488355328) then
 bif eqL (q ++ [o0]) then
 bif eqL j0 then
 some (.inl (((q ++ [o0]), IntKind.wrap .i64 (s + (1 : Int)), ()), ((j0, k0, (true, (m0, n0, ()), dflt .unit), ()), ())))
 else none
 else none
 else none
 else none
 else
 bif eqL q then
 bif decide (List.length q + List.length ([o0]) ≤ maxLen ∧ (List.length q + List.length ([o0])) * 8 ≤ 140737488355328) then
 bif eqL (q ++ [o0]) then
 bif eqL j0 then
 some (.inl (((q ++ [o0]), IntKind.wrap .i64 (s + (1 : Int)), ()), ((j0, k0, zR0, ()), ())))
 else none
 else none
 else none
 else none
 else none
 else
 inrO (bif eqL t then
 bif eqL q then
 some (((t, u, zR0, ()), (), ()), q)
 else none
 else none))
 (([], (0 : Int), ()), ((j, k, (true, (m, n, ()), dflt .unit), ()), ()))
 else none
 else
 bif eqL j then
 loopO (S := ((List (Int)) × ((Int) × (Unit))) × (((List (Int)) × ((Int) × (((Bool) × (((Int) × ((Int) × (Unit))) × (Unit))) × (Unit)))) × (Unit))) fu (fun ⟨⟨q, s, _⟩, ⟨⟨t, u, ⟨w, ⟨x, y, _⟩, _⟩, _⟩, _⟩⟩ =>
 bif w then
 bif decide (s < o) then
 bif eqL t then
 Option.bind (p48_2 fu ((t, u, (true, (x, y, ()), dflt .unit), ()), ())) fun ⟨⟨⟨q0, s0, ⟨t0, ⟨u0, w0, _⟩, _⟩, _⟩, _, _⟩, x0⟩ =>
 bif t0 then
 bif eqL q then
 bif decide (List.length q + List.length ([x0]) ≤ maxLen ∧ (List.length q + List.length ([x0])) * 8 ≤ 140737488355328) then
 bif eqL (q ++ [x0]) then
 bif eqL q0 then
 some (.inl (((q ++ [x0]), IntKind.wrap .i64 (s + (1 : Int)), ()), ((q0, s0, (true, (u0, w0, ()), dflt .unit), ()), ())))
 else none
 else none
 else none
 else none
 else
 bif eqL q then
 bif decide (List.length q + List.length ([x0]) ≤ maxLen ∧ (List.length q + List.length ([x0])) * 8 ≤ 140737488355328) then
 bif eqL (q ++ [x0]) then
 bif eqL q0 then
 some (.inl (((q ++ [x0]), IntKind.wrap .i64 (s + (1 : Int)), ()), ((q0, s0, zR0, ()), ())))
 else none
 else none
 else none
 else none
 else none
 else
 inrO (bif eqL t then
 bif eqL q then
 some (((t, u, (true, (x, y, ()), dflt .unit), ()), (), ()), q)
 else none
 else none)
 else
 bif decide (s < o) then
 bif eqL t then
 Option.bind (p48_2 fu ((t, u, zR0, ()), ())) fun ⟨⟨⟨y0, z0, ⟨a1, ⟨c1, f1, _⟩, _⟩, _⟩, _, _⟩, h1⟩ =>
 bif a1 then
 bif eqL q then
 bif decide (List.length q + List.length ([h1]) ≤ maxLen ∧ (List.length q + List.length ([h1])) * 8 ≤ 140737488355328) then
 bif eqL (q ++ [h1]) then
 bif eqL y0 then
 some (.inl (((q ++ [h1]), IntKind.wrap .i64 (s + (1 : Int)), ()), ((y0, z0, (true, (c1, f1, ()), dflt .unit), ()), ())))
 else none
 else none
 else none
 else none
 else
 bif eqL q then
 bif decide (List.length q + List.length ([h1]) ≤ maxLen ∧ (List.length q + List.length ([h1])) * 8 ≤ 140737488355328) then
 bif eqL (q ++ [h1]) then
 bif eqL y0 then
 some (.inl (((q ++ [h1]), IntKind.wrap .i64 (s + (1 : Int)), ()), ((y0, z0, zR0, ()), ())))
 else none
 else none
 else none
 else none
 else none
 else
 inrO (bif eqL t then
 bif eqL q then
 some (((t, u, zR0, ()), (), ()), q)
 else none
 else none))
 (([], (0 : Int), ()), ((j, k, zR0, ()), ()))
 else none
 else none
else
 bif eqL a then
 Option.bind (p17_2 fu ((a, c, zR0, ()), (7 : Int), ())) fun ⟨⟨⟨i1, j1, ⟨k1, ⟨l1, m1, _⟩, _⟩, _⟩, _, _⟩, n1⟩ =>
 bif k1 then
 bif eqL i1 then
 loopO (S := ((List (Int)) × ((Int) × (Unit))) × (((List (Int)) × ((Int) × (((Bool) × (((Int) × ((Int) × (Unit))) × (Unit))) × (Unit)))) × (Unit))) fu (fun ⟨⟨q, s, _⟩, ⟨⟨t, u, ⟨w, ⟨x, y, _⟩, _⟩, _⟩, _⟩⟩ =>
 bif w then
 bif decide (s < n1) then
 bif eqL t then
 Option.bind (p48_2 fu ((t, u, (true, (x, y, ()), dflt .unit), ()), ())) fun ⟨⟨⟨o1, q1, ⟨s1, ⟨t1, u1, _⟩, _⟩, _⟩, _, _⟩, w1⟩ =>
 bif s1 then
 bif eqL q then
 bif decide (List.length q + List.length ([w1]) ≤ maxLen ∧ (List.length q + List.length ([w1])) * 8 ≤ 140737488355328) then
 bif eqL (q ++ [w1]) then
 bif eqL o1 then
 some (.inl (((q ++ [w1]), IntKind.wrap .i64 (s + (1 : Int)), ()), ((o1, q1, (true, (t1, u1, ()), dflt .unit), ()), ())))
 else none
 else none
 else none
 else none
 else
 bif eqL q then
 bif decide (List.length q + List.length ([w1]) ≤ maxLen ∧ (List.length q + List.length ([w1])) * 8 ≤ 140737488355328) then
 bif eqL (q ++ [w1]) then
 bif eqL o1 then
 some (.inl (((q ++ [w1]), IntKind.wrap .i64 (s + (1 : Int)), ()), ((o1, q1, zR0, ()), ())))
 else none
 else none
 else none
 else none
 else none
 else
 inrO (bif eqL t then
 bif eqL q then
 some (((t, u, (true, (x, y, ()), dflt .unit), ()), (), ()), q)
 else none
 else none)
 else
 bif decide (s < n1) then
 bif eqL t then
 Option.bind (p48_2 fu ((t, u, zR0, ()), ())) fun ⟨⟨⟨x1, y1, ⟨z1, ⟨a2, c2, _⟩, _⟩, _⟩, _, _⟩, f2⟩ =>
 bif z1 then
 bif eqL q then
 bif decide (List.length q + List.length ([f2]) ≤ maxLen ∧ (List.length q + List.length ([f2])) * 8 ≤ 140737488355328) then
 bif eqL (q ++ [f2]) then
 bif eqL x1 then
 some (.inl (((q ++ [f2]), IntKind.wrap .i64 (s + (1 : Int)), ()), ((x1, y1, (true, (a2, c2, ()), dflt .unit), ()), ())))
 else none
 else none
 else none
 else none
 else
 bif eqL q then
 bif decide (List.length q + List.length ([f2]) ≤ maxLen ∧ (List.length q + List.length ([f2])) * 8 ≤ 140737488355328) then
 bif eqL (q ++ [f2]) then
 bif eqL x1 then
 some (.inl (((q ++ [f2]), IntKind.wrap .i64 (s + (1 : Int)), ()), ((x1, y1, zR0, ()), ())))
 else none
 else none
 else none
 else none
 else none
 else
 inrO (bif eqL t then
 bif eqL q then
 some (((t, u, zR0, ()), (), ()), q)
 else none
 else none))
 (([], (0 : Int), ()), ((i1, j1, (true, (l1, m1, ()), dflt .unit), ()), ()))
 else none
 else
 bif eqL i1 then
 loopO (S := ((List (Int)) × ((Int) × (Unit))) × (((List (Int)) × ((Int) × (((Bool) × (((Int) × ((Int) × (Unit))) × (Unit))) × (Unit)))) × (Unit))) fu (fun ⟨⟨q, s, _⟩, ⟨⟨t, u, ⟨w, ⟨x, y, _⟩, _⟩, _⟩, _⟩⟩ =>
 bif w then
 bif decide (s < n1) then
 bif eqL t then
 Option.bind (p48_2 fu ((t, u, (true, (x, y, ()), dflt .unit), ()), ())) fun ⟨⟨⟨h2, i2, ⟨j2, ⟨k2, l2, _⟩, _⟩, _⟩, _, _⟩, m2⟩ =>
 bif j2 then
 bif eqL q then
 bif decide (List.length q + List.length ([m2]) ≤ maxLen ∧ (List.length q + List.length ([m2])) * 8 ≤ 140737488355328) then
 bif eqL (q ++ [m2]) then
 bif eqL h2 then
 some (.inl (((q ++ [m2]), IntKind.wrap .i64 (s + (1 : Int)), ()), ((h2, i2, (true, (k2, l2, ()), dflt .unit), ()), ())))
 else none
 else none
 else none
 else none
 else
 bif eqL q then
 bif decide (List.length q + List.length ([m2]) ≤ maxLen ∧ (List.length q + List.length ([m2])) * 8 ≤ 140737488355328) then
 bif eqL (q ++ [m2]) then
 bif eqL h2 then
 some (.inl (((q ++ [m2]), IntKind.wrap .i64 (s + (1 : Int)), ()), ((h2, i2, zR0, ()), ())))
 else none
 else none
 else none
 else none
 else none
 else
 inrO (bif eqL t then
 bif eqL q then
 some (((t, u, (true, (x, y, ()), dflt .unit), ()), (), ()), q)
 else none
 else none)
 else
 bif decide (s < n1) then
 bif eqL t then
 Option.bind (p48_2 fu ((t, u, zR0, ()), ())) fun ⟨⟨⟨n2, o2, ⟨q2, ⟨s2, t2, _⟩, _⟩, _⟩, _, _⟩, u2⟩ =>
 bif q2 then
 bif eqL q then
 bif decide (List.length q + List.length ([u2]) ≤ maxLen ∧ (List.length q + List.length ([u2])) * 8 ≤ 140737488355328) then
 bif eqL (q ++ [u2]) then
 bif eqL n2 then
 some (.inl (((q ++ [u2]), IntKind.wrap .i64 (s + (1 : Int)), ()), ((n2, o2, (true, (s2, t2, ()), dflt .unit), ()), ())))
 else none
 else none
 else none
 else none
 else
 bif eqL q then
 bif decide (List.length q + List.length ([u2]) ≤ maxLen ∧ (List.length q + List.length ([u2])) * 8 ≤ 140737488355328) then
 bif eqL (q ++ [u2]) then
 bif eqL n2 then
 some (.inl (((q ++ [u2]), IntKind.wrap .i64 (s + (1 : Int)), ()), ((n2, o2, zR0, ()), ())))
 else none
 else none
 else none
 else none
 else none
 else
 inrO (bif eqL t then
 bif eqL q then
 some (((t, u, zR0, ()), (), ()), q)
 else none
 else none))
 (([], (0 : Int), ()), ((i1, j1, zR0, ()), ()))
 else none
 else none
def e96_2 (fu : Nat) : Ent := ⟨96, (.cons Y3 .nil), (.cons Y0 (.cons .dead .nil)), (.own .own 3 (.int .i64)), p96_2 fu⟩
def d96_2 (fu : Nat) : DC := (.seq (.region [opD 2 (.mov (.const vS))] [[]] false) (.seq (.region [opD 3 (.mov (.const vS))] [[]] false) (.seq (.seq (.region [mvD 4 0, oqD 5 (.call 17 [(tD 4), (cD 7)]) (.ent (e17_2 fu)), opD 6 (.mov (cD 0))] [[], [0], []] false) (.block 0 (.loop ⟨[3, 6], (.cons (.own .own 3 (.int .i64)) (.cons (.hole (.int .i64)) .nil)), [(0, 95, 3)], (.cons Y0 .nil), [0, 5], [1]⟩
 (.seq (.region [opD 7 (.bin .lss (tD 6) (tD 5))] [[]] false) (.seq (.cond (.tmp 7) .skip (.exit 0)) (.seq (.block 1 (.region [mvD 8 3, mvD 9 0, oqD 10 (.call 48 [(tD 9)]) (.ent (e48_2 fu)), oqD 11 (.bslice 3 1 1 [vI] [(0, (tD 10))]) (.ty (.int .i64)), oqD 12 (.app 3 1 [vI] 8 (tD 8) (tD 11)) (.ty (.int .i64)), mvD 3 12] [[], [], [1], [2], [0, 3, 2], [4, 4, 0, 1, 2, 3, 4]] false)) (.region [opD 13 (.bin .add (tD 6) (cD 1)), mvD 6 13] [[], [0]] false))))))) (.seq (.region [mvD 14 3, mvD 2 14] [[], [0, 0]] false) .ret))))
set_option maxRecDepth 1000000 in
theorem v96_2 (fu : Nat) : evF fu (d96_2 fu) rs96 15 (e96_2 fu).ash (e96_2 fu).osh (e96_2 fu).vsh = p96_2 fu := by kernel_rfl
set_option maxRecDepth 1000000 in
theorem b96_2 (fu : Nat) : BodyD Tryd.prog 96 15 (d96_2 fu).erase rs96 := bodyD_mk Tryd.func96 (by kernel_rfl) (by kernel_rfl) (by kernel_rfl) (by kernel_rfl)
theorem g96_2 (fu : Nat) : (e96_2 fu).Good Tryd.prog := good_by orders (b96_2 fu) (l := [e17_2 fu, e48_2 fu]) (by kernel_rfl) ⟨g17_2 fu, g48_2 fu, trivial⟩ (by kernel_rfl) (v96_2 fu)
def rs95 : List RVx := [(.cell 4 true 2)]
/-- gazette/codec.whole[gazette/api.Conf] -/
def p95_8 (_ : Nat) : ((List (Int)) × ((Int) × (((Bool) × (((Int) × ((Int) × (Unit))) × (Unit))) × (Unit)))) × (((List (Int)) × ((List (Int)) × (Unit))) × (Unit)) → Option ((((List (Int)) × ((Int) × (((Bool) × (((Int) × ((Int) × (Unit))) × (Unit))) × (Unit)))) × ((Unit) × (Unit))) × ((List (Int)) × ((List (Int)) × (Unit)))) := fun ⟨⟨a, c, ⟨f, ⟨h, i, _⟩, _⟩, _⟩, ⟨j, k, _⟩, _⟩ =>
bif f then
 bif eqL a then
 some (((a, c, (true, (h, i, ()), dflt .unit), ()), (), ()), ([], [], ()))
 else none
else
 bif eqL a then
 some (((a, c, zR0, ()), (), ()), (j, k, ()))
 else none
def e95_8 (fu : Nat) : Ent := ⟨95, (.cons Y3 (.cons (.agg 2 (.cons (.hole (.sl (.int .i64))) (.cons (.hole (.sl (.int .i64))) .nil))) .nil)), (.cons Y0 (.cons .dead .nil)), (.agg 2 (.cons (.hole (.sl (.int .i64))) (.cons (.hole (.sl (.int .i64))) .nil))), p95_8 fu⟩
def d95_8 (_ : Nat) : DC := (.seq (.region [opD 3 (.box 31 2 (tD 1)), opD 4 (.alloc 31 2 [vS, vS])] [[], []] false) (.seq (.seq (.region [mvD 6 0, opD 7 (.pure .nilc [(tD 6)]), opD 8 (.faddr 2 (tD 7)), opD 9 (.load false 1 (tD 8)), opD 10 (.pure (.nilq 1 true) [(tD 9)])] [[], [0], [1], [2], [3]] false) (.cond (.tmp 10) (.seq (.region [opD 5 (.alloc 31 2 [vS, vS])] [[]] false) (.seq (.region [opD 11 (.load true 2 (tD 5)), onD (.store 2 (tD 4) (tD 11))] [[], [0, 0]] false) .ret)) .skip)) (.seq (.region [opD 12 (.load true 2 (tD 3)), onD (.store 2 (tD 4) (tD 12))] [[], [0, 0]] false) .ret)))
set_option maxRecDepth 1000000 in
theorem v95_8 (fu : Nat) : evF fu (d95_8 fu) rs95 13 (e95_8 fu).ash (e95_8 fu).osh (e95_8 fu).vsh = p95_8 fu := by kernel_rfl
set_option maxRecDepth 1000000 in
theorem b95_8 (fu : Nat) : BodyD Tryd.prog 95 13 (d95_8 fu).erase rs95 := bodyD_mk Tryd.func95 (by kernel_rfl) (by kernel_rfl) (by kernel_rfl) (by kernel_rfl)
theorem g95_8 (fu : Nat) : (e95_8 fu).Good Tryd.prog := good_by orders (b95_8 fu) (l := []) (by kernel_rfl) trivial (by kernel_rfl) (v95_8 fu)
def rs97 : List RVx := [(.tmp 2)]
/-- (*gazette/gazetteref01.Reader).ints -/
def p97 (fu : Nat) : ((List (Int)) × ((Int) × ((Int) × ((Int) × (Unit))))) × (Unit) → Option ((((List (Int)) × ((Int) × ((Int) × ((Int) × (Unit))))) × (Unit)) × (List (Int))) := fun ⟨⟨a, c, f, h, _⟩, _⟩ =>
Option.bind (p79 fu ((a, c, f, h, ()), (7 : Int), ())) fun ⟨⟨⟨i, j, k, l, _⟩, _⟩, m⟩ =>
orK (E := ((List (Int)) × (Unit)) × (((List (Int)) × ((Int) × ((Int) × ((Int) × (Unit))))) × (Unit)))
 (loopO (S := ((List (Int)) × ((Int) × (Unit))) × (((List (Int)) × ((Int) × ((Int) × ((Int) × (Unit))))) × (Unit))) fu (fun ⟨⟨n, o, _⟩, ⟨⟨q, s, t, u, _⟩, _⟩⟩ =>
 bif decide (o < m) then
 bif (t == (0 : Int)) then
 Option.bind (p65 fu ((q, s, t, u, ()), ())) fun ⟨⟨⟨w, x, y, z, _⟩, _⟩, a0⟩ =>
 bif eqL n then
 bif decide (List.length n + List.length ([a0]) ≤ maxLen ∧ (List.length n + List.length ([a0])) * 8 ≤ 140737488355328) then
 bif eqL (n ++ [a0]) then
 some (.inl (((n ++ [a0]), IntKind.wrap .i64 (o + (1 : Int)), ()), ((w, x, y, z, ()), ())))
 else none
 else none
 else none
 else
 inrO (bif eqL n then
 some (.inl ((n, ()), ((q, s, t, u, ()), ())))
 else none)
 else
 inrO (bif eqL n then
 some (.inl ((n, ()), ((q, s, t, u, ()), ())))
 else none))
 (([], (0 : Int), ()), ((i, j, k, l, ()), ())))
 fun ⟨⟨n, _⟩, ⟨⟨q, s, t, u, _⟩, _⟩⟩ =>
bif (t != (0 : Int)) then
 some (((q, s, t, u, ()), ()), [])
else
 bif eqL n then
 some (((q, s, t, u, ()), ()), n)
 else none
def e97 (fu : Nat) : Ent := ⟨97, (.cons Y1 .nil), (.cons Y2 .nil), (.own .own 3 (.int .i64)), p97 fu⟩
def d97 (fu : Nat) : DC := (.seq (.region [opD 2 (.mov (.const vS))] [[]] false) (.seq (.region [mvD 6 0, oqD 7 (.call 79 [(tD 6), (cD 7)]) (.ent (e79 fu)), mvD 3 7] [[], [0], [1, 1, 0, 1]] false) (.seq (.region [opD 4 (.mov (.const vS))] [[]] false) (.join ⟨[4], (.cons (.own .own 3 (.int .i64)) .nil), [(0, 73, 4)], (.cons Y2 .nil), [0], []⟩
 (.seq (.region [opD 5 (.mov (cD 0))] [[]] false) (.block 0 (.loop ⟨[4, 5], (.cons (.own .own 3 (.int .i64)) (.cons (.hole (.int .i64)) .nil)), [(0, 73, 4)], (.cons Y2 .nil), [0, 3], []⟩
 (.seq (.seq (.region [mvD 8 5, mvD 9 3, opD 10 (.bin .lss (tD 8) (tD 9)), mvD 11 10, ogD 12 11 true (.mov (tD 0)), ogD 13 11 true (.pure .nilc [(tD 12)]), ogD 14 11 true (.faddr 2 (tD 13)), ogD 15 11 true (.load false 1 (tD 14)), ogD 16 11 true (.bin .eql (tD 15) (cD 0)), opD 17 (.pick (tD 11) (tD 16) (.const vB))] [[], [], [0, 1], [2], [3], [4, 3], [5, 3], [6, 3], [7, 3], [3, 8]] false) (.cond (.tmp 17) .skip (.exit 0))) (.seq (.block 1 (.region [mvD 20 4, mvD 21 0, oqD 22 (.call 65 [(tD 21)]) (.ent (e65 fu)), oqD 23 (.bslice 3 1 1 [vI] [(0, (tD 22))]) (.ty (.int .i64)), oqD 24 (.app 3 1 [vI] 8 (tD 20) (tD 23)) (.ty (.int .i64)), mvD 4 24] [[], [], [1], [2], [0, 3, 2], [4, 4, 0, 1, 2, 3, 4]] false)) (.region [mvD 18 5, opD 19 (.bin .add (tD 18) (cD 1)), mvD 5 19] [[], [0], [1, 0, 1]] false))))))
 (.seq (.seq (.region [mvD 25 0, opD 26 (.pure .nilc [(tD 25)]), opD 27 (.faddr 2 (tD 26)), opD 28 (.load false 1 (tD 27)), opD 29 (.bin .neq (tD 28) (cD 0))] [[], [0], [1], [2], [3]] false) (.cond (.tmp 29) (.seq (.region [opD 2 (.mov (.const vS))] [[]] false) .ret) .skip)) (.seq (.region [mvD 30 4, mvD 2 30] [[], [0, 0]] false) .ret))))))
set_option maxRecDepth 1000000 in
theorem v97 (fu : Nat) : evF fu (d97 fu) rs97 31 (e97 fu).ash (e97 fu).osh (e97 fu).vsh = p97 fu := by kernel_rfl
set_option maxRecDepth 1000000 in
theorem b97 (fu : Nat) : BodyD Tryd.prog 97 31 (d97 fu).erase rs97 := bodyD_mk Tryd.func97 (by kernel_rfl) (by kernel_rfl) (by kernel_rfl) (by kernel_rfl)
theorem g97 (fu : Nat) : (e97 fu).Good Tryd.prog := good_by orders (b97 fu) (l := [e79 fu, e65 fu]) (by kernel_rfl) ⟨g79 fu, g65 fu, trivial⟩ (by kernel_rfl) (v97 fu)
def rs72 : List RVx := [(.cell 2 true 2)]
/-- (*gazette/gazetteref01.Reader).Conf -/
def p72 (fu : Nat) : ((List (Int)) × ((Int) × ((Int) × ((Int) × (Unit))))) × (Unit) → Option ((((List (Int)) × ((Int) × ((Int) × ((Int) × (Unit))))) × (Unit)) × ((List (Int)) × ((List (Int)) × (Unit)))) := fun ⟨⟨a, c, f, h, _⟩, _⟩ =>
Option.bind (p97 fu ((a, c, f, h, ()), ())) fun ⟨⟨⟨i, j, k, l, _⟩, _⟩, m⟩ =>
Option.bind (p97 fu ((i, j, k, l, ()), ())) fun ⟨⟨⟨n, o, q, s, _⟩, _⟩, t⟩ =>
bif (q != (0 : Int)) then
 some (((n, o, q, s, ()), ()), ([], [], ()))
else
 bif eqL m then
 bif eqL t then
 some (((n, o, q, s, ()), ()), (m, t, ()))
 else none
 else none
def e72 (fu : Nat) : Ent := ⟨72, (.cons Y1 .nil), (.cons Y2 .nil), (.agg 2 (.cons (.own .own 3 (.int .i64)) (.cons (.own .own 3 (.int .i64)) .nil))), p72 fu⟩
def d72 (fu : Nat) : DC := (.seq (.region [opD 2 (.alloc 31 2 [vS, vS])] [[]] false) (.seq (.region [mvD 4 0, oqD 5 (.call 97 [(tD 4)]) (.ent (e97 fu)), opD 6 (.build 2 [vS, vS] [(0, (1, (tD 5)))]), opD 3 (.alloc 31 2 [vS, vS]), onD (.store 2 (tD 3) (tD 6))] [[], [0], [1], [], [3, 2, 1, 0, 1, 2, 3]] false) (.seq (.region [mvD 7 0, oqD 8 (.call 97 [(tD 7)]) (.ent (e97 fu)), opD 9 (.faddr 1 (tD 3)), onD (.store 1 (tD 9) (tD 8))] [[], [0], [0, 1], [2, 1, 1, 0, 1]] false) (.seq (.seq (.region [mvD 10 0, opD 11 (.pure .nilc [(tD 10)]), opD 12 (.faddr 2 (tD 11)), opD 13 (.load false 1 (tD 12)), opD 14 (.bin .neq (tD 13) (cD 0))] [[], [0], [1], [2], [3]] false) (.cond (.tmp 14) (.seq (.region [opD 15 (.build 2 [vS, vS] []), onD (.store 2 (tD 2) (tD 15))] [[], [0, 0]] false) .ret) .skip)) (.seq (.region [opD 16 (.load true 2 (tD 3)), onD (.store 2 (tD 2) (tD 16))] [[], [0, 0]] false) .ret)))))
set_option maxRecDepth 1000000 in
theorem v72 (fu : Nat) : evF fu (d72 fu) rs72 17 (e72 fu).ash (e72 fu).osh (e72 fu).vsh = p72 fu := by kernel_rfl
set_option maxRecDepth 1000000 in
theorem b72 (fu : Nat) : BodyD Tryd.prog 72 17 (d72 fu).erase rs72 := bodyD_mk Tryd.func72 (by kernel_rfl) (by kernel_rfl) (by kernel_rfl) (by kernel_rfl)
theorem g72 (fu : Nat) : (e72 fu).Good Tryd.prog := good_by orders (b72 fu) (l := [e97 fu, e97 fu]) (by kernel_rfl) ⟨g97 fu, g97 fu, trivial⟩ (by kernel_rfl) (v72 fu)
def rs94 : List RVx := [(.tmp 4)]
/-- gazette/gazetteref01.sameInts -/
def p94 (fu : Nat) : (List (Int)) × ((List (Int)) × (Unit)) → Option ((Unit) × (Bool)) := fun ⟨a, c, _⟩ =>
bif ((List.length a : Int) != (List.length c : Int)) then
 some ((), false)
else
 loopO (S := ((Int) × (Unit)) × (Unit)) fu (fun ⟨⟨f, _⟩, _⟩ =>
 bif decide (f < (List.length a : Int)) then
 bif decide ((0 : Int) ≤ f ∧ f < (List.length a : Int)) then
 bif decide (Int.toNat f < List.length a) then
 bif decide ((0 : Int) ≤ f ∧ f < (List.length c : Int)) then
 bif decide (Int.toNat f < List.length c) then
 bif ((List.getD a (Int.toNat f) (dflt (.int .i64))) != (List.getD c (Int.toNat f) (dflt (.int .i64)))) then
 inrO (some ((), false))
 else
 some (.inl ((IntKind.wrap .i64 (f + (1 : Int)), ()), ()))
 else none
 else none
 else none
 else none
 else
 inrO (some ((), true)))
 (((0 : Int), ()), ())
def e94 (fu : Nat) : Ent := ⟨94, (.cons (.hole (.sl (.int .i64))) (.cons (.hole (.sl (.int .i64))) .nil)), .nil, (.hole .bool), p94 fu⟩
def d94 (_ : Nat) : DC := (.seq (.region [opD 4 (.mov (.const vB))] [[]] false) (.seq (.seq (.region [mvD 6 0, opD 7 (.len false (tD 6)), mvD 8 1, opD 9 (.len false (tD 8)), opD 10 (.bin .neq (tD 7) (tD 9))] [[], [0], [], [2], [1, 3]] false) (.cond (.tmp 10) (.seq (.region [opD 4 (.mov (.const vB))] [[]] false) .ret) .skip)) (.seq (.seq (.region [opD 5 (.mov (cD 0))] [[]] false) (.block 0 (.loop ⟨[5], (.cons (.hole (.int .i64)) .nil), [], .nil, [0, 1], []⟩
 (.seq (.seq (.region [mvD 11 5, mvD 12 0, opD 13 (.len false (tD 12)), opD 14 (.bin .lss (tD 11) (tD 13))] [[], [], [1], [0, 2]] false) (.cond (.tmp 14) .skip (.exit 0))) (.seq (.block 1 (.seq (.region [mvD 17 0, mvD 18 5, opD 19 (.iaddr 1 (tD 17) (tD 18)), opD 20 (.load false 1 (tD 19)), mvD 21 1, mvD 22 5, opD 23 (.iaddr 1 (tD 21) (tD 22)), opD 24 (.load false 1 (tD 23)), opD 25 (.bin .neq (tD 20) (tD 24))] [[], [], [0, 1], [2], [], [], [4, 5], [6], [3, 7]] true) (.cond (.tmp 25) (.seq (.region [opD 4 (.mov (.const vB))] [[]] false) .ret) .skip))) (.region [mvD 15 5, opD 16 (.bin .add (tD 15) (cD 1)), mvD 5 16] [[], [0], [1, 0, 1]] false)))))) (.seq (.region [opD 4 (.mov (.const (.bool true)))] [[]] false) .ret))))
set_option maxRecDepth 1000000 in
theorem v94 (fu : Nat) : evF fu (d94 fu) rs94 26 (e94 fu).ash (e94 fu).osh (e94 fu).vsh = p94 fu := by kernel_rfl
set_option maxRecDepth 1000000 in
theorem b94 (fu : Nat) : BodyD Tryd.prog 94 26 (d94 fu).erase rs94 := bodyD_mk Tryd.func94 (by kernel_rfl) (by kernel_rfl) (by kernel_rfl) (by kernel_rfl)
theorem g94 (fu : Nat) : (e94 fu).Good Tryd.prog := good_by orders (b94 fu) (l := []) (by kernel_rfl) trivial (by kernel_rfl) (v94 fu)
def rs70 : List RVx := [(.tmp 4)]
/-- gazette/gazetteref01.SameConf -/
def p70 (fu : Nat) : ((List (Int)) × ((List (Int)) × (Unit))) × (((List (Int)) × ((List (Int)) × (Unit))) × (Unit)) → Option ((Unit) × (Bool)) := fun ⟨⟨a, c, _⟩, ⟨f, h, _⟩, _⟩ =>
Option.bind (p94 fu (a, f, ())) fun ⟨_, i⟩ =>
bif i then
 Option.bind (p94 fu (c, h, ())) fun ⟨_, j⟩ =>
 some ((), j)
else
 some ((), false)
def e70 (fu : Nat) : Ent := ⟨70, (.cons (.agg 2 (.cons (.hole (.sl (.int .i64))) (.cons (.hole (.sl (.int .i64))) .nil))) (.cons (.agg 2 (.cons (.hole (.sl (.int .i64))) (.cons (.hole (.sl (.int .i64))) .nil))) .nil)), .nil, (.hole .bool), p70 fu⟩
def d70 (fu : Nat) : DC := (.seq (.region [opD 2 (.box 31 2 (tD 0)), opD 3 (.box 31 2 (tD 1)), opD 4 (.mov (.const vB))] [[], [], []] false) (.seq (.region [opD 5 (.faddr 0 (tD 2)), opD 6 (.load false 1 (tD 5)), opD 7 (.faddr 0 (tD 3)), opD 8 (.load false 1 (tD 7)), oqD 9 (.call 94 [(tD 6), (tD 8)]) (.ent (e94 fu)), mvD 10 9, ogD 11 10 true (.faddr 1 (tD 2)), ogD 12 10 true (.load false 1 (tD 11)), ogD 13 10 true (.faddr 1 (tD 3)), ogD 14 10 true (.load false 1 (tD 13)), (⟨(some 15), (some (10, true)), (.call 94 [(tD 12), (tD 14)])⟩, (.ent (e94 fu))), opD 16 (.pick (tD 10) (tD 15) (.const vB)), mvD 4 16] [[], [0], [], [2], [1, 3], [4, 4], [5], [6, 5], [5], [8, 5], [7, 9, 5, 5], [5, 10], [11, 10, 0, 1, 2, 3, 4, 5, 6, 7, 8, 9, 10, 11]] false) .ret))
set_option maxRecDepth 1000000 in
theorem v70 (fu : Nat) : evF fu (d70 fu) rs70 17 (e70 fu).ash (e70 fu).osh (e70 fu).vsh = p70 fu := by kernel_rfl
set_option maxRecDepth 1000000 in
theorem b70 (fu : Nat) : BodyD Tryd.prog 70 17 (d70 fu).erase rs70 := bodyD_mk Tryd.func70 (by kernel_rfl) (by kernel_rfl) (by kernel_rfl) (by kernel_rfl)
theorem g70 (fu : Nat) : (e70 fu).Good Tryd.prog := good_by orders (b70 fu) (l := [e94 fu, e94 fu]) (by kernel_rfl) ⟨g94 fu, g94 fu, trivial⟩ (by kernel_rfl) (v70 fu)
def rs89 : List RVx := [(.tmp 2)]
/-- (*gazette/codec.Reader).entryKind -/
def p89_2 (fu : Nat) : ((List (Int)) × ((Int) × (((Bool) × (((Int) × ((Int) × (Unit))) × (Unit))) × (Unit)))) × (Unit) → Option ((((List (Int)) × ((Int) × (((Bool) × (((Int) × ((Int) × (Unit))) × (Unit))) × (Unit)))) × ((Unit) × (Unit))) × (Int)) := fun ⟨⟨a, c, ⟨f, ⟨h, i, _⟩, _⟩, _⟩, _⟩ =>
bif f then
 bif eqL a then
 Option.bind (p48_2 fu ((a, c, (true, (h, i, ()), dflt .unit), ()), ())) fun ⟨⟨⟨j, k, ⟨l, ⟨m, n, _⟩, _⟩, _⟩, _, _⟩, o⟩ =>
 bif l then
 orK (E := ((Bool) × (Unit)) × (Unit))
 (bif decide (o < (1 : Int)) then
 some (.inl ((true, ()), ()))
 else
 some (.inl ((decide (o > (3 : Int)), ()), ())))
 fun ⟨⟨q, _⟩, _⟩ =>
 bif q then
 bif eqL j then
 Option.bind (p43_2 fu ((j, k, (true, (m, n, ()), dflt .unit), ()), c, (16 : Int), ())) fun ⟨⟨⟨s, t, ⟨u, ⟨w, x, _⟩, _⟩, _⟩, _, _⟩, _⟩ =>
 bif u then
 bif eqL s then
 some (((s, t, (true, (w, x, ()), dflt .unit), ()), (), ()), o)
 else none
 else
 bif eqL s then
 some (((s, t, zR0, ()), (), ()), o)
 else none
 else none
 else
 bif eqL j then
 some (((j, k, (true, (m, n, ()), dflt .unit), ()), (), ()), o)
 else none
 else
 orK (E := ((Bool) × (Unit)) × (Unit))
 (bif decide (o < (1 : Int)) then
 some (.inl ((true, ()), ()))
 else
 some (.inl ((decide (o > (3 : Int)), ()), ())))
 fun ⟨⟨q, _⟩, _⟩ =>
 bif q then
 bif eqL j then
 Option.bind (p43_2 fu ((j, k, zR0, ()), c, (16 : Int), ())) fun ⟨⟨⟨y, z, ⟨a0, ⟨c0, f0, _⟩, _⟩, _⟩, _, _⟩, _⟩ =>
 bif a0 then
 bif eqL y then
 some (((y, z, (true, (c0, f0, ()), dflt .unit), ()), (), ()), o)
 else none
 else
 bif eqL y then
 some (((y, z, zR0, ()), (), ()), o)
 else none
 else none
 else
 bif eqL j then
 some (((j, k, zR0, ()), (), ()), o)
 else none
 else none
else
 bif eqL a then
 Option.bind (p48_2 fu ((a, c, zR0, ()), ())) fun ⟨⟨⟨h0, i0, ⟨j0, ⟨k0, l0, _⟩, _⟩, _⟩, _, _⟩, m0⟩ =>
 bif j0 then
 orK (E := ((Bool) × (Unit)) × (Unit))
 (bif decide (m0 < (1 : Int)) then
 some (.inl ((true, ()), ()))
 else
 some (.inl ((decide (m0 > (3 : Int)), ()), ())))
 fun ⟨⟨q, _⟩, _⟩ =>
 bif q then
 bif eqL h0 then
 Option.bind (p43_2 fu ((h0, i0, (true, (k0, l0, ()), dflt .unit), ()), c, (16 : Int), ())) fun ⟨⟨⟨n0, o0, ⟨q0, ⟨s0, t0, _⟩, _⟩, _⟩, _, _⟩, _⟩ =>
 bif q0 then
 bif eqL n0 then
 some (((n0, o0, (true, (s0, t0, ()), dflt .unit), ()), (), ()), m0)
 else none
 else
 bif eqL n0 then
 some (((n0, o0, zR0, ()), (), ()), m0)
 else none
 else none
 else
 bif eqL h0 then
 some (((h0, i0, (true, (k0, l0, ()), dflt .unit), ()), (), ()), m0)
 else none
 else
 orK (E := ((Bool) × (Unit)) × (Unit))
 (bif decide (m0 < (1 : Int)) then
 some (.inl ((true, ()), ()))
 else
 some (.inl ((decide (m0 > (3 : Int)), ()), ())))
 fun ⟨⟨q, _⟩, _⟩ =>
 bif q then
 bif eqL h0 then
 Option.bind (p43_2 fu ((h0, i0, zR0, ()), c, (16 : Int), ())) fun ⟨⟨⟨u0, w0, ⟨x0, ⟨y0, z0, _⟩, _⟩, _⟩, _, _⟩, _⟩ =>
 bif x0 then
 bif eqL u0 then
 some (((u0, w0, (true, (y0, z0, ()), dflt .unit), ()), (), ()), m0)
 else none
 else
 bif eqL u0 then
 some (((u0, w0, zR0, ()), (), ()), m0)
 else none
 else none
 else
 bif eqL h0 then
 some (((h0, i0, zR0, ()), (), ()), m0)
 else none
 else none
def e89_2 (fu : Nat) : Ent := ⟨89, (.cons Y3 .nil), (.cons Y0 (.cons .dead .nil)), (.hole (.int .i64)), p89_2 fu⟩
def d89_2 (fu : Nat) : DC := (.seq (.region [opD 2 (.mov (cD 0))] [[]] false) (.seq (.region [mvD 5 0, opD 6 (.pure .nilc [(tD 5)]), opD 7 (.faddr 1 (tD 6)), opD 8 (.load false 1 (tD 7)), mvD 3 8] [[], [0], [1], [2], [3, 0, 1, 2, 3]] false) (.seq (.region [mvD 9 0, oqD 10 (.call 48 [(tD 9)]) (.ent (e48_2 fu)), mvD 4 10] [[], [0], [1, 1, 0, 1]] false) (.seq (.join ⟨[16], (.cons (.hole .bool) .nil), [], .nil, [0, 3, 4], [0, 1, 116]⟩
 (.region [mvD 11 4, opD 12 (.bin .lss (tD 11) (cD 1)), mvD 13 12, ogD 14 13 false (.mov (tD 4)), ogD 15 13 false (.bin .gtr (tD 14) (cD 3)), opD 16 (.pick (tD 13) (.const (.bool true)) (tD 15))] [[], [0], [1], [2], [3, 2], [2, 4]] false)
 (.cond (.tmp 16) (.region [mvD 17 0, mvD 18 3, oqD 19 (.call 43 [(tD 17), (tD 18), (cD 16)]) (.ent (e43_2 fu))] [[], [], [0, 1]] false) .skip)) (.seq (.region [mvD 20 4, mvD 2 20] [[], [0, 0]] false) .ret)))))
set_option maxRecDepth 1000000 in
theorem v89_2 (fu : Nat) : evF fu (d89_2 fu) rs89 21 (e89_2 fu).ash (e89_2 fu).osh (e89_2 fu).vsh = p89_2 fu := by kernel_rfl
set_option maxRecDepth 1000000 in
theorem b89_2 (fu : Nat) : BodyD Tryd.prog 89 21 (d89_2 fu).erase rs89 := bodyD_mk Tryd.func89 (by kernel_rfl) (by kernel_rfl) (by kernel_rfl) (by kernel_rfl)
theorem g89_2 (fu : Nat) : (e89_2 fu).Good Tryd.prog := good_by orders (b89_2 fu) (l := [e48_2 fu, e43_2 fu]) (by kernel_rfl) ⟨g48_2 fu, g43_2 fu, trivial⟩ (by kernel_rfl) (v89_2 fu)
def rs67 : List RVx := [(.tmp 4)]
/-- (*gazette/codec.Reader).Bytes -/
def p67_2 (fu : Nat) : ((List (Int)) × ((Int) × (((Bool) × (((Int) × ((Int) × (Unit))) × (Unit))) × (Unit)))) × ((Int) × (Unit)) → Option ((((List (Int)) × ((Int) × (((Bool) × (((Int) × ((Int) × (Unit))) × (Unit))) × (Unit)))) × ((Unit) × (Unit))) × (List (Int))) := fun ⟨⟨a, c, ⟨f, ⟨h, i, _⟩, _⟩, _⟩, j, _⟩ =>
bif f then
 bif eqL a then
 Option.bind (p17_2 fu ((a, c, (true, (h, i, ()), dflt .unit), ()), j, ())) fun ⟨⟨⟨k, l, ⟨m, ⟨n, o, _⟩, _⟩, _⟩, _, _⟩, q⟩ =>
 bif m then
 bif eqL k then
 Option.bind (p45_2 fu ((k, l, (true, (n, o, ()), dflt .unit), ()), q, ())) fun ⟨⟨⟨s, t, ⟨u, ⟨w, x, _⟩, _⟩, _⟩, _, _⟩, y⟩ =>
 bif u then
 bif eqL s then
 bif eqL y then
 some (((s, t, (true, (w, x, ()), dflt .unit), ()), (), ()), y)
 else none
 else none
 else
 bif eqL s then
 bif eqL y then
 some (((s, t, zR0, ()), (), ()), y)
 else none
 else none
 else none
 else
 bif eqL k then
 Option.bind (p45_2 fu ((k, l, zR0, ()), q, ())) fun ⟨⟨⟨z, a0, ⟨c0, ⟨f0, h0, _⟩, _⟩, _⟩, _, _⟩, i0⟩ =>
 bif c0 then
 bif eqL z then
 bif eqL i0 then
 some (((z, a0, (true, (f0, h0, ()), dflt .unit), ()), (), ()), i0)
 else none
 else none
 else
 bif eqL z then
 bif eqL i0 then
 some (((z, a0, zR0, ()), (), ()), i0)
 else none
 else none
 else none
 else none
else
 bif eqL a then
 Option.bind (p17_2 fu ((a, c, zR0, ()), j, ())) fun ⟨⟨⟨j0, k0, ⟨l0, ⟨m0, n0, _⟩, _⟩, _⟩, _, _⟩, o0⟩ =>
 bif l0 then
 bif eqL j0 then
 Option.bind (p45_2 fu ((j0, k0, (true, (m0, n0, ()), dflt .unit), ()), o0, ())) fun ⟨⟨⟨q0, s0, ⟨t0, ⟨u0, w0, _⟩, _⟩, _⟩, _, _⟩, x0⟩ =>
 bif t0 then
 bif eqL q0 then
 bif eqL x0 then
 some (((q0, s0, (true, (u0, w0, ()), dflt .unit), ()), (), ()), x0)
 else none
 else none
 else
 bif eqL q0 then
 bif eqL x0 then
 some (((q0, s0, zR0, ()), (), ()), x0)
 else none
 else none
 else none
 else
 bif eqL j0 then
 Option.bind (p45_2 fu ((j0, k0, zR0, ()), o0, ())) fun ⟨⟨⟨y0, z0, ⟨a1, ⟨c1, f1, _⟩, _⟩, _⟩, _, _⟩, h1⟩ =>
 bif a1 then
 bif eqL y0 then
 bif eqL h1 then
 some (((y0, z0, (true, (c1, f1, ()), dflt .unit), ()), (), ()), h1)
 else none
 else none
 else
 bif eqL y0 then
 bif eqL h1 then
 some (((y0, z0, zR0, ()), (), ()), h1)
 else none
 else none
 else none
 else none
def e67_2 (fu : Nat) : Ent := ⟨67, (.cons Y3 (.cons (.hole (.int .i64)) .nil)), (.cons Y0 (.cons .dead .nil)), (.own .own 5 (.int .u8)), p67_2 fu⟩
def d67_2 (fu : Nat) : DC := (.seq (.region [opD 4 (.mov (.const vS))] [[]] false) (.seq (.region [mvD 5 0, mvD 6 0, mvD 7 1, oqD 8 (.call 17 [(tD 6), (tD 7)]) (.ent (e17_2 fu)), oqD 9 (.call 45 [(tD 5), (tD 8)]) (.ent (e45_2 fu)), mvD 4 9] [[], [], [], [1, 2], [0, 3, 3], [4, 4, 0, 1, 2, 3, 4]] false) .ret))
set_option maxRecDepth 1000000 in
theorem v67_2 (fu : Nat) : evF fu (d67_2 fu) rs67 10 (e67_2 fu).ash (e67_2 fu).osh (e67_2 fu).vsh = p67_2 fu := by kernel_rfl
set_option maxRecDepth 1000000 in
theorem b67_2 (fu : Nat) : BodyD Tryd.prog 67 10 (d67_2 fu).erase rs67 := bodyD_mk Tryd.func67 (by kernel_rfl) (by kernel_rfl) (by kernel_rfl) (by kernel_rfl)
theorem g67_2 (fu : Nat) : (e67_2 fu).Good Tryd.prog := good_by orders (b67_2 fu) (l := [e17_2 fu, e45_2 fu]) (by kernel_rfl) ⟨g17_2 fu, g45_2 fu, trivial⟩ (by kernel_rfl) (v67_2 fu)
def rs71 : List RVx := [(.cell 2 true 2)]
/-- (*gazette/codec.Reader).Conf -/
def p71_2 (fu : Nat) : ((List (Int)) × ((Int) × (((Bool) × (((Int) × ((Int) × (Unit))) × (Unit))) × (Unit)))) × (Unit) → Option ((((List (Int)) × ((Int) × (((Bool) × (((Int) × ((Int) × (Unit))) × (Unit))) × (Unit)))) × ((Unit) × (Unit))) × ((List (Int)) × ((List (Int)) × (Unit)))) := fun ⟨⟨a, c, ⟨f, ⟨h, i, _⟩, _⟩, _⟩, _⟩ =>
bif f then
 bif eqL a then
 Option.bind (p96_2 fu ((a, c, (true, (h, i, ()), dflt .unit), ()), ())) fun ⟨⟨⟨j, k, ⟨l, ⟨m, n, _⟩, _⟩, _⟩, _, _⟩, o⟩ =>
 bif l then
 bif eqL j then
 Option.bind (p96_2 fu ((j, k, (true, (m, n, ()), dflt .unit), ()), ())) fun ⟨⟨⟨q, s, ⟨t, ⟨u, w, _⟩, _⟩, _⟩, _, _⟩, x⟩ =>
 bif t then
 bif eqL q then
 bif eqL o then
 bif eqL x then
 Option.bind (p95_8 fu ((q, s, (true, (u, w, ()), dflt .unit), ()), (o, x, ()), ())) fun ⟨⟨⟨y, z, ⟨a0, ⟨c0, f0, _⟩, _⟩, _⟩, _, _⟩, ⟨h0, i0, _⟩⟩ =>
 bif a0 then
 bif eqL y then
 some (((y, z, (true, (c0, f0, ()), dflt .unit), ()), (), ()), (h0, i0, ()))
 else none
 else
 bif eqL y then
 some (((y, z, zR0, ()), (), ()), (h0, i0, ()))
 else none
 else none
 else none
 else none
 else
 bif eqL q then
 bif eqL o then
 bif eqL x then
 Option.bind (p95_8 fu ((q, s, zR0, ()), (o, x, ()), ())) fun ⟨⟨⟨j0, k0, ⟨l0, ⟨m0, n0, _⟩, _⟩, _⟩, _, _⟩, ⟨o0, q0, _⟩⟩ =>
 bif l0 then
 bif eqL j0 then
 some (((j0, k0, (true, (m0, n0, ()), dflt .unit), ()), (), ()), (o0, q0, ()))
 else none
 else
 bif eqL j0 then
 some (((j0, k0, zR0, ()), (), ()), (o0, q0, ()))
 else none
 else none
 else none
 else none
 else none
 else
 bif eqL j then
 Option.bind (p96_2 fu ((j, k, zR0, ()), ())) fun ⟨⟨⟨s0, t0, ⟨u0, ⟨w0, x0, _⟩, _⟩, _⟩, _, _⟩, y0⟩ =>
 bif u0 then
 bif eqL s0 then
 bif eqL o then
 bif eqL y0 then
 Option.bind (p95_8 fu ((s0, t0, (true, (w0, x0, ()), dflt .unit), ()), (o, y0, ()), ())) fun ⟨⟨⟨z0, a1, ⟨c1, ⟨f1, h1, _⟩, _⟩, _⟩, _, _⟩, ⟨i1, j1, _⟩⟩ =>
 bif c1 then
 bif eqL z0 then
 some (((z0, a1, (true, (f1, h1, ()), dflt .unit), ()), (), ()), (i1, j1, ()))
 else none
 else
 bif eqL z0 then
 some (((z0, a1, zR0, ()), (), ()), (i1, j1, ()))
 else none
 else none
 else none
 else none
 else
 bif eqL s0 then
 bif eqL o then
 bif eqL y0 then
 Option.bind (p95_8 fu ((s0, t0, zR0, ()), (o, y0, ()), ())) fun ⟨⟨⟨k1, l1, ⟨m1, ⟨n1, o1, _⟩, _⟩, _⟩, _, _⟩, ⟨q1, s1, _⟩⟩ =>
 bif m1 then
 bif eqL k1 then
 some (((k1, l1, (true, (n1, o1, ()), dflt .unit), ()), (), ()), (q1, s1, ()))
 else none
 else
 bif eqL k1 then
 some (((k1, l1, zR0, ()), (), ()), (q1, s1, ()))
 else none
 else none
 else none
 else none
 else none
 else none
else
 bif eqL a then
 Option.bind (p96_2 fu ((a, c, zR0, ()), ())) fun ⟨⟨⟨t1, u1, ⟨w1, ⟨x1, y1, _⟩, _⟩, _⟩, _, _⟩, z1⟩ =>
 bif w1 then
 bif eqL t1 then
 Option.bind (p96_2 fu ((t1, u1, (true, (x1, y1, ()), dflt .unit), ()), ())) fun ⟨⟨⟨a2, c2, ⟨f2, ⟨h2, i2, _⟩, _⟩, _⟩, _, _⟩, j2⟩ =>
 bif f2 then
 bif eqL a2 then
 bif eqL z1 then
 bif eqL j2 then
 Option.bind (p95_8 fu ((a2, c2, (true, (h2, i2, ()), dflt .unit), ()), (z1, j2, ()), ())) fun ⟨⟨⟨k2, l2, ⟨m2, ⟨n2, o2, _⟩, _⟩, _⟩, _, _⟩, ⟨q2, s2, _⟩⟩ =>
 bif m2 then
 bif eqL k2 then
 some (((k2, l2, (true, (n2, o2, ()), dflt .unit), ()), (), ()), (q2, s2, ()))
 else none
 else
 bif eqL k2 then
 some (((k2, l2, zR0, ()), (), ()), (q2, s2, ()))
 else none
 else none
 else none
 else none
 else
 bif eqL a2 then
 bif eqL z1 then
 bif eqL j2 then
 Option.bind (p95_8 fu ((a2, c2, zR0, ()), (z1, j2, ()), ())) fun ⟨⟨⟨t2, u2, ⟨w2, ⟨x2, y2, _⟩, _⟩, _⟩, _, _⟩, ⟨z2, a3, _⟩⟩ =>
 bif w2 then
 bif eqL t2 then
 some (((t2, u2, (true, (x2, y2, ()), dflt .unit), ()), (), ()), (z2, a3, ()))
 else none
 else
 bif eqL t2 then
 some (((t2, u2, zR0, ()), (), ()), (z2, a3, ()))
 else none
 else none
 else none
 else none
 else none
 else
 bif eqL t1 then
 Option.bind (p96_2 fu ((t1, u1, zR0, ()), ())) fun ⟨⟨⟨c3, f3, ⟨h3, ⟨i3, j3, _⟩, _⟩, _⟩, _, _⟩, k3⟩ =>
 bif h3 then
 bif eqL c3 then
 bif eqL z1 then
 bif eqL k3 then
 Option.bind (p95_8 fu ((c3, f3, (true, (i3, j3, ()), dflt .unit), ()), (z1, k3, ()), ())) fun ⟨⟨⟨l3, m3, ⟨n3, ⟨o3, q3, _⟩, _⟩, _⟩, _, _⟩, ⟨s3, t3, _⟩⟩ =>
 bif n3 then
 bif eqL l3 then
 some (((l3, m3, (true, (o3, q3, ()), dflt .unit), ()), (), ()), (s3, t3, ()))
 else none
 else
 bif eqL l3 then
 some (((l3, m3, zR0, ()), (), ()), (s3, t3, ()))
 else none
 else none
 else none
 else none
 else
 bif eqL c3 then
 bif eqL z1 then
 bif eqL k3 then
 Option.bind (p95_8 fu ((c3, f3, zR0, ()), (z1, k3, ()), ())) fun ⟨⟨⟨u3, w3, ⟨x3, ⟨y3, z3, _⟩, _⟩, _⟩, _, _⟩, ⟨a4, c4, _⟩⟩ =>
 bif x3 then
 bif eqL u3 then
 some (((u3, w3, (true, (y3, z3, ()), dflt .unit), ()), (), ()), (a4, c4, ()))
 else none
 else
 bif eqL u3 then
 some (((u3, w3, zR0, ()), (), ()), (a4, c4, ()))
 else none
 else none
 else none
 else none
 else none
 else none
def e71_2 (fu : Nat) : Ent := ⟨71, (.cons Y3 .nil), (.cons Y0 (.cons .dead .nil)), (.agg 2 (.cons (.hole (.sl (.int .i64))) (.cons (.hole (.sl (.int .i64))) .nil))), p71_2 fu⟩
def d71_2 (fu : Nat) : DC := (.seq (.region [opD 2 (.alloc 31 2 [vS, vS])] [[]] false) (.seq (.region [mvD 3 0, mvD 4 0, oqD 5 (.call 96 [(tD 4)]) (.ent (e96_2 fu)), mvD 6 0, oqD 7 (.call 96 [(tD 6)]) (.ent (e96_2 fu)), opD 8 (.build 2 [vS, vS] [(0, (1, (tD 5))), (1, (1, (tD 7)))]), oqD 9 (.call 95 [(tD 3), (tD 8)]) (.ent (e95_8 fu)), onD (.store 2 (tD 2) (tD 9))] [[], [], [1], [], [3, 2], [2, 4], [0, 5, 4], [6, 6, 0, 1, 2, 3, 4, 5, 6]] false) .ret))
set_option maxRecDepth 1000000 in
theorem v71_2 (fu : Nat) : evF fu (d71_2 fu) rs71 10 (e71_2 fu).ash (e71_2 fu).osh (e71_2 fu).vsh = p71_2 fu := by kernel_rfl
set_option maxRecDepth 1000000 in
theorem b71_2 (fu : Nat) : BodyD Tryd.prog 71 10 (d71_2 fu).erase rs71 := bodyD_mk Tryd.func71 (by kernel_rfl) (by kernel_rfl) (by kernel_rfl) (by kernel_rfl)
theorem g71_2 (fu : Nat) : (e71_2 fu).Good Tryd.prog := good_by orders (b71_2 fu) (l := [e96_2 fu, e96_2 fu, e95_8 fu]) (by kernel_rfl) ⟨g96_2 fu, g96_2 fu, g95_8 fu, trivial⟩ (by kernel_rfl) (v71_2 fu)
def rs88 : List RVx := [(.cell 4 true 6)]
/-- gazette/codec.whole[gazette/api.Entry] -/
def p88_4 (_ : Nat) : ((List (Int)) × ((Int) × (((Bool) × (((Int) × ((Int) × (Unit))) × (Unit))) × (Unit)))) × ((Z4) × (Unit)) → Option ((((List (Int)) × ((Int) × (((Bool) × (((Int) × ((Int) × (Unit))) × (Unit))) × (Unit)))) × ((Unit) × (Unit))) × ((Int) × ((Int) × ((Int) × ((List (Int)) × ((List (Int)) × ((List (Int)) × (Unit)))))))) := fun ⟨⟨a, c, ⟨f, ⟨h, i, _⟩, _⟩, _⟩, ⟨j, k, l, m, n, o, _⟩, _⟩ =>
bif f then
 bif eqL a then
 some (((a, c, (true, (h, i, ()), dflt .unit), ()), (), ()), ((0 : Int), (0 : Int), (0 : Int), [], [], [], ()))
 else none
else
 bif eqL a then
 some (((a, c, zR0, ()), (), ()), (j, k, l, m, n, o, ()))
 else none
def e88_4 (fu : Nat) : Ent := ⟨88, (.cons Y3 (.cons Y5 .nil)), (.cons Y0 (.cons .dead .nil)), Y5, p88_4 fu⟩
def d88_4 (_ : Nat) : DC := (.seq (.region [opD 3 (.box 33 6 (tD 1)), opD 4 (.alloc 33 6 [vU, vU, vI, vS, vS, vS])] [[], []] false) (.seq (.seq (.region [mvD 6 0, opD 7 (.pure .nilc [(tD 6)]), opD 8 (.faddr 2 (tD 7)), opD 9 (.load false 1 (tD 8)), opD 10 (.pure (.nilq 1 true) [(tD 9)])] [[], [0], [1], [2], [3]] false) (.cond (.tmp 10) (.seq (.region [opD 5 (.alloc 33 6 [vU, vU, vI, vS, vS, vS])] [[]] false) (.seq (.region [opD 11 (.load true 6 (tD 5)), onD (.store 6 (tD 4) (tD 11))] [[], [0, 0]] false) .ret)) .skip)) (.seq (.region [opD 12 (.load true 6 (tD 3)), onD (.store 6 (tD 4) (tD 12))] [[], [0, 0]] false) .ret)))
set_option maxRecDepth 1000000 in
theorem v88_4 (fu : Nat) : evF fu (d88_4 fu) rs88 13 (e88_4 fu).ash (e88_4 fu).osh (e88_4 fu).vsh = p88_4 fu := by kernel_rfl
set_option maxRecDepth 1000000 in
theorem b88_4 (fu : Nat) : BodyD Tryd.prog 88 13 (d88_4 fu).erase rs88 := bodyD_mk Tryd.func88 (by kernel_rfl) (by kernel_rfl) (by kernel_rfl) (by kernel_rfl)
theorem g88_4 (fu : Nat) : (e88_4 fu).Good Tryd.prog := good_by orders (b88_4 fu) (l := []) (by kernel_rfl) trivial (by kernel_rfl) (v88_4 fu)
def rs74 : List RVx := [(.cell 2 true 6)]
/-- (*gazette/gazetteref01.Reader).Entry -/
def p74 (fu : Nat) : ((List (Int)) × ((Int) × ((Int) × ((Int) × (Unit))))) × (Unit) → Option ((((List (Int)) × ((Int) × ((Int) × ((Int) × (Unit))))) × (Unit)) × ((Int) × ((Int) × ((Int) × ((List (Int)) × ((List (Int)) × ((List (Int)) × (Unit)))))))) := fun ⟨⟨a, c, f, h, _⟩, _⟩ =>
Option.bind (p51 fu ((a, c, f, h, ()), ())) fun ⟨⟨⟨i, j, k, l, _⟩, _⟩, m⟩ =>
Option.bind (p51 fu ((i, j, k, l, ()), ())) fun ⟨⟨⟨n, o, q, s, _⟩, _⟩, t⟩ =>
Option.bind (p65 fu ((n, o, q, s, ()), ())) fun ⟨⟨⟨u, w, x, y, _⟩, _⟩, z⟩ =>
orK (E := (Unit) × (((List (Int)) × ((Int) × ((Int) × ((Int) × (Unit))))) × (Unit)))
 (orK (E := ((Bool) × (Unit)) × (Unit))
 (bif decide (z < (1 : Int)) then
 some (.inl ((true, ()), ()))
 else
 some (.inl ((decide (z > (3 : Int)), ()), ())))
 fun ⟨⟨a0, _⟩, _⟩ =>
 bif a0 then
 Option.bind (p91 fu ((u, w, x, y, ()), (16 : Int), o, ())) fun ⟨⟨⟨c0, f0, h0, i0, _⟩, _⟩, _⟩ =>
 some (.inl ((), ((c0, f0, h0, i0, ()), ())))
 else
 some (.inl ((), ((u, w, x, y, ()), ()))))
 fun ⟨_, ⟨⟨j0, k0, l0, m0, _⟩, _⟩⟩ =>
Option.bind (p68 fu ((j0, k0, l0, m0, ()), (262144 : Int), ())) fun ⟨⟨⟨n0, o0, q0, s0, _⟩, _⟩, t0⟩ =>
Option.bind (p72 fu ((n0, o0, q0, s0, ()), ())) fun ⟨⟨⟨u0, w0, x0, y0, _⟩, _⟩, ⟨z0, a1, _⟩⟩ =>
bif (x0 != (0 : Int)) then
 some (((u0, w0, x0, y0, ()), ()), ((0 : Int), (0 : Int), (0 : Int), [], [], [], ()))
else
 bif eqL t0 then
 bif eqL z0 then
 bif eqL a1 then
 some (((u0, w0, x0, y0, ()), ()), (m, t, z, t0, z0, a1, ()))
 else none
 else none
 else none
def e74 (fu : Nat) : Ent := ⟨74, (.cons Y1 .nil), (.cons Y2 .nil), Y6, p74 fu⟩
def d74 (fu : Nat) : DC := (.seq (.region [opD 2 (.alloc 33 6 [vU, vU, vI, vS, vS, vS])] [[]] false) (.seq (.region [mvD 5 0, oqD 6 (.call 51 [(tD 5)]) (.ent (e51 fu)), opD 7 (.build 6 [vU, vU, vI, vS, vS, vS] [(0, (1, (tD 6)))]), opD 3 (.alloc 33 6 [vU, vU, vI, vS, vS, vS]), onD (.store 6 (tD 3) (tD 7))] [[], [0], [1], [], [3, 2, 1, 0, 1, 2, 3]] false) (.seq (.region [mvD 8 0, oqD 9 (.call 51 [(tD 8)]) (.ent (e51 fu)), opD 10 (.faddr 1 (tD 3)), onD (.store 1 (tD 10) (tD 9))] [[], [0], [0, 1], [2, 1, 1, 0, 1]] false) (.seq (.region [mvD 11 0, opD 12 (.pure .nilc [(tD 11)]), opD 13 (.faddr 1 (tD 12)), opD 14 (.load false 1 (tD 13)), mvD 4 14] [[], [0], [1], [2], [3, 0, 1, 2, 3]] false) (.seq (.region [mvD 15 0, oqD 16 (.call 65 [(tD 15)]) (.ent (e65 fu)), opD 17 (.faddr 2 (tD 3)), onD (.store 1 (tD 17) (tD 16))] [[], [0], [0, 1], [2, 1, 1, 0, 1]] false) (.join ⟨[], .nil, [(0, 73, 4)], (.cons Y2 .nil), [0, 2, 3], [2, 66]⟩
 (.join ⟨[25], (.cons (.hole .bool) .nil), [], .nil, [0, 2, 3, 4], [0, 2, 66]⟩
 (.region [opD 18 (.faddr 2 (tD 3)), opD 19 (.load false 1 (tD 18)), opD 20 (.bin .lss (tD 19) (cD 1)), mvD 21 20, ogD 22 21 false (.faddr 2 (tD 3)), ogD 23 21 false (.load false 1 (tD 22)), ogD 24 21 false (.bin .gtr (tD 23) (cD 3)), opD 25 (.pick (tD 21) (.const (.bool true)) (tD 24))] [[], [0], [1], [2], [3], [4, 3], [5, 3], [3, 6]] false)
 (.cond (.tmp 25) (.region [mvD 26 0, mvD 27 4, oqD 28 (.call 91 [(tD 26), (cD 16), (tD 27)]) (.ent (e91 fu))] [[], [], [0, 1]] false) .skip))
 (.seq (.region [mvD 29 0, oqD 30 (.call 68 [(tD 29), (cD 262144)]) (.ent (e68 fu)), opD 31 (.faddr 3 (tD 3)), onD (.store 1 (tD 31) (tD 30))] [[], [0], [0, 1], [2, 1, 1, 0, 1]] false) (.seq (.region [mvD 32 0, oqD 33 (.call 72 [(tD 32)]) (.ent (e72 fu)), opD 34 (.faddr 4 (tD 3)), onD (.store 2 (tD 34) (tD 33))] [[], [0], [0, 1], [2, 1, 1, 0, 1]] false) (.seq (.seq (.region [mvD 35 0, opD 36 (.pure .nilc [(tD 35)]), opD 37 (.faddr 2 (tD 36)), opD 38 (.load false 1 (tD 37)), opD 39 (.bin .neq (tD 38) (cD 0))] [[], [0], [1], [2], [3]] false) (.cond (.tmp 39) (.seq (.region [opD 40 (.build 6 [vU, vU, vI, vS, vS, vS] []), onD (.store 6 (tD 2) (tD 40))] [[], [0, 0]] false) .ret) .skip)) (.seq (.region [opD 41 (.load true 6 (tD 3)), onD (.store 6 (tD 2) (tD 41))] [[], [0, 0]] false) .ret))))))))))
set_option maxRecDepth 1000000 in
theorem v74 (fu : Nat) : evF fu (d74 fu) rs74 42 (e74 fu).ash (e74 fu).osh (e74 fu).vsh = p74 fu := by kernel_rfl
set_option maxRecDepth 1000000 in
theorem b74 (fu : Nat) : BodyD Tryd.prog 74 42 (d74 fu).erase rs74 := bodyD_mk Tryd.func74 (by kernel_rfl) (by kernel_rfl) (by kernel_rfl) (by kernel_rfl)
theorem g74 (fu : Nat) : (e74 fu).Good Tryd.prog := good_by orders (b74 fu) (l := [e51 fu, e51 fu, e65 fu, e91 fu, e68 fu, e72 fu]) (by kernel_rfl) ⟨g51 fu, g51 fu, g65 fu, g91 fu, g68 fu, g72 fu, trivial⟩ (by kernel_rfl) (v74 fu)
def rs73 : List RVx := [(.tmp 4)]
/-- gazette/gazetteref01.SameEntry -/
def p73 (fu : Nat) : (Z4) × ((Z4) × (Unit)) → Option ((Unit) × (Bool)) := fun ⟨⟨a, c, f, h, i, j, _⟩, ⟨k, l, m, n, o, q, _⟩, _⟩ =>
Option.bind (p70 fu ((i, j, ()), (o, q, ()), ())) fun ⟨_, s⟩ =>
bif s then
 bif (a == k) then
 bif (c == l) then
 bif (f == m) then
 some ((), ByteArray.toList (strOfNums h) == ByteArray.toList (strOfNums n))
 else
 some ((), false)
 else
 some ((), false)
 else
 some ((), false)
else
 some ((), false)
def e73 (fu : Nat) : Ent := ⟨73, (.cons Y5 (.cons Y5 .nil)), .nil, (.hole .bool), p73 fu⟩
def d73 (fu : Nat) : DC := (.seq (.region [opD 2 (.box 33 6 (tD 0)), opD 3 (.box 33 6 (tD 1)), opD 4 (.mov (.const vB))] [[], [], []] false) (.seq (.region [opD 6 (.faddr 4 (tD 2)), opD 7 (.load true 2 (tD 6)), opD 8 (.faddr 4 (tD 3)), opD 9 (.load true 2 (tD 8)), oqD 10 (.call 70 [(tD 7), (tD 9)]) (.ent (e70 fu)), mvD 5 10] [[], [0], [], [2], [1, 3], [4, 4, 0, 1, 2, 3, 4]] false) (.seq (.region [mvD 11 5, mvD 12 11, ogD 13 12 true (.faddr 0 (tD 2)), ogD 14 12 true (.load false 1 (tD 13)), ogD 15 12 true (.faddr 0 (tD 3)), ogD 16 12 true (.load false 1 (tD 15)), ogD 17 12 true (.bin .eql (tD 14) (tD 16)), opD 18 (.pick (tD 12) (tD 17) (.const vB)), mvD 19 18, ogD 20 19 true (.faddr 1 (tD 2)), ogD 21 19 true (.load false 1 (tD 20)), ogD 22 19 true (.faddr 1 (tD 3)), ogD 23 19 true (.load false 1 (tD 22)), ogD 24 19 true (.bin .eql (tD 21) (tD 23)), opD 25 (.pick (tD 19) (tD 24) (.const vB)), mvD 26 25, ogD 27 26 true (.faddr 2 (tD 2)), ogD 28 26 true (.load false 1 (tD 27)), ogD 29 26 true (.faddr 2 (tD 3)), ogD 30 26 true (.load false 1 (tD 29)), ogD 31 26 true (.bin .eql (tD 28) (tD 30)), opD 32 (.pick (tD 26) (tD 31) (.const vB)), mvD 33 32, ogD 34 33 true (.faddr 3 (tD 2)), ogD 35 33 true (.load false 1 (tD 34)), ogD 36 33 true (.b2s (tD 35)), ogD 37 33 true (.faddr 3 (tD 3)), ogD 38 33 true (.load false 1 (tD 37)), ogD 39 33 true (.b2s (tD 38)), ogD 40 33 true (.bin .eql (tD 36) (tD 39)), opD 41 (.pick (tD 33) (tD 40) (.const vB)), mvD 4 41] [[], [0], [1], [2, 1], [1], [4, 1], [3, 5, 1], [1, 6], [7, 1], [8], [9, 8], [8], [11, 8], [10, 12, 8], [8, 13], [14, 8], [15], [16, 15], [15], [18, 15], [17, 19, 15], [15, 20], [21, 15], [22], [23, 22], [24, 22], [22], [26, 22], [27, 22], [25, 28, 22], [22, 29], [30, 22, 0, 1, 2, 3, 4, 5, 6, 7, 8, 9, 10, 11, 12, 13, 14, 15, 16, 17, 18, 19, 20, 21, 22, 23, 24, 25, 26, 27, 28, 29, 30]] false) .ret)))
set_option maxRecDepth 1000000 in
theorem v73 (fu : Nat) : evF fu (d73 fu) rs73 42 (e73 fu).ash (e73 fu).osh (e73 fu).vsh = p73 fu := by kernel_rfl
set_option maxRecDepth 1000000 in
theorem b73 (fu : Nat) : BodyD Tryd.prog 73 42 (d73 fu).erase rs73 := bodyD_mk Tryd.func73 (by kernel_rfl) (by kernel_rfl) (by kernel_rfl) (by kernel_rfl)
theorem g73 (fu : Nat) : (e73 fu).Good Tryd.prog := good_by orders (b73 fu) (l := [e70 fu]) (by kernel_rfl) ⟨g70 fu, trivial⟩ (by kernel_rfl) (v73 fu)
def rs90 : List RVx := [(.cell 4 true 5)]
/-- gazette/codec.whole[gazette/api.Snap] -/
def p90_4 (_ : Nat) : ((List (Int)) × ((Int) × (((Bool) × (((Int) × ((Int) × (Unit))) × (Unit))) × (Unit)))) × (((Int) × ((Int) × ((List (Int)) × ((List (Int)) × ((List (Int)) × (Unit)))))) × (Unit)) → Option ((((List (Int)) × ((Int) × (((Bool) × (((Int) × ((Int) × (Unit))) × (Unit))) × (Unit)))) × ((Unit) × (Unit))) × ((Int) × ((Int) × ((List (Int)) × ((List (Int)) × ((List (Int)) × (Unit))))))) := fun ⟨⟨a, c, ⟨f, ⟨h, i, _⟩, _⟩, _⟩, ⟨j, k, l, m, n, _⟩, _⟩ =>
bif f then
 bif eqL a then
 some (((a, c, (true, (h, i, ()), dflt .unit), ()), (), ()), ((0 : Int), (0 : Int), [], [], [], ()))
 else none
else
 bif eqL a then
 some (((a, c, zR0, ()), (), ()), (j, k, l, m, n, ()))
 else none
def e90_4 (fu : Nat) : Ent := ⟨90, (.cons Y3 (.cons Y7 .nil)), (.cons Y0 (.cons .dead .nil)), Y7, p90_4 fu⟩
def d90_4 (_ : Nat) : DC := (.seq (.region [opD 3 (.box 37 5 (tD 1)), opD 4 (.alloc 37 5 [vU, vU, vS, vS, vS])] [[], []] false) (.seq (.seq (.region [mvD 6 0, opD 7 (.pure .nilc [(tD 6)]), opD 8 (.faddr 2 (tD 7)), opD 9 (.load false 1 (tD 8)), opD 10 (.pure (.nilq 1 true) [(tD 9)])] [[], [0], [1], [2], [3]] false) (.cond (.tmp 10) (.seq (.region [opD 5 (.alloc 37 5 [vU, vU, vS, vS, vS])] [[]] false) (.seq (.region [opD 11 (.load true 5 (tD 5)), onD (.store 5 (tD 4) (tD 11))] [[], [0, 0]] false) .ret)) .skip)) (.seq (.region [opD 12 (.load true 5 (tD 3)), onD (.store 5 (tD 4) (tD 12))] [[], [0, 0]] false) .ret)))
set_option maxRecDepth 1000000 in
theorem v90_4 (fu : Nat) : evF fu (d90_4 fu) rs90 13 (e90_4 fu).ash (e90_4 fu).osh (e90_4 fu).vsh = p90_4 fu := by kernel_rfl
set_option maxRecDepth 1000000 in
theorem b90_4 (fu : Nat) : BodyD Tryd.prog 90 13 (d90_4 fu).erase rs90 := bodyD_mk Tryd.func90 (by kernel_rfl) (by kernel_rfl) (by kernel_rfl) (by kernel_rfl)
theorem g90_4 (fu : Nat) : (e90_4 fu).Good Tryd.prog := good_by orders (b90_4 fu) (l := []) (by kernel_rfl) trivial (by kernel_rfl) (v90_4 fu)
def rs76 : List RVx := [(.cell 2 true 5)]
/-- (*gazette/gazetteref01.Reader).Snap -/
def p76 (fu : Nat) : ((List (Int)) × ((Int) × ((Int) × ((Int) × (Unit))))) × (Unit) → Option ((((List (Int)) × ((Int) × ((Int) × ((Int) × (Unit))))) × (Unit)) × ((Int) × ((Int) × ((List (Int)) × ((List (Int)) × ((List (Int)) × (Unit))))))) := fun ⟨⟨a, c, f, h, _⟩, _⟩ =>
Option.bind (p51 fu ((a, c, f, h, ()), ())) fun ⟨⟨⟨i, j, k, l, _⟩, _⟩, m⟩ =>
Option.bind (p51 fu ((i, j, k, l, ()), ())) fun ⟨⟨⟨n, o, q, s, _⟩, _⟩, t⟩ =>
Option.bind (p72 fu ((n, o, q, s, ()), ())) fun ⟨⟨⟨u, w, x, y, _⟩, _⟩, ⟨z, a0, _⟩⟩ =>
Option.bind (p68 fu ((u, w, x, y, ()), (262144 : Int), ())) fun ⟨⟨⟨c0, f0, h0, i0, _⟩, _⟩, j0⟩ =>
bif (h0 != (0 : Int)) then
 some (((c0, f0, h0, i0, ()), ()), ((0 : Int), (0 : Int), [], [], [], ()))
else
 bif eqL z then
 bif eqL a0 then
 bif eqL j0 then
 some (((c0, f0, h0, i0, ()), ()), (m, t, z, a0, j0, ()))
 else none
 else none
 else none
def e76 (fu : Nat) : Ent := ⟨76, (.cons Y1 .nil), (.cons Y2 .nil), Y8, p76 fu⟩
def d76 (fu : Nat) : DC := (.seq (.region [opD 2 (.alloc 37 5 [vU, vU, vS, vS, vS])] [[]] false) (.seq (.region [mvD 4 0, oqD 5 (.call 51 [(tD 4)]) (.ent (e51 fu)), opD 6 (.build 5 [vU, vU, vS, vS, vS] [(0, (1, (tD 5)))]), opD 3 (.alloc 37 5 [vU, vU, vS, vS, vS]), onD (.store 5 (tD 3) (tD 6))] [[], [0], [1], [], [3, 2, 1, 0, 1, 2, 3]] false) (.seq (.region [mvD 7 0, oqD 8 (.call 51 [(tD 7)]) (.ent (e51 fu)), opD 9 (.faddr 1 (tD 3)), onD (.store 1 (tD 9) (tD 8))] [[], [0], [0, 1], [2, 1, 1, 0, 1]] false) (.seq (.region [mvD 10 0, oqD 11 (.call 72 [(tD 10)]) (.ent (e72 fu)), opD 12 (.faddr 2 (tD 3)), onD (.store 2 (tD 12) (tD 11))] [[], [0], [0, 1], [2, 1, 1, 0, 1]] false) (.seq (.region [mvD 13 0, oqD 14 (.call 68 [(tD 13), (cD 262144)]) (.ent (e68 fu)), opD 15 (.faddr 4 (tD 3)), onD (.store 1 (tD 15) (tD 14))] [[], [0], [0, 1], [2, 1, 1, 0, 1]] false) (.seq (.seq (.region [mvD 16 0, opD 17 (.pure .nilc [(tD 16)]), opD 18 (.faddr 2 (tD 17)), opD 19 (.load false 1 (tD 18)), opD 20 (.bin .neq (tD 19) (cD 0))] [[], [0], [1], [2], [3]] false) (.cond (.tmp 20) (.seq (.region [opD 21 (.build 5 [vU, vU, vS, vS, vS] []), onD (.store 5 (tD 2) (tD 21))] [[], [0, 0]] false) .ret) .skip)) (.seq (.region [opD 22 (.load true 5 (tD 3)), onD (.store 5 (tD 2) (tD 22))] [[], [0, 0]] false) .ret)))))))
set_option maxRecDepth 1000000 in
theorem v76 (fu : Nat) : evF fu (d76 fu) rs76 23 (e76 fu).ash (e76 fu).osh (e76 fu).vsh = p76 fu := by kernel_rfl
set_option maxRecDepth 1000000 in
theorem b76 (fu : Nat) : BodyD Tryd.prog 76 23 (d76 fu).erase rs76 := bodyD_mk Tryd.func76 (by kernel_rfl) (by kernel_rfl) (by kernel_rfl) (by kernel_rfl)
theorem g76 (fu : Nat) : (e76 fu).Good Tryd.prog := good_by orders (b76 fu) (l := [e51 fu, e51 fu, e72 fu, e68 fu]) (by kernel_rfl) ⟨g51 fu, g51 fu, g72 fu, g68 fu, trivial⟩ (by kernel_rfl) (v76 fu)
def rs75 : List RVx := [(.tmp 4)]
/-- gazette/gazetteref01.SameSnap -/
def p75 (fu : Nat) : ((Int) × ((Int) × ((List (Int)) × ((List (Int)) × ((List (Int)) × (Unit)))))) × (((Int) × ((Int) × ((List (Int)) × ((List (Int)) × ((List (Int)) × (Unit)))))) × (Unit)) → Option ((Unit) × (Bool)) := fun ⟨⟨a, c, f, h, i, _⟩, ⟨j, k, l, m, n, _⟩, _⟩ =>
Option.bind (p70 fu ((f, h, ()), (l, m, ()), ())) fun ⟨_, o⟩ =>
bif o then
 bif (a == j) then
 bif (c == k) then
 some ((), ByteArray.toList (strOfNums i) == ByteArray.toList (strOfNums n))
 else
 some ((), false)
 else
 some ((), false)
else
 some ((), false)
def e75 (fu : Nat) : Ent := ⟨75, (.cons Y7 (.cons Y7 .nil)), .nil, (.hole .bool), p75 fu⟩
def d75 (fu : Nat) : DC := (.seq (.region [opD 2 (.box 37 5 (tD 0)), opD 3 (.box 37 5 (tD 1)), opD 4 (.mov (.const vB))] [[], [], []] false) (.seq (.region [opD 6 (.faddr 2 (tD 2)), opD 7 (.load true 2 (tD 6)), opD 8 (.faddr 2 (tD 3)), opD 9 (.load true 2 (tD 8)), oqD 10 (.call 70 [(tD 7), (tD 9)]) (.ent (e70 fu)), mvD 5 10] [[], [0], [], [2], [1, 3], [4, 4, 0, 1, 2, 3, 4]] false) (.seq (.region [mvD 11 5, mvD 12 11, ogD 13 12 true (.faddr 0 (tD 2)), ogD 14 12 true (.load false 1 (tD 13)), ogD 15 12 true (.faddr 0 (tD 3)), ogD 16 12 true (.load false 1 (tD 15)), ogD 17 12 true (.bin .eql (tD 14) (tD 16)), opD 18 (.pick (tD 12) (tD 17) (.const vB)), mvD 19 18, ogD 20 19 true (.faddr 1 (tD 2)), ogD 21 19 true (.load false 1 (tD 20)), ogD 22 19 true (.faddr 1 (tD 3)), ogD 23 19 true (.load false 1 (tD 22)), ogD 24 19 true (.bin .eql (tD 21) (tD 23)), opD 25 (.pick (tD 19) (tD 24) (.const vB)), mvD 26 25, ogD 27 26 true (.faddr 4 (tD 2)), ogD 28 26 true (.load false 1 (tD 27)), ogD 29 26 true (.b2s (tD 28)), ogD 30 26 true (.faddr 4 (tD 3)), ogD 31 26 true (.load false 1 (tD 30)), ogD 32 26 true (.b2s (tD 31)), ogD 33 26 true (.bin .eql (tD 29) (tD 32)), opD 34 (.pick (tD 26) (tD 33) (.const vB)), mvD 4 34] [[], [0], [1], [2, 1], [1], [4, 1], [3, 5, 1], [1, 6], [7, 1], [8], [9, 8], [8], [11, 8], [10, 12, 8], [8, 13], [14, 8], [15], [16, 15], [17, 15], [15], [19, 15], [20, 15], [18, 21, 15], [15, 22], [23, 15, 0, 1, 2, 3, 4, 5, 6, 7, 8, 9, 10, 11, 12, 13, 14, 15, 16, 17, 18, 19, 20, 21, 22, 23]] false) .ret)))
set_option maxRecDepth 1000000 in
theorem v75 (fu : Nat) : evF fu (d75 fu) rs75 35 (e75 fu).ash (e75 fu).osh (e75 fu).vsh = p75 fu := by kernel_rfl
set_option maxRecDepth 1000000 in
theorem b75 (fu : Nat) : BodyD Tryd.prog 75 35 (d75 fu).erase rs75 := bodyD_mk Tryd.func75 (by kernel_rfl) (by kernel_rfl) (by kernel_rfl) (by kernel_rfl)
theorem g75 (fu : Nat) : (e75 fu).Good Tryd.prog := good_by orders (b75 fu) (l := [e70 fu]) (by kernel_rfl) ⟨g70 fu, trivial⟩ (by kernel_rfl) (v75 fu)
def rs69 : List RVx := [(.tmp 4)]
/-- (*gazette/codec.Reader).String -/
def p69_2 (fu : Nat) : ((List (Int)) × ((Int) × (((Bool) × (((Int) × ((Int) × (Unit))) × (Unit))) × (Unit)))) × ((Int) × (Unit)) → Option ((((List (Int)) × ((Int) × (((Bool) × (((Int) × ((Int) × (Unit))) × (Unit))) × (Unit)))) × ((Unit) × (Unit))) × (ByteArray)) := fun ⟨⟨a, c, ⟨f, ⟨h, i, _⟩, _⟩, _⟩, j, _⟩ =>
bif f then
 bif eqL a then
 Option.bind (p67_2 fu ((a, c, (true, (h, i, ()), dflt .unit), ()), j, ())) fun ⟨⟨⟨k, l, ⟨m, ⟨n, o, _⟩, _⟩, _⟩, _, _⟩, q⟩ =>
 bif m then
 bif eqL q then
 bif eqL k then
 some (((k, l, (true, (n, o, ()), dflt .unit), ()), (), ()), strOfNums q)
 else none
 else none
 else
 bif eqL q then
 bif eqL k then
 some (((k, l, zR0, ()), (), ()), strOfNums q)
 else none
 else none
 else none
else
 bif eqL a then
 Option.bind (p67_2 fu ((a, c, zR0, ()), j, ())) fun ⟨⟨⟨s, t, ⟨u, ⟨w, x, _⟩, _⟩, _⟩, _, _⟩, y⟩ =>
 bif u then
 bif eqL y then
 bif eqL s then
 some (((s, t, (true, (w, x, ()), dflt .unit), ()), (), ()), strOfNums y)
 else none
 else none
 else
 bif eqL y then
 bif eqL s then
 some (((s, t, zR0, ()), (), ()), strOfNums y)
 else none
 else none
 else none
def e69_2 (fu : Nat) : Ent := ⟨69, (.cons Y3 (.cons (.hole (.int .i64)) .nil)), (.cons Y0 (.cons .dead .nil)), (.hole .str), p69_2 fu⟩
def d69_2 (fu : Nat) : DC := (.seq (.region [opD 4 (.mov (.const vT))] [[]] false) (.seq (.region [mvD 5 0, mvD 6 1, oqD 7 (.call 67 [(tD 5), (tD 6)]) (.ent (e67_2 fu)), opD 8 (.b2s (tD 7)), mvD 4 8] [[], [], [0, 1], [2], [3, 2, 0, 1, 2, 3]] false) .ret))
set_option maxRecDepth 1000000 in
theorem v69_2 (fu : Nat) : evF fu (d69_2 fu) rs69 9 (e69_2 fu).ash (e69_2 fu).osh (e69_2 fu).vsh = p69_2 fu := by kernel_rfl
set_option maxRecDepth 1000000 in
theorem b69_2 (fu : Nat) : BodyD Tryd.prog 69 9 (d69_2 fu).erase rs69 := bodyD_mk Tryd.func69 (by kernel_rfl) (by kernel_rfl) (by kernel_rfl) (by kernel_rfl)
theorem g69_2 (fu : Nat) : (e69_2 fu).Good Tryd.prog := good_by orders (b69_2 fu) (l := [e67_2 fu]) (by kernel_rfl) ⟨g67_2 fu, trivial⟩ (by kernel_rfl) (v69_2 fu)
def rs98 : List RVx := [(.cell 4 true 2)]
/-- gazette/codec.whole[gazette/api.Range] -/
def p98_2 (_ : Nat) : ((List (Int)) × ((Int) × (((Bool) × (((Int) × ((Int) × (Unit))) × (Unit))) × (Unit)))) × (((ByteArray) × ((ByteArray) × (Unit))) × (Unit)) → Option ((((List (Int)) × ((Int) × (((Bool) × (((Int) × ((Int) × (Unit))) × (Unit))) × (Unit)))) × ((Unit) × (Unit))) × ((ByteArray) × ((ByteArray) × (Unit)))) := fun ⟨⟨a, c, ⟨f, ⟨h, i, _⟩, _⟩, _⟩, ⟨j, k, _⟩, _⟩ =>
bif f then
 bif eqL a then
 some (((a, c, (true, (h, i, ()), dflt .unit), ()), (), ()), ((⟨#[]⟩ : ByteArray), (⟨#[]⟩ : ByteArray), ()))
 else none
else
 bif eqL a then
 some (((a, c, zR0, ()), (), ()), (j, k, ()))
 else none
def e98_2 (fu : Nat) : Ent := ⟨98, (.cons Y3 (.cons (.agg 2 (.cons (.hole .str) (.cons (.hole .str) .nil))) .nil)), (.cons Y0 (.cons .dead .nil)), (.agg 2 (.cons (.hole .str) (.cons (.hole .str) .nil))), p98_2 fu⟩
def d98_2 (_ : Nat) : DC := (.seq (.region [opD 3 (.box 63 2 (tD 1)), opD 4 (.alloc 63 2 [vT, vT])] [[], []] false) (.seq (.seq (.region [mvD 6 0, opD 7 (.pure .nilc [(tD 6)]), opD 8 (.faddr 2 (tD 7)), opD 9 (.load false 1 (tD 8)), opD 10 (.pure (.nilq 1 true) [(tD 9)])] [[], [0], [1], [2], [3]] false) (.cond (.tmp 10) (.seq (.region [opD 5 (.alloc 63 2 [vT, vT])] [[]] false) (.seq (.region [opD 11 (.load true 2 (tD 5)), onD (.store 2 (tD 4) (tD 11))] [[], [0, 0]] false) .ret)) .skip)) (.seq (.region [opD 12 (.load true 2 (tD 3)), onD (.store 2 (tD 4) (tD 12))] [[], [0, 0]] false) .ret)))
set_option maxRecDepth 1000000 in
theorem v98_2 (fu : Nat) : evF fu (d98_2 fu) rs98 13 (e98_2 fu).ash (e98_2 fu).osh (e98_2 fu).vsh = p98_2 fu := by kernel_rfl
set_option maxRecDepth 1000000 in
theorem b98_2 (fu : Nat) : BodyD Tryd.prog 98 13 (d98_2 fu).erase rs98 := bodyD_mk Tryd.func98 (by kernel_rfl) (by kernel_rfl) (by kernel_rfl) (by kernel_rfl)
theorem g98_2 (fu : Nat) : (e98_2 fu).Good Tryd.prog := good_by orders (b98_2 fu) (l := []) (by kernel_rfl) trivial (by kernel_rfl) (v98_2 fu)
def rs78 : List RVx := [(.cell 2 true 2)]
/-- (*gazette/gazetteref01.Reader).Range -/
def p78 (fu : Nat) : ((List (Int)) × ((Int) × ((Int) × ((Int) × (Unit))))) × (Unit) → Option ((((List (Int)) × ((Int) × ((Int) × ((Int) × (Unit))))) × (Unit)) × ((ByteArray) × ((ByteArray) × (Unit)))) := fun ⟨⟨a, c, f, h, _⟩, _⟩ =>
Option.bind (p68 fu ((a, c, f, h, ()), (32 : Int), ())) fun ⟨⟨⟨i, j, k, l, _⟩, _⟩, m⟩ =>
bif eqL m then
 Option.bind (p68 fu ((i, j, k, l, ()), (32 : Int), ())) fun ⟨⟨⟨n, o, q, s, _⟩, _⟩, t⟩ =>
 bif eqL t then
 bif (q != (0 : Int)) then
 some (((n, o, q, s, ()), ()), ((⟨#[]⟩ : ByteArray), (⟨#[]⟩ : ByteArray), ()))
 else
 some (((n, o, q, s, ()), ()), (strOfNums m, strOfNums t, ()))
 else none
else none
def e78 (fu : Nat) : Ent := ⟨78, (.cons Y1 .nil), (.cons Y2 .nil), (.agg 2 (.cons (.hole .str) (.cons (.hole .str) .nil))), p78 fu⟩
def d78 (fu : Nat) : DC := (.seq (.region [opD 2 (.alloc 63 2 [vT, vT])] [[]] false) (.seq (.region [mvD 4 0, oqD 5 (.call 68 [(tD 4), (cD 32)]) (.ent (e68 fu)), opD 6 (.b2s (tD 5)), opD 7 (.build 2 [vT, vT] [(0, (1, (tD 6)))]), opD 3 (.alloc 63 2 [vT, vT]), onD (.store 2 (tD 3) (tD 7))] [[], [0], [1], [2], [], [4, 3, 1, 0, 1, 2, 3, 4]] false) (.seq (.region [mvD 8 0, oqD 9 (.call 68 [(tD 8), (cD 32)]) (.ent (e68 fu)), opD 10 (.b2s (tD 9)), opD 11 (.faddr 1 (tD 3)), onD (.store 1 (tD 11) (tD 10))] [[], [0], [1], [0, 1, 2], [3, 2, 1, 0, 1, 2]] false) (.seq (.seq (.region [mvD 12 0, opD 13 (.pure .nilc [(tD 12)]), opD 14 (.faddr 2 (tD 13)), opD 15 (.load false 1 (tD 14)), opD 16 (.bin .neq (tD 15) (cD 0))] [[], [0], [1], [2], [3]] false) (.cond (.tmp 16) (.seq (.region [opD 17 (.build 2 [vT, vT] []), onD (.store 2 (tD 2) (tD 17))] [[], [0, 0]] false) .ret) .skip)) (.seq (.region [opD 18 (.load true 2 (tD 3)), onD (.store 2 (tD 2) (tD 18))] [[], [0, 0]] false) .ret)))))
set_option maxRecDepth 1000000 in
theorem v78 (fu : Nat) : evF fu (d78 fu) rs78 19 (e78 fu).ash (e78 fu).osh (e78 fu).vsh = p78 fu := by kernel_rfl
set_option maxRecDepth 1000000 in
theorem b78 (fu : Nat) : BodyD Tryd.prog 78 19 (d78 fu).erase rs78 := bodyD_mk Tryd.func78 (by kernel_rfl) (by kernel_rfl) (by kernel_rfl) (by kernel_rfl)
theorem g78 (fu : Nat) : (e78 fu).Good Tryd.prog := good_by orders (b78 fu) (l := [e68 fu, e68 fu]) (by kernel_rfl) ⟨g68 fu, g68 fu, trivial⟩ (by kernel_rfl) (v78 fu)
def rs80 : List RVx := []
/-- (*gazette/gazetteref01.Reader).Fail -/
def p80 (fu : Nat) : ((List (Int)) × ((Int) × ((Int) × ((Int) × (Unit))))) × ((Int) × (Unit)) → Option ((((List (Int)) × ((Int) × ((Int) × ((Int) × (Unit))))) × (Unit)) × (Unit)) := fun ⟨⟨a, c, f, h, _⟩, i, _⟩ =>
Option.bind (p91 fu ((a, c, f, h, ()), i, c, ())) fun ⟨⟨⟨j, k, l, m, _⟩, _⟩, _⟩ =>
some (((j, k, l, m, ()), ()), ())
def e80 (fu : Nat) : Ent := ⟨80, (.cons Y1 (.cons (.hole (.int .i64)) .nil)), (.cons Y2 .nil), (.tup 0 .nil), p80 fu⟩
def d80 (fu : Nat) : DC := (.region [mvD 4 0, mvD 5 1, mvD 6 0, opD 7 (.pure .nilc [(tD 6)]), opD 8 (.faddr 1 (tD 7)), opD 9 (.load false 1 (tD 8)), oqD 10 (.call 91 [(tD 4), (tD 5), (tD 9)]) (.ent (e91 fu))] [[], [], [], [2], [3], [4], [0, 1, 5]] false)
set_option maxRecDepth 1000000 in
theorem v80 (fu : Nat) : evF fu (d80 fu) rs80 11 (e80 fu).ash (e80 fu).osh (e80 fu).vsh = p80 fu := by kernel_rfl
set_option maxRecDepth 1000000 in
theorem b80 (fu : Nat) : BodyD Tryd.prog 80 11 (d80 fu).erase rs80 := bodyD_mk Tryd.func80 (by kernel_rfl) (by kernel_rfl) (by kernel_rfl) (by kernel_rfl)
theorem g80 (fu : Nat) : (e80 fu).Good Tryd.prog := good_by orders (b80 fu) (l := [e91 fu]) (by kernel_rfl) ⟨g91 fu, trivial⟩ (by kernel_rfl) (v80 fu)
def rs99 : List RVx := [(.cell 4 true 5)]
/-- gazette/codec.whole[gazette/api.Record] -/
def p99_4 (_ : Nat) : ((List (Int)) × ((Int) × (((Bool) × (((Int) × ((Int) × (Unit))) × (Unit))) × (Unit)))) × (((Int) × ((ByteArray) × ((List (Int)) × ((Int) × ((Int) × (Unit)))))) × (Unit)) → Option ((((List (Int)) × ((Int) × (((Bool) × (((Int) × ((Int) × (Unit))) × (Unit))) × (Unit)))) × ((Unit) × (Unit))) × ((Int) × ((ByteArray) × ((List (Int)) × ((Int) × ((Int) × (Unit))))))) := fun ⟨⟨a, c, ⟨f, ⟨h, i, _⟩, _⟩, _⟩, ⟨j, k, l, m, n, _⟩, _⟩ =>
bif f then
 bif eqL a then
 some (((a, c, (true, (h, i, ()), dflt .unit), ()), (), ()), ((0 : Int), (⟨#[]⟩ : ByteArray), [], (0 : Int), (0 : Int), ()))
 else none
else
 bif eqL a then
 some (((a, c, zR0, ()), (), ()), (j, k, l, m, n, ()))
 else none
def e99_4 (fu : Nat) : Ent := ⟨99, (.cons Y3 (.cons Y9 .nil)), (.cons Y0 (.cons .dead .nil)), Y9, p99_4 fu⟩
def d99_4 (_ : Nat) : DC := (.seq (.region [opD 3 (.box 65 5 (tD 1)), opD 4 (.alloc 65 5 [vU, vT, vS, vU, vU])] [[], []] false) (.seq (.seq (.region [mvD 6 0, opD 7 (.pure .nilc [(tD 6)]), opD 8 (.faddr 2 (tD 7)), opD 9 (.load false 1 (tD 8)), opD 10 (.pure (.nilq 1 true) [(tD 9)])] [[], [0], [1], [2], [3]] false) (.cond (.tmp 10) (.seq (.region [opD 5 (.alloc 65 5 [vU, vT, vS, vU, vU])] [[]] false) (.seq (.region [opD 11 (.load true 5 (tD 5)), onD (.store 5 (tD 4) (tD 11))] [[], [0, 0]] false) .ret)) .skip)) (.seq (.region [opD 12 (.load true 5 (tD 3)), onD (.store 5 (tD 4) (tD 12))] [[], [0, 0]] false) .ret)))
set_option maxRecDepth 1000000 in
theorem v99_4 (fu : Nat) : evF fu (d99_4 fu) rs99 13 (e99_4 fu).ash (e99_4 fu).osh (e99_4 fu).vsh = p99_4 fu := by kernel_rfl
set_option maxRecDepth 1000000 in
theorem b99_4 (fu : Nat) : BodyD Tryd.prog 99 13 (d99_4 fu).erase rs99 := bodyD_mk Tryd.func99 (by kernel_rfl) (by kernel_rfl) (by kernel_rfl) (by kernel_rfl)
theorem g99_4 (fu : Nat) : (e99_4 fu).Good Tryd.prog := good_by orders (b99_4 fu) (l := []) (by kernel_rfl) trivial (by kernel_rfl) (v99_4 fu)
def rs83 : List RVx := [(.cell 2 true 5)]
/-- (*gazette/gazetteref01.Reader).Record -/
def p83 (fu : Nat) : ((List (Int)) × ((Int) × ((Int) × ((Int) × (Unit))))) × (Unit) → Option ((((List (Int)) × ((Int) × ((Int) × ((Int) × (Unit))))) × (Unit)) × ((Int) × ((ByteArray) × ((List (Int)) × ((Int) × ((Int) × (Unit))))))) := fun ⟨⟨a, c, f, h, _⟩, _⟩ =>
Option.bind (p51 fu ((a, c, f, h, ()), ())) fun ⟨⟨⟨i, j, k, l, _⟩, _⟩, m⟩ =>
Option.bind (p68 fu ((i, j, k, l, ()), (32 : Int), ())) fun ⟨⟨⟨n, o, q, s, _⟩, _⟩, t⟩ =>
bif eqL t then
 Option.bind (p68 fu ((n, o, q, s, ()), (256 : Int), ())) fun ⟨⟨⟨u, w, x, y, _⟩, _⟩, z⟩ =>
 Option.bind (p51 fu ((u, w, x, y, ()), ())) fun ⟨⟨⟨a0, c0, f0, h0, _⟩, _⟩, i0⟩ =>
 Option.bind (p51 fu ((a0, c0, f0, h0, ()), ())) fun ⟨⟨⟨j0, k0, l0, m0, _⟩, _⟩, n0⟩ =>
 bif (l0 != (0 : Int)) then
 some (((j0, k0, l0, m0, ()), ()), ((0 : Int), (⟨#[]⟩ : ByteArray), [], (0 : Int), (0 : Int), ()))
 else
 bif eqL z then
 some (((j0, k0, l0, m0, ()), ()), (m, strOfNums t, z, i0, n0, ()))
 else none
else none
def e83 (fu : Nat) : Ent := ⟨83, (.cons Y1 .nil), (.cons Y2 .nil), Y10, p83 fu⟩
def d83 (fu : Nat) : DC := (.seq (.region [opD 2 (.alloc 65 5 [vU, vT, vS, vU, vU])] [[]] false) (.seq (.region [mvD 4 0, oqD 5 (.call 51 [(tD 4)]) (.ent (e51 fu)), opD 6 (.build 5 [vU, vT, vS, vU, vU] [(0, (1, (tD 5)))]), opD 3 (.alloc 65 5 [vU, vT, vS, vU, vU]), onD (.store 5 (tD 3) (tD 6))] [[], [0], [1], [], [3, 2, 1, 0, 1, 2, 3]] false) (.seq (.region [mvD 7 0, oqD 8 (.call 68 [(tD 7), (cD 32)]) (.ent (e68 fu)), opD 9 (.b2s (tD 8)), opD 10 (.faddr 1 (tD 3)), onD (.store 1 (tD 10) (tD 9))] [[], [0], [1], [0, 1, 2], [3, 2, 1, 0, 1, 2]] false) (.seq (.region [mvD 11 0, oqD 12 (.call 68 [(tD 11), (cD 256)]) (.ent (e68 fu)), opD 13 (.faddr 2 (tD 3)), onD (.store 1 (tD 13) (tD 12))] [[], [0], [0, 1], [2, 1, 1, 0, 1]] false) (.seq (.region [mvD 14 0, oqD 15 (.call 51 [(tD 14)]) (.ent (e51 fu)), opD 16 (.faddr 3 (tD 3)), onD (.store 1 (tD 16) (tD 15))] [[], [0], [0, 1], [2, 1, 1, 0, 1]] false) (.seq (.region [mvD 17 0, oqD 18 (.call 51 [(tD 17)]) (.ent (e51 fu)), opD 19 (.faddr 4 (tD 3)), onD (.store 1 (tD 19) (tD 18))] [[], [0], [0, 1], [2, 1, 1, 0, 1]] false) (.seq (.seq (.region [mvD 20 0, opD 21 (.pure .nilc [(tD 20)]), opD 22 (.faddr 2 (tD 21)), opD 23 (.load false 1 (tD 22)), opD 24 (.bin .neq (tD 23) (cD 0))] [[], [0], [1], [2], [3]] false) (.cond (.tmp 24) (.seq (.region [opD 25 (.build 5 [vU, vT, vS, vU, vU] []), onD (.store 5 (tD 2) (tD 25))] [[], [0, 0]] false) .ret) .skip)) (.seq (.region [opD 26 (.load true 5 (tD 3)), onD (.store 5 (tD 2) (tD 26))] [[], [0, 0]] false) .ret))))))))
set_option maxRecDepth 1000000 in
theorem v83 (fu : Nat) : evF fu (d83 fu) rs83 27 (e83 fu).ash (e83 fu).osh (e83 fu).vsh = p83 fu := by kernel_rfl
set_option maxRecDepth 1000000 in
theorem b83 (fu : Nat) : BodyD Tryd.prog 83 27 (d83 fu).erase rs83 := bodyD_mk Tryd.func83 (by kernel_rfl) (by kernel_rfl) (by kernel_rfl) (by kernel_rfl)
theorem g83 (fu : Nat) : (e83 fu).Good Tryd.prog := good_by orders (b83 fu) (l := [e51 fu, e68 fu, e68 fu, e51 fu, e51 fu]) (by kernel_rfl) ⟨g51 fu, g68 fu, g68 fu, g51 fu, g51 fu, trivial⟩ (by kernel_rfl) (v83 fu)
def rs81 : List RVx := [(.tmp 4)]
/-- gazette/gazetteref01.SameRecord -/
def p81 (_ : Nat) : ((Int) × ((ByteArray) × ((List (Int)) × ((Int) × ((Int) × (Unit)))))) × (((Int) × ((ByteArray) × ((List (Int)) × ((Int) × ((Int) × (Unit)))))) × (Unit)) → Option ((Unit) × (Bool)) := fun ⟨⟨a, c, f, h, i, _⟩, ⟨j, k, l, m, n, _⟩, _⟩ =>
bif (a == j) then
 bif ByteArray.toList c == ByteArray.toList k then
 bif ByteArray.toList (strOfNums f) == ByteArray.toList (strOfNums l) then
 bif (h == m) then
 some ((), (i == n))
 else
 some ((), false)
 else
 some ((), false)
 else
 some ((), false)
else
 some ((), false)
def e81 (fu : Nat) : Ent := ⟨81, (.cons Y9 (.cons Y9 .nil)), .nil, (.hole .bool), p81 fu⟩
def d81 (_ : Nat) : DC := (.seq (.region [opD 2 (.box 65 5 (tD 0)), opD 3 (.box 65 5 (tD 1)), opD 4 (.mov (.const vB))] [[], [], []] false) (.seq (.region [opD 5 (.faddr 0 (tD 2)), opD 6 (.load false 1 (tD 5)), opD 7 (.faddr 0 (tD 3)), opD 8 (.load false 1 (tD 7)), opD 9 (.bin .eql (tD 6) (tD 8)), mvD 10 9, ogD 11 10 true (.faddr 1 (tD 2)), ogD 12 10 true (.load false 1 (tD 11)), ogD 13 10 true (.faddr 1 (tD 3)), ogD 14 10 true (.load false 1 (tD 13)), ogD 15 10 true (.bin .eql (tD 12) (tD 14)), opD 16 (.pick (tD 10) (tD 15) (.const vB)), mvD 17 16, ogD 18 17 true (.faddr 2 (tD 2)), ogD 19 17 true (.load false 1 (tD 18)), ogD 20 17 true (.b2s (tD 19)), ogD 21 17 true (.faddr 2 (tD 3)), ogD 22 17 true (.load false 1 (tD 21)), ogD 23 17 true (.b2s (tD 22)), ogD 24 17 true (.bin .eql (tD 20) (tD 23)), opD 25 (.pick (tD 17) (tD 24) (.const vB)), mvD 26 25, ogD 27 26 true (.faddr 3 (tD 2)), ogD 28 26 true (.load false 1 (tD 27)), ogD 29 26 true (.faddr 3 (tD 3)), ogD 30 26 true (.load false 1 (tD 29)), ogD 31 26 true (.bin .eql (tD 28) (tD 30)), opD 32 (.pick (tD 26) (tD 31) (.const vB)), mvD 33 32, ogD 34 33 true (.faddr 4 (tD 2)), ogD 35 33 true (.load false 1 (tD 34)), ogD 36 33 true (.faddr 4 (tD 3)), ogD 37 33 true (.load false 1 (tD 36)), ogD 38 33 true (.bin .eql (tD 35) (tD 37)), opD 39 (.pick (tD 33) (tD 38) (.const vB)), mvD 4 39] [[], [0], [], [2], [1, 3], [4], [5], [6, 5], [5], [8, 5], [7, 9, 5], [5, 10], [11, 5], [12], [13, 12], [14, 12], [12], [16, 12], [17, 12], [15, 18, 12], [12, 19], [20, 12], [21], [22, 21], [21], [24, 21], [23, 25, 21], [21, 26], [27, 21], [28], [29, 28], [28], [31, 28], [30, 32, 28], [28, 33], [34, 28, 0, 1, 2, 3, 4, 5, 6, 7, 8, 9, 10, 11, 12, 13, 14, 15, 16, 17, 18, 19, 20, 21, 22, 23, 24, 25, 26, 27, 28, 29, 30, 31, 32, 33, 34]] false) .ret))
set_option maxRecDepth 1000000 in
theorem v81 (fu : Nat) : evF fu (d81 fu) rs81 40 (e81 fu).ash (e81 fu).osh (e81 fu).vsh = p81 fu := by kernel_rfl
set_option maxRecDepth 1000000 in
theorem b81 (fu : Nat) : BodyD Tryd.prog 81 40 (d81 fu).erase rs81 := bodyD_mk Tryd.func81 (by kernel_rfl) (by kernel_rfl) (by kernel_rfl) (by kernel_rfl)
theorem g81 (fu : Nat) : (e81 fu).Good Tryd.prog := good_by orders (b81 fu) (l := []) (by kernel_rfl) trivial (by kernel_rfl) (v81 fu)
def rs29 : List RVx := [(.tmp 2)]
/-- (*gazette/gazetteref01.Reader).Done -/
def p29 (_ : Nat) : ((List (Int)) × ((Int) × ((Int) × ((Int) × (Unit))))) × (Unit) → Option ((Unit) × (Int)) := fun ⟨⟨a, c, f, _, _⟩, _⟩ =>
orK (E := (Unit) × (Unit))
 (bif (f == (0 : Int)) then
 bif decide (c < (List.length a : Int)) then
 inrO (some ((), (15 : Int)))
 else
 some (.inl ((), ()))
 else
 some (.inl ((), ())))
 fun ⟨_, _⟩ =>
some ((), f)
def e29 (fu : Nat) : Ent := ⟨29, (.cons (.look (.cons (.hole (.sl (.int .u8))) (.cons (.hole (.int .i64)) (.cons (.hole (.int .i64)) (.cons (.hole (.int .i64)) .nil))))) .nil), .nil, (.hole (.int .i64)), p29 fu⟩
def d29 (_ : Nat) : DC := (.seq (.region [opD 2 (.mov (cD 0))] [[]] false) (.join ⟨[], .nil, [], .nil, [0], []⟩
 (.seq (.region [mvD 3 0, opD 4 (.pure .nilc [(tD 3)]), opD 5 (.faddr 2 (tD 4)), opD 6 (.load false 1 (tD 5)), opD 7 (.bin .eql (tD 6) (cD 0)), mvD 8 7, ogD 9 8 true (.mov (tD 0)), ogD 10 8 true (.pure .nilc [(tD 9)]), ogD 11 8 true (.faddr 1 (tD 10)), ogD 12 8 true (.load false 1 (tD 11)), ogD 13 8 true (.mov (tD 0)), ogD 14 8 true (.pure .nilc [(tD 13)]), ogD 15 8 true (.faddr 0 (tD 14)), ogD 16 8 true (.load false 1 (tD 15)), ogD 17 8 true (.len false (tD 16)), ogD 18 8 true (.bin .lss (tD 12) (tD 17)), opD 19 (.pick (tD 8) (tD 18) (.const vB))] [[], [0], [1], [2], [3], [4], [5], [6, 5], [7, 5], [8, 5], [5], [10, 5], [11, 5], [12, 5], [13, 5], [9, 14, 5], [5, 15]] true) (.cond (.tmp 19) (.seq (.region [opD 2 (.mov (cD 15))] [[]] false) .ret) .skip))
 (.seq (.region [mvD 20 0, opD 21 (.pure .nilc [(tD 20)]), opD 22 (.faddr 2 (tD 21)), opD 23 (.load false 1 (tD 22)), mvD 2 23] [[], [0], [1], [2], [3, 0, 1, 2, 3]] false) .ret)))
set_option maxRecDepth 1000000 in
theorem v29 (fu : Nat) : evF fu (d29 fu) rs29 24 (e29 fu).ash (e29 fu).osh (e29 fu).vsh = p29 fu := by kernel_rfl
set_option maxRecDepth 1000000 in
theorem b29 (fu : Nat) : BodyD Tryd.prog 29 24 (d29 fu).erase rs29 := bodyD_mk Tryd.func29 (by kernel_rfl) (by kernel_rfl) (by kernel_rfl) (by kernel_rfl)
theorem g29 (fu : Nat) : (e29 fu).Good Tryd.prog := good_by orders (b29 fu) (l := []) (by kernel_rfl) trivial (by kernel_rfl) (v29 fu)
def rs16 : List RVx := [(.tmp 2), (.tmp 3)]
/-- (*gazette/codec.Reader).Err -/
def p16_2 (fu : Nat) : ((List (Int)) × ((Int) × (((Bool) × (((Int) × ((Int) × (Unit))) × (Unit))) × (Unit)))) × (Unit) → Option ((((List (Int)) × ((Int) × (((Bool) × (((Int) × ((Int) × (Unit))) × (Unit))) × (Unit)))) × ((Unit) × (Unit))) × ((Int) × ((Int) × (Unit)))) := fun ⟨⟨a, c, ⟨f, ⟨h, i, _⟩, _⟩, _⟩, _⟩ =>
bif f then
 Option.bind (pAs fu ((false, dflt .unit, (h, i, ())), ((), ()), ())) fun ⟨⟨⟨⟨j, _, ⟨k, l, _⟩⟩, _⟩, _⟩, m⟩ =>
 bif j then
 bif m then
 none
 else
 bif eqL a then
 some (((a, c, (true, (h, i, ()), dflt .unit), ()), (), ()), ((0 : Int), (0 : Int), ()))
 else none
 else
 bif m then
 bif eqL a then
 some (((a, c, (true, (h, i, ()), dflt .unit), ()), (), ()), (k, l, ()))
 else none
 else
 bif eqL a then
 some (((a, c, (true, (h, i, ()), dflt .unit), ()), (), ()), ((0 : Int), (0 : Int), ()))
 else none
else
 Option.bind (pAs fu ((true, (), dflt (.pair (.int .i64) (.pair (.int .i64) .unit))), ((), ()), ())) fun ⟨⟨⟨⟨n, _, ⟨o, q, _⟩⟩, _⟩, _⟩, s⟩ =>
 bif n then
 bif s then
 none
 else
 bif eqL a then
 some (((a, c, zR0, ()), (), ()), ((0 : Int), (0 : Int), ()))
 else none
 else
 bif s then
 bif eqL a then
 some (((a, c, zR0, ()), (), ()), (o, q, ()))
 else none
 else
 bif eqL a then
 some (((a, c, zR0, ()), (), ()), ((0 : Int), (0 : Int), ()))
 else none
def e16_2 (fu : Nat) : Ent := ⟨16, (.cons Y3 .nil), (.cons Y0 (.cons .dead .nil)), (.tup 2 (.cons (.hole (.int .i64)) (.cons (.hole (.int .i64)) .nil))), p16_2 fu⟩
def d16_2 (fu : Nat) : DC := (.seq (.region [opD 2 (.mov (cD 0)), opD 3 (.mov (cD 0))] [[], [0]] false) (.seq (.region [opD 4 (.alloc 99 1 [(.pointer none)])] [[]] false) (.seq (.seq (.region [mvD 5 0, opD 6 (.pure .nilc [(tD 5)]), opD 7 (.faddr 2 (tD 6)), opD 8 (.load false 1 (tD 7)), opD 9 (.ifc 101 (tD 4)), oqD 10 (.call 42 [(tD 8), (tD 9)]) (.ent (eAs fu))] [[], [0], [1], [2], [], [3, 4]] false) (.cond (.tmp 10) (.seq (.region [opD 11 (.load false 1 (tD 4)), opD 12 (.pure .nilc [(tD 11)]), opD 13 (.faddr 0 (tD 12)), opD 14 (.load false 1 (tD 13)), opD 15 (.load false 1 (tD 4)), opD 16 (.pure .nilc [(tD 15)]), opD 17 (.faddr 1 (tD 16)), opD 18 (.load false 1 (tD 17)), mvD 2 14, mvD 3 18] [[], [0], [1], [2], [], [4], [5], [6], [3, 0, 1, 2, 3], [7, 8, 0, 1, 2, 3, 4, 5, 6, 7, 8]] true) .ret) .skip)) (.seq (.region [opD 2 (.mov (cD 0)), opD 3 (.mov (cD 0))] [[], [0, 0]] false) .ret))))
set_option maxRecDepth 1000000 in
theorem v16_2 (fu : Nat) : evF fu (d16_2 fu) rs16 19 (e16_2 fu).ash (e16_2 fu).osh (e16_2 fu).vsh = p16_2 fu := by kernel_rfl
set_option maxRecDepth 1000000 in
theorem b16_2 (fu : Nat) : BodyD Tryd.prog 16 19 (d16_2 fu).erase rs16 := bodyD_mk Tryd.func16 (by kernel_rfl) (by kernel_rfl) (by kernel_rfl) (by kernel_rfl)
theorem g16_2 (fu : Nat) : (e16_2 fu).Good Tryd.prog := good_by orders (b16_2 fu) (l := [eAs fu]) (by kernel_rfl) ⟨gAs fu, trivial⟩ (by kernel_rfl) (v16_2 fu)
def rs19 : List RVx := [(.tmp 2)]
/-- (*gazette/codec.Reader).Done -/
def p19_2 (fu : Nat) : ((List (Int)) × ((Int) × (((Bool) × (((Int) × ((Int) × (Unit))) × (Unit))) × (Unit)))) × (Unit) → Option ((((List (Int)) × ((Int) × (((Bool) × (((Int) × ((Int) × (Unit))) × (Unit))) × (Unit)))) × ((Unit) × (Unit))) × (Int)) := fun ⟨⟨a, c, ⟨f, ⟨h, i, _⟩, _⟩, _⟩, _⟩ =>
bif f then
 bif eqL a then
 Option.bind (p16_2 fu ((a, c, (true, (h, i, ()), dflt .unit), ()), ())) fun ⟨⟨⟨j, k, ⟨l, ⟨m, n, _⟩, _⟩, _⟩, _, _⟩, ⟨o, _, _⟩⟩ =>
 bif l then
 bif (o == (0 : Int)) then
 bif decide (k < ((List.length j) : Int)) then
 bif eqL j then
 some (((j, k, (true, (m, n, ()), dflt .unit), ()), (), ()), (15 : Int))
 else none
 else
 bif eqL j then
 some (((j, k, (true, (m, n, ()), dflt .unit), ()), (), ()), o)
 else none
 else
 bif eqL j then
 some (((j, k, (true, (m, n, ()), dflt .unit), ()), (), ()), o)
 else none
 else
 bif (o == (0 : Int)) then
 bif decide (k < ((List.length j) : Int)) then
 bif eqL j then
 some (((j, k, zR0, ()), (), ()), (15 : Int))
 else none
 else
 bif eqL j then
 some (((j, k, zR0, ()), (), ()), o)
 else none
 else
 bif eqL j then
 some (((j, k, zR0, ()), (), ()), o)
 else none
 else none
else
 bif eqL a then
 Option.bind (p16_2 fu ((a, c, zR0, ()), ())) fun ⟨⟨⟨q, s, ⟨t, ⟨u, w, _⟩, _⟩, _⟩, _, _⟩, ⟨x, _, _⟩⟩ =>
 bif t then
 bif (x == (0 : Int)) then
 bif decide (s < ((List.length q) : Int)) then
 bif eqL q then
 some (((q, s, (true, (u, w, ()), dflt .unit), ()), (), ()), (15 : Int))
 else none
 else
 bif eqL q then
 some (((q, s, (true, (u, w, ()), dflt .unit), ()), (), ()), x)
 else none
 else
 bif eqL q then
 some (((q, s, (true, (u, w, ()), dflt .unit), ()), (), ()), x)
 else none
 else
 bif (x == (0 : Int)) then
 bif decide (s < ((List.length q) : Int)) then
 bif eqL q then
 some (((q, s, zR0, ()), (), ()), (15 : Int))
 else none
 else
 bif eqL q then
 some (((q, s, zR0, ()), (), ()), x)
 else none
 else
 bif eqL q then
 some (((q, s, zR0, ()), (), ()), x)
 else none
 else none
def e19_2 (fu : Nat) : Ent := ⟨19, (.cons Y3 .nil), (.cons Y0 (.cons .dead .nil)), (.hole (.int .i64)), p19_2 fu⟩
def d19_2 (fu : Nat) : DC := (.seq (.region [opD 2 (.mov (cD 0))] [[]] false) (.seq (.region [mvD 6 0, oqD 7 (.call 16 [(tD 6)]) (.ent (e16_2 fu)), mvD 5 7, opD 8 (.ext (tD 5) 0), opD 9 (.ext (tD 5) 1), mvD 3 8, mvD 4 9] [[], [0], [1], [2], [2], [3, 1, 0, 1, 2, 3], [4, 5, 0, 1, 2, 3, 4, 5]] false) (.seq (.seq (.region [mvD 10 3, opD 11 (.bin .eql (tD 10) (cD 0)), mvD 12 11, ogD 13 12 true (.mov (tD 0)), ogD 14 12 true (.pure .nilc [(tD 13)]), ogD 15 12 true (.faddr 1 (tD 14)), ogD 16 12 true (.load false 1 (tD 15)), ogD 17 12 true (.mov (tD 0)), ogD 18 12 true (.pure .nilc [(tD 17)]), ogD 19 12 true (.faddr 0 (tD 18)), ogD 20 12 true (.load false 1 (tD 19)), ogD 21 12 true (.len false (tD 20)), ogD 22 12 true (.bin .lss (tD 16) (tD 21)), opD 23 (.pick (tD 12) (tD 22) (.const vB))] [[], [0], [1], [2], [3, 2], [4, 2], [5, 2], [2], [7, 2], [8, 2], [9, 2], [10, 2], [6, 11, 2], [2, 12]] true) (.cond (.tmp 23) (.seq (.region [opD 2 (.mov (cD 15))] [[]] false) .ret) .skip)) (.seq (.region [mvD 24 3, mvD 2 24] [[], [0, 0]] false) .ret))))
set_option maxRecDepth 1000000 in
theorem v19_2 (fu : Nat) : evF fu (d19_2 fu) rs19 25 (e19_2 fu).ash (e19_2 fu).osh (e19_2 fu).vsh = p19_2 fu := by kernel_rfl
set_option maxRecDepth 1000000 in
theorem b19_2 (fu : Nat) : BodyD Tryd.prog 19 25 (d19_2 fu).erase rs19 := bodyD_mk Tryd.func19 (by kernel_rfl) (by kernel_rfl) (by kernel_rfl) (by kernel_rfl)
theorem g19_2 (fu : Nat) : (e19_2 fu).Good Tryd.prog := good_by orders (b19_2 fu) (l := [e16_2 fu]) (by kernel_rfl) ⟨g16_2 fu, trivial⟩ (by kernel_rfl) (v19_2 fu)
def rs18 : List RVx := [(.tmp 2)]
/-- (*gazette/codec.Reader).Bool -/
def p18_2 (fu : Nat) : ((List (Int)) × ((Int) × (((Bool) × (((Int) × ((Int) × (Unit))) × (Unit))) × (Unit)))) × (Unit) → Option ((((List (Int)) × ((Int) × (((Bool) × (((Int) × ((Int) × (Unit))) × (Unit))) × (Unit)))) × ((Unit) × (Unit))) × (Bool)) := fun ⟨⟨a, c, ⟨f, ⟨h, i, _⟩, _⟩, _⟩, _⟩ =>
bif f then
 bif eqL a then
 Option.bind (p45_2 fu ((a, c, (true, (h, i, ()), dflt .unit), ()), (1 : Int), ())) fun ⟨⟨⟨j, k, ⟨l, ⟨m, n, _⟩, _⟩, _⟩, _, _⟩, o⟩ =>
 bif l then
 orK (E := (Unit) × (((List (Int)) × ((Int) × (((Bool) × (((Int) × ((Int) × (Unit))) × (Unit))) × (Unit)))) × (Unit)))
 (orK (E := ((Bool) × (Unit)) × (Unit))
 (bif (((List.length o) : Int) == (1 : Int)) then
 bif decide ((0 : Int) ≤ 0 ∧ 0 < (List.length o : Int)) then
 bif decide (0 < List.length o) then
 some (.inl ((decide ((List.getD o 0 (dflt (.int .u8))) > (1 : Int)), ()), ()))
 else none
 else none
 else
 some (.inl ((false, ()), ())))
 fun ⟨⟨q, _⟩, _⟩ =>
 bif q then
 bif eqL j then
 Option.bind (p43_2 fu ((j, k, (true, (m, n, ()), dflt .unit), ()), c, (16 : Int), ())) fun ⟨⟨⟨s, t, ⟨u, ⟨w, x, _⟩, _⟩, _⟩, _, _⟩, _⟩ =>
 bif u then
 bif eqL s then
 some (.inl ((), ((s, t, (true, (w, x, ()), dflt .unit), ()), ())))
 else none
 else
 bif eqL s then
 some (.inl ((), ((s, t, zR0, ()), ())))
 else none
 else none
 else
 bif eqL j then
 some (.inl ((), ((j, k, (true, (m, n, ()), dflt .unit), ()), ())))
 else none)
 fun ⟨_, ⟨⟨y, z, ⟨a0, ⟨c0, f0, _⟩, _⟩, _⟩, _⟩⟩ =>
 bif a0 then
 bif eqL y then
 some (((y, z, (true, (c0, f0, ()), dflt .unit), ()), (), ()), false)
 else none
 else
 bif decide ((0 : Int) ≤ 0 ∧ 0 < (List.length o : Int)) then
 bif decide (0 < List.length o) then
 bif eqL y then
 some (((y, z, zR0, ()), (), ()), ((List.getD o 0 (dflt (.int .u8))) == (1 : Int)))
 else none
 else none
 else none
 else
 orK (E := (Unit) × (((List (Int)) × ((Int) × (((Bool) × (((Int) × ((Int) × (Unit))) × (Unit))) × (Unit)))) × (Unit)))
 (orK (E := ((Bool) × (Unit)) × (Unit))
 (bif (((List.length o) : Int) == (1 : Int)) then
 bif decide ((0 : Int) ≤ 0 ∧ 0 < (List.length o : Int)) then
 bif decide (0 < List.length o) then
 some (.inl ((decide ((List.getD o 0 (dflt (.int .u8))) > (1 : Int)), ()), ()))
 else none
 else none
 else
 some (.inl ((false, ()), ())))
 fun ⟨⟨q, _⟩, _⟩ =>
 bif q then
 bif eqL j then
 Option.bind (p43_2 fu ((j, k, zR0, ()), c, (16 : Int), ())) fun ⟨⟨⟨h0, i0, ⟨j0, ⟨k0, l0, _⟩, _⟩, _⟩, _, _⟩, _⟩ =>
 bif j0 then
 bif eqL h0 then
 some (.inl ((), ((h0, i0, (true, (k0, l0, ()), dflt .unit), ()), ())))
 else none
 else
 bif eqL h0 then
 some (.inl ((), ((h0, i0, zR0, ()), ())))
 else none
 else none
 else
 bif eqL j then
 some (.inl ((), ((j, k, zR0, ()), ())))
 else none)
 fun ⟨_, ⟨⟨y, z, ⟨a0, ⟨c0, f0, _⟩, _⟩, _⟩, _⟩⟩ =>
 bif a0 then
 bif eqL y then
 some (((y, z, (true, (c0, f0, ()), dflt .unit), ()), (), ()), false)
 else none
 else
 bif decide ((0 : Int) ≤ 0 ∧ 0 < (List.length o : Int)) then
 bif decide (0 < List.length o) then
 bif eqL y then
 some (((y, z, zR0, ()), (), ()), ((List.getD o 0 (dflt (.int .u8))) == (1 : Int)))
 else none
 else none
 else none
 else none
else
 bif eqL a then
 Option.bind (p45_2 fu ((a, c, zR0, ()), (1 : Int), ())) fun ⟨⟨⟨m0, n0, ⟨o0, ⟨q0, s0, _⟩, _⟩, _⟩, _, _⟩, t0⟩ =>
 bif o0 then
 orK (E := (Unit) × (((List (Int)) × ((Int) × (((Bool) × (((Int) × ((Int) × (Unit))) × (Unit))) × (Unit)))) × (Unit)))
 (orK (E := ((Bool) × (Unit)) × (Unit))
 (bif (((List.length t0) : Int) == (1 : Int)) then
 bif decide ((0 : Int) ≤ 0 ∧ 0 < (List.length t0 : Int)) then
 bif decide (0 < List.length t0) then
 some (.inl ((decide ((List.getD t0 0 (dflt (.int .u8))) > (1 : Int)), ()), ()))
 else none
 else none
 else
 some (.inl ((false, ()), ())))
 fun ⟨⟨q, _⟩, _⟩ =>
 bif q then
 bif eqL m0 then
 Option.bind (p43_2 fu ((m0, n0, (true, (q0, s0, ()), dflt .unit), ()), c, (16 : Int), ())) fun ⟨⟨⟨u0, w0, ⟨x0, ⟨y0, z0, _⟩, _⟩, _⟩, _, _⟩, _⟩ =>
 bif x0 then
 bif eqL u0 then
 some (.inl ((), ((u0, w0, (true, (y0, z0, ()), dflt .unit), ()), ())))
 else none
 else
 bif eqL u0 then
 some (.inl ((), ((u0, w0, zR0, ()), ())))
 else none
 else none
 else
 bif eqL m0 then
 some (.inl ((), ((m0, n0, (true, (q0, s0, ()), dflt .unit), ()), ())))
 else none)
 fun ⟨_, ⟨⟨y, z, ⟨a0, ⟨c0, f0, _⟩, _⟩, _⟩, _⟩⟩ =>
 bif a0 then
 bif eqL y then
 some (((y, z, (true, (c0, f0, ()), dflt .unit), ()), (), ()), false)
 else none
 else
 bif decide ((0 : Int) ≤ 0 ∧ 0 < (List.length t0 : Int)) then
 bif decide (0 < List.length t0) then
 bif eqL y then
 some (((y, z, zR0, ()), (), ()), ((List.getD t0 0 (dflt (.int .u8))) == (1 : Int)))
 else none
 else none
 else none
 else
 orK (E := (Unit) × (((List (Int)) × ((Int) × (((Bool) × (((Int) × ((Int) × (Unit))) × (Unit))) × (Unit)))) × (Unit)))
 (orK (E := ((Bool) × (Unit)) × (Unit))
 (bif (((List.length t0) : Int) == (1 : Int)) then
 bif decide ((0 : Int) ≤ 0 ∧ 0 < (List.length t0 : Int)) then
 bif decide (0 < List.length t0) then
 some (.inl ((decide ((List.getD t0 0 (dflt (.int .u8))) > (1 : Int)), ()), ()))
 else none
 else none
 else
 some (.inl ((false, ()), ())))
 fun ⟨⟨q, _⟩, _⟩ =>
 bif q then
 bif eqL m0 then
 Option.bind (p43_2 fu ((m0, n0, zR0, ()), c, (16 : Int), ())) fun ⟨⟨⟨a1, c1, ⟨f1, ⟨h1, i1, _⟩, _⟩, _⟩, _, _⟩, _⟩ =>
 bif f1 then
 bif eqL a1 then
 some (.inl ((), ((a1, c1, (true, (h1, i1, ()), dflt .unit), ()), ())))
 else none
 else
 bif eqL a1 then
 some (.inl ((), ((a1, c1, zR0, ()), ())))
 else none
 else none
 else
 bif eqL m0 then
 some (.inl ((), ((m0, n0, zR0, ()), ())))
 else none)
 fun ⟨_, ⟨⟨y, z, ⟨a0, ⟨c0, f0, _⟩, _⟩, _⟩, _⟩⟩ =>
 bif a0 then
 bif eqL y then
 some (((y, z, (true, (c0, f0, ()), dflt .unit), ()), (), ()), false)
 else none
 else
 bif decide ((0 : Int) ≤ 0 ∧ 0 < (List.length t0 : Int)) then
 bif decide (0 < List.length t0) then
 bif eqL y then
 some (((y, z, zR0, ()), (), ()), ((List.getD t0 0 (dflt (.int .u8))) == (1 : Int)))
 else none
 else none
 else none
 else none
def e18_2 (fu : Nat) : Ent := ⟨18, (.cons Y3 .nil), (.cons Y0 (.cons .dead .nil)), (.hole .bool), p18_2 fu⟩
def d18_2 (fu : Nat) : DC := (.seq (.region [opD 2 (.mov (.const vB))] [[]] false) (.seq (.region [mvD 5 0, opD 6 (.pure .nilc [(tD 5)]), opD 7 (.faddr 1 (tD 6)), opD 8 (.load false 1 (tD 7)), mvD 3 8] [[], [0], [1], [2], [3, 0, 1, 2, 3]] false) (.seq (.region [mvD 9 0, oqD 10 (.call 45 [(tD 9), (cD 1)]) (.ent (e45_2 fu)), mvD 4 10] [[], [0], [1, 1, 0, 1]] false) (.join ⟨[], .nil, [(0, 95, 3)], (.cons Y0 .nil), [0, 4], [1, 117]⟩
 (.join ⟨[19], (.cons (.hole .bool) .nil), [], .nil, [0, 3, 4], [0, 1, 116, 117]⟩
 (.region [mvD 11 4, opD 12 (.len false (tD 11)), opD 13 (.bin .eql (tD 12) (cD 1)), mvD 14 13, ogD 15 14 true (.mov (tD 4)), ogD 16 14 true (.iaddr 1 (tD 15) (cD 0)), ogD 17 14 true (.load false 1 (tD 16)), ogD 18 14 true (.bin .gtr (tD 17) (.const (.int .u8 1))), opD 19 (.pick (tD 14) (tD 18) (.const vB))] [[], [0], [1], [2], [3], [4, 3], [5, 3], [6, 3], [3, 7]] false)
 (.cond (.tmp 19) (.region [mvD 20 0, mvD 21 3, oqD 22 (.call 43 [(tD 20), (tD 21), (cD 16)]) (.ent (e43_2 fu))] [[], [], [0, 1]] false) .skip))
 (.seq (.region [mvD 23 0, opD 24 (.pure .nilc [(tD 23)]), opD 25 (.faddr 2 (tD 24)), opD 26 (.load false 1 (tD 25)), opD 27 (.pure (.nilq 1 false) [(tD 26)]), mvD 28 27, ogD 29 28 true (.mov (tD 4)), ogD 30 28 true (.iaddr 1 (tD 29) (cD 0)), ogD 31 28 true (.load false 1 (tD 30)), ogD 32 28 true (.bin .eql (tD 31) (.const (.int .u8 1))), opD 33 (.pick (tD 28) (tD 32) (.const vB)), mvD 2 33] [[], [0], [1], [2], [3], [4], [5], [6, 5], [7, 5], [8, 5], [5, 9], [10, 5, 0, 1, 2, 3, 4, 5, 6, 7, 8, 9, 10]] false) .ret)))))
set_option maxRecDepth 1000000 in
theorem v18_2 (fu : Nat) : evF fu (d18_2 fu) rs18 34 (e18_2 fu).ash (e18_2 fu).osh (e18_2 fu).vsh = p18_2 fu := by kernel_rfl
set_option maxRecDepth 1000000 in
theorem b18_2 (fu : Nat) : BodyD Tryd.prog 18 34 (d18_2 fu).erase rs18 := bodyD_mk Tryd.func18 (by kernel_rfl) (by kernel_rfl) (by kernel_rfl) (by kernel_rfl)
theorem g18_2 (fu : Nat) : (e18_2 fu).Good Tryd.prog := good_by orders (b18_2 fu) (l := [e45_2 fu, e43_2 fu]) (by kernel_rfl) ⟨g45_2 fu, g43_2 fu, trivial⟩ (by kernel_rfl) (v18_2 fu)
end Go.Proofs.YtfhdpeceppafiaaDoor
