/-
  The functions, typed.
-/
import Derived.Test.YtfhdpeceppafiaaDoorAsE
import Derived.Test.YtfhdpeceppafiaaDoorDaL
import Derived.Test.YtfhdpeceppafiaaDoorRows
namespace Go.Proofs.YtfhdpeceppafiaaDoor
open Go.RowKit
abbrev T_runtime_errorAddressString : Tp := (.pair .str (.int .u64))
abbrev D_runtime_errorAddressString := (ByteArray) × (Int)
abbrev T_api_Range : Tp := (.pair .str .str)
abbrev D_api_Range := (ByteArray) × (ByteArray)
abbrev T_gazettelaw01_Step : Tp := (.pair (.int .i64) (.int .i64))
abbrev D_gazettelaw01_Step := (Int) × (Int)
abbrev T_reflectlite_ValueError : Tp := (.pair .str (.int .u8))
abbrev D_reflectlite_ValueError := (ByteArray) × (Int)
abbrev T_api_Conf : Tp := (.pair (.sl (.int .i64)) (.sl (.int .i64)))
abbrev D_api_Conf := (List (Int)) × (List (Int))
abbrev T_api_Hard : Tp := (.pair (.int .u64) (.pair (.int .i64) (.int .u64)))
abbrev D_api_Hard := (Int) × ((Int) × (Int))
abbrev T_runtime_boundsError : Tp := (.pair (.int .i64) (.pair (.int .i64) (.pair .bool (.int .u8))))
abbrev D_runtime_boundsError := (Int) × ((Int) × ((Bool) × (Int)))
abbrev T_gazetteref01_Reader : Tp := (.pair (.sl (.int .u8)) (.pair (.int .i64) T_gazettelaw01_Step))
abbrev D_gazetteref01_Reader := (List (Int)) × ((Int) × (D_gazettelaw01_Step))
abbrev T_abi_Method : Tp := (.pair (.int .i32) (.pair (.int .i32) (.pair (.int .i32) (.int .i32))))
abbrev D_abi_Method := (Int) × ((Int) × ((Int) × (Int)))
abbrev T_api_Record : Tp := (.pair (.int .u64) (.pair .str (.pair (.sl (.int .u8)) (.pair (.int .u64) (.int .u64)))))
abbrev D_api_Record := (Int) × ((ByteArray) × ((List (Int)) × ((Int) × (Int))))
abbrev T_abi_UncommonType : Tp := (.pair (.int .i32) (.pair (.int .u16) (.pair (.int .u16) (.pair (.int .u32) (.int .u32)))))
abbrev D_abi_UncommonType := (Int) × ((Int) × ((Int) × ((Int) × (Int))))
abbrev T_api_Snap : Tp := (.pair (.int .u64) (.pair (.int .u64) (.pair T_api_Conf (.sl (.int .u8)))))
abbrev D_api_Snap := (Int) × ((Int) × ((D_api_Conf) × (List (Int))))
abbrev T_api_Entry : Tp := (.pair (.int .u64) (.pair (.int .u64) (.pair (.int .i64) (.pair (.sl (.int .u8)) T_api_Conf))))
abbrev D_api_Entry := (Int) × ((Int) × ((Int) × ((List (Int)) × (D_api_Conf))))
abbrev T_api_Item : Tp := (.pair (.int .i64) (.pair (.int .u64) (.pair T_api_Entry (.pair T_api_Hard (.pair (.int .u64) T_api_Snap)))))
abbrev D_api_Item := (Int) × ((Int) × ((D_api_Entry) × ((D_api_Hard) × ((Int) × (D_api_Snap)))))
abbrev T_gazettelaw01_Thing : Tp := (.pair (.int .i64) (.pair (.int .u64) (.pair (.int .i64) (.pair .bool (.pair (.sl (.int .u8)) (.pair T_api_Conf (.pair T_api_Entry (.pair T_api_Snap (.pair T_api_Range T_api_Record)))))))))
abbrev D_gazettelaw01_Thing := (Int) × ((Int) × ((Int) × ((Bool) × ((List (Int)) × ((D_api_Conf) × ((D_api_Entry) × ((D_api_Snap) × ((D_api_Range) × (D_api_Record)))))))))
theorem orders : Tryd.prog.follows .mixedOrders = true := by kernel_rfl
abbrev Y0 : Sh := (.agg 3 (.cons (.hole (.sl (.int .u8))) (.cons (.hole (.int .i64)) (.cons (.alt (.ifc 99 (.look (.cons (.hole (.int .i64)) (.cons (.hole (.int .i64)) .nil)))) (.nilv 1)) .nil))))
abbrev Y1 : Sh := (.box 95 3 (.cons (.hole (.sl (.int .u8))) (.cons (.hole (.int .i64)) (.cons (.alt (.ifc 99 (.look (.cons (.hole (.int .i64)) (.cons (.hole (.int .i64)) .nil)))) (.nilv 1)) .nil))))
def rs34 : List RVx := []
/-- (*gazette/codec.Writer).Uint -/
def p34 (fu : Nat) : ((Unit) × (Unit)) × ((Int) × (Unit)) → Option ((((List (Int)) × (Unit)) × (Unit)) × (Unit)) := fun ⟨⟨_, _⟩, a, _⟩ =>
loopO (S := ((Int) × (Unit)) × (((List (Int)) × (Unit)) × (Unit))) fu (fun ⟨⟨c, _⟩, ⟨⟨f, _⟩, _⟩⟩ =>
 bif decide (c ≥ (128 : Int)) then
 bif decide (List.length f = List.length f) then
 bif decide (List.length f + List.length ([IntKind.wrap .u8 ((BitVec.ofInt (IntKind.bits .u8) (IntKind.wrap .u8 c) ||| BitVec.ofInt (IntKind.bits .u8) (128 : Int)).toNat : Int)]) ≤ maxLen ∧ (List.length f + List.length ([IntKind.wrap .u8 ((BitVec.ofInt (IntKind.bits .u8) (IntKind.wrap .u8 c) ||| BitVec.ofInt (IntKind.bits .u8) (128 : Int)).toNat : Int)])) * 1 ≤ 140737488355328) then
 bif decide (List.length (f ++ [IntKind.wrap .u8 ((BitVec.ofInt (IntKind.bits .u8) (IntKind.wrap .u8 c) ||| BitVec.ofInt (IntKind.bits .u8) (128 : Int)).toNat : Int)]) = List.length (f ++ [IntKind.wrap .u8 ((BitVec.ofInt (IntKind.bits .u8) (IntKind.wrap .u8 c) ||| BitVec.ofInt (IntKind.bits .u8) (128 : Int)).toNat : Int)])) then
 some (.inl ((Int.fdiv c (2 ^ (min (Int.toNat (7 : Int)) (IntKind.bits .u64))), ()), (((f ++ [IntKind.wrap .u8 ((BitVec.ofInt (IntKind.bits .u8) (IntKind.wrap .u8 c) ||| BitVec.ofInt (IntKind.bits .u8) (128 : Int)).toNat : Int)]), ()), ())))
 else none
 else none
 else none
 else
 inrO (bif decide (List.length f = List.length f) then
 bif decide (List.length f + List.length ([IntKind.wrap .u8 c]) ≤ maxLen ∧ (List.length f + List.length ([IntKind.wrap .u8 c])) * 1 ≤ 140737488355328) then
 bif decide (List.length (f ++ [IntKind.wrap .u8 c]) = List.length (f ++ [IntKind.wrap .u8 c])) then
 some ((((f ++ [IntKind.wrap .u8 c]), ()), ()), ())
 else none
 else none
 else none))
 ((a, ()), (([], ()), ()))
def e34 (fu : Nat) : Ent := ⟨34, (.cons (.box 60 1 (.cons .nils .nil)) (.cons (.hole (.int .u64)) .nil)), (.cons (.agg 1 (.cons (.own .own 5 (.int .u8)) .nil)) .nil), (.tup 0 .nil), p34 fu⟩
def d34 (_ : Nat) : DC := (.seq (.block 0 (.loop ⟨[1], (.cons (.hole (.int .u64)) .nil), [(0, 60, 1)], (.cons (.agg 1 (.cons (.own .own 5 (.int .u8)) .nil)) .nil), [0], []⟩
 (.seq (.seq (.region [mvD 4 1, opD 5 (.bin .geq (tD 4) (.const (.int .u64 128)))] [[], [0]] false) (.cond (.tmp 5) .skip (.exit 0))) (.block 1 (.seq (.region [mvD 6 0, mvD 7 0, opD 8 (.pure .nilc [(tD 7)]), opD 9 (.faddr 0 (tD 8)), opD 10 (.load false 1 (tD 9)), mvD 11 1, opD 12 (.conv .u8 (tD 11)), opD 13 (.bin .or (tD 12) (.const (.int .u8 128))), oqD 14 (.bslice 5 1 1 [(.int .u8 0)] [(0, (tD 13))]) (.ty (.int .u8)), oqD 15 (.app 5 1 [(.int .u8 0)] 1 (tD 10) (tD 14)) (.ty (.int .u8)), opD 16 (.pure .nilc [(tD 6)]), opD 17 (.faddr 0 (tD 16)), onD (.store 1 (tD 17) (tD 15))] [[], [], [1], [2], [3], [], [5], [6], [7], [4, 8], [0, 0, 1, 2, 3, 4, 5, 6, 7, 8, 9], [10, 0, 1, 2, 3, 4, 5, 6, 7, 8, 9], [11, 9, 9, 0, 1, 2, 3, 4, 5, 6, 7, 8, 9]] false) (.region [mvD 18 1, opD 19 (.bin .shr (tD 18) (.const (.int .u64 7))), mvD 1 19] [[], [0], [1, 0, 1]] false)))))) (.region [mvD 20 0, mvD 21 0, opD 22 (.pure .nilc [(tD 21)]), opD 23 (.faddr 0 (tD 22)), opD 24 (.load false 1 (tD 23)), mvD 25 1, opD 26 (.conv .u8 (tD 25)), oqD 27 (.bslice 5 1 1 [(.int .u8 0)] [(0, (tD 26))]) (.ty (.int .u8)), oqD 28 (.app 5 1 [(.int .u8 0)] 1 (tD 24) (tD 27)) (.ty (.int .u8)), opD 29 (.pure .nilc [(tD 20)]), opD 30 (.faddr 0 (tD 29)), onD (.store 1 (tD 30) (tD 28))] [[], [], [1], [2], [3], [], [5], [6], [4, 7], [0, 0, 1, 2, 3, 4, 5, 6, 7, 8], [9, 0, 1, 2, 3, 4, 5, 6, 7, 8], [10, 8, 8, 0, 1, 2, 3, 4, 5, 6, 7, 8]] false))
set_option maxRecDepth 1000000 in
theorem v34 (fu : Nat) : evF fu (d34 fu) rs34 31 (e34 fu).ash (e34 fu).osh (e34 fu).vsh = p34 fu := by kernel_rfl
set_option maxRecDepth 1000000 in
theorem b34 (fu : Nat) : BodyD Tryd.prog 34 31 (d34 fu).erase rs34 := bodyD_mk Tryd.func34 (by kernel_rfl) (by kernel_rfl) (by kernel_rfl) (by kernel_rfl)
theorem g34 (fu : Nat) : (e34 fu).Good Tryd.prog := good_by orders (b34 fu) (l := []) (by kernel_rfl) trivial (by kernel_rfl) (v34 fu)
/-- (*gazette/codec.Writer).Uint -/
def p34_1 (fu : Nat) : ((List (Int)) × (Unit)) × ((Int) × (Unit)) → Option ((((List (Int)) × (Unit)) × ((Unit) × (Unit))) × (Unit)) := fun ⟨⟨a, _⟩, c, _⟩ =>
bif decide (List.length a = List.length a) then
 loopO (S := ((Int) × (Unit)) × (((List (Int)) × (Unit)) × (Unit))) fu (fun ⟨⟨f, _⟩, ⟨⟨h, _⟩, _⟩⟩ =>
 bif decide (f ≥ (128 : Int)) then
 bif decide (List.length h = List.length h) then
 bif decide (List.length h + List.length ([IntKind.wrap .u8 ((BitVec.ofInt (IntKind.bits .u8) (IntKind.wrap .u8 f) ||| BitVec.ofInt (IntKind.bits .u8) (128 : Int)).toNat : Int)]) ≤ maxLen ∧ (List.length h + List.length ([IntKind.wrap .u8 ((BitVec.ofInt (IntKind.bits .u8) (IntKind.wrap .u8 f) ||| BitVec.ofInt (IntKind.bits .u8) (128 : Int)).toNat : Int)])) * 1 ≤ 140737488355328) then
 bif decide (List.length (h ++ [IntKind.wrap .u8 ((BitVec.ofInt (IntKind.bits .u8) (IntKind.wrap .u8 f) ||| BitVec.ofInt (IntKind.bits .u8) (128 : Int)).toNat : Int)]) = List.length (h ++ [IntKind.wrap .u8 ((BitVec.ofInt (IntKind.bits .u8) (IntKind.wrap .u8 f) ||| BitVec.ofInt (IntKind.bits .u8) (128 : Int)).toNat : Int)])) then
 some (.inl ((Int.fdiv f (2 ^ (min (Int.toNat (7 : Int)) (IntKind.bits .u64))), ()), (((h ++ [IntKind.wrap .u8 ((BitVec.ofInt (IntKind.bits .u8) (IntKind.wrap .u8 f) ||| BitVec.ofInt (IntKind.bits .u8) (128 : Int)).toNat : Int)]), ()), ())))
 else none
 else none
 else none
 else
 inrO (bif decide (List.length h = List.length h) then
 bif decide (List.length h + List.length ([IntKind.wrap .u8 f]) ≤ maxLen ∧ (List.length h + List.length ([IntKind.wrap .u8 f])) * 1 ≤ 140737488355328) then
 bif decide (List.length (h ++ [IntKind.wrap .u8 f]) = List.length (h ++ [IntKind.wrap .u8 f])) then
 some ((((h ++ [IntKind.wrap .u8 f]), ()), (), ()), ())
 else none
 else none
 else none))
 ((c, ()), ((a, ()), ()))
else none
def e34_1 (fu : Nat) : Ent := ⟨34, (.cons (.box 60 1 (.cons (.own .own 5 (.int .u8)) .nil)) (.cons (.hole (.int .u64)) .nil)), (.cons (.agg 1 (.cons (.own .own 5 (.int .u8)) .nil)) (.cons .dead .nil)), (.tup 0 .nil), p34_1 fu⟩
def d34_1 (_ : Nat) : DC := (.seq (.block 0 (.loop ⟨[1], (.cons (.hole (.int .u64)) .nil), [(0, 60, 1)], (.cons (.agg 1 (.cons (.own .own 5 (.int .u8)) .nil)) .nil), [0], [1]⟩
 (.seq (.seq (.region [mvD 4 1, opD 5 (.bin .geq (tD 4) (.const (.int .u64 128)))] [[], [0]] false) (.cond (.tmp 5) .skip (.exit 0))) (.block 1 (.seq (.region [mvD 6 0, mvD 7 0, opD 8 (.pure .nilc [(tD 7)]), opD 9 (.faddr 0 (tD 8)), opD 10 (.load false 1 (tD 9)), mvD 11 1, opD 12 (.conv .u8 (tD 11)), opD 13 (.bin .or (tD 12) (.const (.int .u8 128))), oqD 14 (.bslice 5 1 1 [(.int .u8 0)] [(0, (tD 13))]) (.ty (.int .u8)), oqD 15 (.app 5 1 [(.int .u8 0)] 1 (tD 10) (tD 14)) (.ty (.int .u8)), opD 16 (.pure .nilc [(tD 6)]), opD 17 (.faddr 0 (tD 16)), onD (.store 1 (tD 17) (tD 15))] [[], [], [1], [2], [3], [], [5], [6], [7], [4, 8], [0, 0, 1, 2, 3, 4, 5, 6, 7, 8, 9], [10, 0, 1, 2, 3, 4, 5, 6, 7, 8, 9], [11, 9, 9, 0, 1, 2, 3, 4, 5, 6, 7, 8, 9]] false) (.region [mvD 18 1, opD 19 (.bin .shr (tD 18) (.const (.int .u64 7))), mvD 1 19] [[], [0], [1, 0, 1]] false)))))) (.region [mvD 20 0, mvD 21 0, opD 22 (.pure .nilc [(tD 21)]), opD 23 (.faddr 0 (tD 22)), opD 24 (.load false 1 (tD 23)), mvD 25 1, opD 26 (.conv .u8 (tD 25)), oqD 27 (.bslice 5 1 1 [(.int .u8 0)] [(0, (tD 26))]) (.ty (.int .u8)), oqD 28 (.app 5 1 [(.int .u8 0)] 1 (tD 24) (tD 27)) (.ty (.int .u8)), opD 29 (.pure .nilc [(tD 20)]), opD 30 (.faddr 0 (tD 29)), onD (.store 1 (tD 30) (tD 28))] [[], [], [1], [2], [3], [], [5], [6], [4, 7], [0, 0, 1, 2, 3, 4, 5, 6, 7, 8], [9, 0, 1, 2, 3, 4, 5, 6, 7, 8], [10, 8, 8, 0, 1, 2, 3, 4, 5, 6, 7, 8]] false))
set_option maxRecDepth 1000000 in
theorem v34_1 (fu : Nat) : evF fu (d34_1 fu) rs34 31 (e34_1 fu).ash (e34_1 fu).osh (e34_1 fu).vsh = p34_1 fu := by kernel_rfl
set_option maxRecDepth 1000000 in
theorem b34_1 (fu : Nat) : BodyD Tryd.prog 34 31 (d34_1 fu).erase rs34 := bodyD_mk Tryd.func34 (by kernel_rfl) (by kernel_rfl) (by kernel_rfl) (by kernel_rfl)
theorem g34_1 (fu : Nat) : (e34_1 fu).Good Tryd.prog := good_by orders (b34_1 fu) (l := []) (by kernel_rfl) trivial (by kernel_rfl) (v34_1 fu)
def rs35 : List RVx := []
/-- (*gazette/codec.Writer).String -/
def p35 (fu : Nat) : ((List (Int)) × (Unit)) × ((ByteArray) × (Unit)) → Option ((((List (Int)) × (Unit)) × ((Unit) × (Unit))) × (Unit)) := fun ⟨⟨a, _⟩, c, _⟩ =>
bif decide (List.length a = List.length a) then
 Option.bind (p34_1 fu ((a, ()), IntKind.wrap .u64 (ByteArray.size c : Int), ())) fun ⟨⟨⟨f, _⟩, _, _⟩, _⟩ =>
 bif decide (List.length f = List.length f) then
 bif decide (List.length f + ByteArray.size c ≤ maxLen ∧ List.length f + ByteArray.size c ≤ 140737488355328) then
 bif decide (List.length (f ++ numsOf c) = List.length (f ++ numsOf c)) then
 some ((((f ++ numsOf c), ()), (), ()), ())
 else none
 else none
 else none
else none
def e35 (fu : Nat) : Ent := ⟨35, (.cons (.box 60 1 (.cons (.own .own 5 (.int .u8)) .nil)) (.cons (.hole .str) .nil)), (.cons (.agg 1 (.cons (.own .own 5 (.int .u8)) .nil)) (.cons .dead .nil)), (.tup 0 .nil), p35 fu⟩
def d35 (fu : Nat) : DC := (.seq (.region [mvD 4 0, mvD 5 1, opD 6 (.len true (tD 5)), opD 7 (.conv .u64 (tD 6)), oqD 8 (.call 34 [(tD 4), (tD 7)]) (.ent (e34_1 fu))] [[], [], [1], [2], [0, 3]] false) (.region [mvD 9 0, mvD 10 0, opD 11 (.pure .nilc [(tD 10)]), opD 12 (.faddr 0 (tD 11)), opD 13 (.load false 1 (tD 12)), mvD 14 1, opD 15 (.apps 5 (tD 13) (tD 14)), opD 16 (.pure .nilc [(tD 9)]), opD 17 (.faddr 0 (tD 16)), onD (.store 1 (tD 17) (tD 15))] [[], [], [1], [2], [3], [], [4, 5], [0, 0, 1, 2, 3, 4, 5, 6], [7, 0, 1, 2, 3, 4, 5, 6], [8, 6, 6, 0, 1, 2, 3, 4, 5, 6]] false))
set_option maxRecDepth 1000000 in
theorem v35 (fu : Nat) : evF fu (d35 fu) rs35 18 (e35 fu).ash (e35 fu).osh (e35 fu).vsh = p35 fu := by kernel_rfl
set_option maxRecDepth 1000000 in
theorem b35 (fu : Nat) : BodyD Tryd.prog 35 18 (d35 fu).erase rs35 := bodyD_mk Tryd.func35 (by kernel_rfl) (by kernel_rfl) (by kernel_rfl) (by kernel_rfl)
theorem g35 (fu : Nat) : (e35 fu).Good Tryd.prog := good_by orders (b35 fu) (l := [e34_1 fu]) (by kernel_rfl) ⟨g34_1 fu, trivial⟩ (by kernel_rfl) (v35 fu)
def rs27 : List RVx := [(.tmp 2)]
/-- (*gazette/codec.Writer).Done -/
def p27 (_ : Nat) : ((List (Int)) × (Unit)) × (Unit) → Option ((Unit) × (List (Int))) := fun ⟨⟨a, _⟩, _⟩ =>
bif decide (List.length a ≤ maxLen ∧ List.length a * 1 ≤ 140737488355328) then
 bif decide (List.length a = List.length a) then
 some ((), a)
 else none
else none
def e27 (fu : Nat) : Ent := ⟨27, (.cons (.look (.cons (.hole (.sl (.int .u8))) .nil)) .nil), .nil, (.own .own 5 (.int .u8)), p27 fu⟩
def d27 (_ : Nat) : DC := (.seq (.region [opD 2 (.mov (.const vS))] [[]] false) (.seq (.region [mvD 3 0, opD 4 (.pure .nilc [(tD 3)]), opD 5 (.faddr 0 (tD 4)), opD 6 (.load false 1 (tD 5)), oqD 7 (.app 5 1 [(.int .u8 0)] 1 (.const vS) (tD 6)) (.ty (.int .u8)), mvD 2 7] [[], [0], [1], [2], [3], [4, 4, 0, 1, 2, 3, 4]] false) .ret))
set_option maxRecDepth 1000000 in
theorem v27 (fu : Nat) : evF fu (d27 fu) rs27 8 (e27 fu).ash (e27 fu).osh (e27 fu).vsh = p27 fu := by kernel_rfl
set_option maxRecDepth 1000000 in
theorem b27 (fu : Nat) : BodyD Tryd.prog 27 8 (d27 fu).erase rs27 := bodyD_mk Tryd.func27 (by kernel_rfl) (by kernel_rfl) (by kernel_rfl) (by kernel_rfl)
theorem g27 (fu : Nat) : (e27 fu).Good Tryd.prog := good_by orders (b27 fu) (l := []) (by kernel_rfl) trivial (by kernel_rfl) (v27 fu)
def rs24 : List RVx := [(.tmp 2)]
/-- gazette/codec.Sum -/
def p24 (fu : Nat) : (List (Int)) × (Unit) → Option ((Unit) × (Int)) := fun ⟨a, _⟩ =>
loopO (S := ((Int) × ((Int) × (Unit))) × (Unit)) fu (fun ⟨⟨c, f, _⟩, _⟩ =>
 bif decide (f < (List.length a : Int)) then
 bif decide ((0 : Int) ≤ f ∧ f < (List.length a : Int)) then
 bif decide (Int.toNat f < List.length a) then
 bif decide ((0 : Int) ≤ IntKind.wrap .u32 ((BitVec.ofInt (IntKind.bits .u32) (IntKind.wrap .u32 ((BitVec.ofInt (IntKind.bits .u32) c ^^^ BitVec.ofInt (IntKind.bits .u32) (IntKind.wrap .u32 (List.getD a (Int.toNat f) (dflt (.int .u8))))).toNat : Int)) &&& BitVec.ofInt (IntKind.bits .u32) (15 : Int)).toNat : Int) ∧ IntKind.wrap .u32 ((BitVec.ofInt (IntKind.bits .u32) (IntKind.wrap .u32 ((BitVec.ofInt (IntKind.bits .u32) c ^^^ BitVec.ofInt (IntKind.bits .u32) (IntKind.wrap .u32 (List.getD a (Int.toNat f) (dflt (.int .u8))))).toNat : Int)) &&& BitVec.ofInt (IntKind.bits .u32) (15 : Int)).toNat : Int) < (16 : Int) ∧ List.length gl0 = 16) then
 bif decide (Int.toNat (IntKind.wrap .u32 ((BitVec.ofInt (IntKind.bits .u32) (IntKind.wrap .u32 ((BitVec.ofInt (IntKind.bits .u32) c ^^^ BitVec.ofInt (IntKind.bits .u32) (IntKind.wrap .u32 (List.getD a (Int.toNat f) (dflt (.int .u8))))).toNat : Int)) &&& BitVec.ofInt (IntKind.bits .u32) (15 : Int)).toNat : Int)) < List.length gl0) then
 bif decide ((0 : Int) ≤ IntKind.wrap .u32 ((BitVec.ofInt (IntKind.bits .u32) (IntKind.wrap .u32 ((BitVec.ofInt (IntKind.bits .u32) (Int.fdiv (IntKind.wrap .u32 ((BitVec.ofInt (IntKind.bits .u32) c ^^^ BitVec.ofInt (IntKind.bits .u32) (IntKind.wrap .u32 (List.getD a (Int.toNat f) (dflt (.int .u8))))).toNat : Int)) (2 ^ (min (Int.toNat (4 : Int)) (IntKind.bits .u32)))) ^^^ BitVec.ofInt (IntKind.bits .u32) (List.getD gl0 (Int.toNat (IntKind.wrap .u32 ((BitVec.ofInt (IntKind.bits .u32) (IntKind.wrap .u32 ((BitVec.ofInt (IntKind.bits .u32) c ^^^ BitVec.ofInt (IntKind.bits .u32) (IntKind.wrap .u32 (List.getD a (Int.toNat f) (dflt (.int .u8))))).toNat : Int)) &&& BitVec.ofInt (IntKind.bits .u32) (15 : Int)).toNat : Int))) (dflt (.int .u32)))).toNat : Int)) &&& BitVec.ofInt (IntKind.bits .u32) (15 : Int)).toNat : Int) ∧ IntKind.wrap .u32 ((BitVec.ofInt (IntKind.bits .u32) (IntKind.wrap .u32 ((BitVec.ofInt (IntKind.bits .u32) (Int.fdiv (IntKind.wrap .u32 ((BitVec.ofInt (IntKind.bits .u32) c ^^^ BitVec.ofInt (IntKind.bits .u32) (IntKind.wrap .u32 (List.getD a (Int.toNat f) (dflt (.int .u8))))).toNat : Int)) (2 ^ (min (Int.toNat (4 : Int)) (IntKind.bits .u32)))) ^^^ BitVec.ofInt (IntKind.bits .u32) (List.getD gl0 (Int.toNat (IntKind.wrap .u32 ((BitVec.ofInt (IntKind.bits .u32) (IntKind.wrap .u32 ((BitVec.ofInt (IntKind.bits .u32) c ^^^ BitVec.ofInt (IntKind.bits .u32) (IntKind.wrap .u32 (List.getD a (Int.toNat f) (dflt (.int .u8))))).toNat : Int)) &&& BitVec.ofInt (IntKind.bits .u32) (15 : Int)).toNat : Int))) (dflt (.int .u32)))).toNat : Int)) &&& BitVec.ofInt (IntKind.bits .u32) (15 : Int)).toNat : Int) < (16 : Int) ∧ List.length gl0 = 16) then
 bif decide (Int.toNat (IntKind.wrap .u32 ((BitVec.ofInt (IntKind.bits .u32) (IntKind.wrap .u32 ((BitVec.ofInt (IntKind.bits .u32) (Int.fdiv (IntKind.wrap .u32 ((BitVec.ofInt (IntKind.bits .u32) c ^^^ BitVec.ofInt (IntKind.bits .u32) (IntKind.wrap .u32 (List.getD a (Int.toNat f) (dflt (.int .u8))))).toNat : Int)) (2 ^ (min (Int.toNat (4 : Int)) (IntKind.bits .u32)))) ^^^ BitVec.ofInt (IntKind.bits .u32) (List.getD gl0 (Int.toNat (IntKind.wrap .u32 ((BitVec.ofInt (IntKind.bits .u32) (IntKind.wrap .u32 ((BitVec.ofInt (IntKind.bits .u32) c ^^^ BitVec.ofInt (IntKind.bits .u32) (IntKind.wrap .u32 (List.getD a (Int.toNat f) (dflt (.int .u8))))).toNat : Int)) &&& BitVec.ofInt (IntKind.bits .u32) (15 : Int)).toNat : Int))) (dflt (.int .u32)))).toNat : Int)) &&& BitVec.ofInt (IntKind.bits .u32) (15 : Int)).toNat : Int)) < List.length gl0) then
 some (.inl ((IntKind.wrap .u32 ((BitVec.ofInt (IntKind.bits .u32) (Int.fdiv (IntKind.wrap .u32 ((BitVec.ofInt (IntKind.bits .u32) (Int.fdiv (IntKind.wrap .u32 ((BitVec.ofInt (IntKind.bits .u32) c ^^^ BitVec.ofInt (IntKind.bits .u32) (IntKind.wrap .u32 (List.getD a (Int.toNat f) (dflt (.int .u8))))).toNat : Int)) (2 ^ (min (Int.toNat (4 : Int)) (IntKind.bits .u32)))) ^^^ BitVec.ofInt (IntKind.bits .u32) (List.getD gl0 (Int.toNat (IntKind.wrap .u32 ((BitVec.ofInt (IntKind.bits .u32) (IntKind.wrap .u32 ((BitVec.ofInt (IntKind.bits .u32) c ^^^ BitVec.ofInt (IntKind.bits .u32) (IntKind.wrap .u32 (List.getD a (Int.toNat f) (dflt (.int .u8))))).toNat : Int)) &&& BitVec.ofInt (IntKind.bits .u32) (15 : Int)).toNat : Int))) (dflt (.int .u32)))).toNat : Int)) (2 ^ (min (Int.toNat (4 : Int)) (IntKind.bits .u32)))) ^^^ BitVec.ofInt (IntKind.bits .u32) (List.getD gl0 (Int.toNat (IntKind.wrap .u32 ((BitVec.ofInt (IntKind.bits .u32) (IntKind.wrap .u32 ((BitVec.ofInt (IntKind.bits .u32) (Int.fdiv (IntKind.wrap .u32 ((BitVec.ofInt (IntKind.bits .u32) c ^^^ BitVec.ofInt (IntKind.bits .u32) (IntKind.wrap .u32 (List.getD a (Int.toNat f) (dflt (.int .u8))))).toNat : Int)) (2 ^ (min (Int.toNat (4 : Int)) (IntKind.bits .u32)))) ^^^ BitVec.ofInt (IntKind.bits .u32) (List.getD gl0 (Int.toNat (IntKind.wrap .u32 ((BitVec.ofInt (IntKind.bits .u32) (IntKind.wrap .u32 ((BitVec.ofInt (IntKind.bits .u32) c ^^^ BitVec.ofInt (IntKind.bits .u32) (IntKind.wrap .u32 (List.getD a (Int.toNat f) (dflt (.int .u8))))).toNat : Int)) &&& BitVec.ofInt (IntKind.bits .u32) (15 : Int)).toNat : Int))) (dflt (.int .u32)))).toNat : Int)) &&& BitVec.ofInt (IntKind.bits .u32) (15 : Int)).toNat : Int))) (dflt (.int .u32)))).toNat : Int), IntKind.wrap .i64 (f + (1 : Int)), ()), ()))
 else none
 else none
 else none
 else none
 else none
 else none
 else
 inrO (some ((), IntKind.wrap .u32 ((BitVec.ofInt (IntKind.bits .u32) 4294967295 ^^^ BitVec.ofInt (IntKind.bits .u32) c).toNat : Int))))
 (((4294967295 : Int), (0 : Int), ()), ())
def e24 (fu : Nat) : Ent := ⟨24, (.cons (.hole (.sl (.int .u8))) .nil), .nil, (.hole (.int .u32)), p24 fu⟩
def d24 (_ : Nat) : DC := (.seq (.region [opD 2 (.mov (.const (.int .u32 0)))] [[]] false) (.seq (.region [opD 3 (.mov (.const (.int .u32 4294967295)))] [[]] false) (.seq (.seq (.region [mvD 6 0, opD 7 (.len false (tD 6)), opD 8 (.mov (cD 0))] [[], [0], []] false) (.block 0 (.loop ⟨[3, 8], (.cons (.hole (.int .u32)) (.cons (.hole (.int .i64)) .nil)), [], .nil, [6, 7], []⟩
 (.seq (.region [opD 9 (.bin .lss (tD 8) (tD 7))] [[]] false) (.seq (.cond (.tmp 9) .skip (.exit 0)) (.seq (.block 1 (.seq (.region [opD 10 (.iaddr 1 (tD 6) (tD 8)), opD 11 (.load false 1 (tD 10)), mvD 5 11] [[], [0], [1, 0, 1]] false) (.seq (.region [mvD 12 3, mvD 13 5, opD 14 (.conv .u32 (tD 13)), opD 15 (.bin .xor (tD 12) (tD 14)), mvD 3 15] [[], [], [1], [0, 2], [3, 0, 1, 2, 3]] false) (.seq (.region [mvD 16 3, opD 17 (.bin .shr (tD 16) (.const (.int .u64 4))), mvD 18 3, opD 19 (.bin .and (tD 18) (.const (.int .u32 15))), opD 20 (.pure (.gidx 16) [(.global 0), (tD 19)]), opD 21 (.load false 1 (tD 20)), opD 22 (.bin .xor (tD 17) (tD 21)), mvD 3 22] [[], [0], [], [2], [3], [4], [1, 5], [6, 0, 1, 2, 3, 4, 5, 6]] false) (.region [mvD 23 3, opD 24 (.bin .shr (tD 23) (.const (.int .u64 4))), mvD 25 3, opD 26 (.bin .and (tD 25) (.const (.int .u32 15))), opD 27 (.pure (.gidx 16) [(.global 0), (tD 26)]), opD 28 (.load false 1 (tD 27)), opD 29 (.bin .xor (tD 24) (tD 28)), mvD 3 29] [[], [0], [], [2], [3], [4], [1, 5], [6, 0, 1, 2, 3, 4, 5, 6]] false))))) (.region [opD 30 (.bin .add (tD 8) (cD 1)), mvD 8 30] [[], [0]] false))))))) (.seq (.region [mvD 31 3, opD 32 (.pure .com [(tD 31)]), mvD 2 32] [[], [0], [1, 0, 1]] false) .ret))))
set_option maxRecDepth 1000000 in
theorem v24 (fu : Nat) : evF fu (d24 fu) rs24 33 (e24 fu).ash (e24 fu).osh (e24 fu).vsh = p24 fu := by kernel_rfl
set_option maxRecDepth 1000000 in
theorem b24 (fu : Nat) : BodyD Tryd.prog 24 33 (d24 fu).erase rs24 := bodyD_mk Tryd.func24 (by kernel_rfl) (by kernel_rfl) (by kernel_rfl) (by kernel_rfl)
theorem g24 (fu : Nat) : (e24 fu).Good Tryd.prog := good_by orders (b24 fu) (l := []) (by kernel_rfl) trivial (by kernel_rfl) (v24 fu)
def rs11 : List RVx := [(.tmp 0)]
/-- gazette/gazettelaw01.lives -/
def p11 (fu : Nat) : Unit → Option ((Unit) × (Bool)) := fun _ =>
Option.bind (p34 fu (((), ()), (300 : Int), ())) fun ⟨⟨⟨a, _⟩, _⟩, _⟩ =>
bif decide (List.length a = List.length a) then
 Option.bind (p35 fu ((a, ()), (⟨#[97, 98]⟩ : ByteArray), ())) fun ⟨⟨⟨c, _⟩, _, _⟩, _⟩ =>
 bif decide (List.length c = List.length c) then
 Option.bind (p27 fu ((c, ()), ())) fun ⟨_, f⟩ =>
 bif decide (List.length f = List.length f) then
 bif ByteArray.toList (strOfNums f) == ByteArray.toList (⟨#[172, 2, 2, 97, 98]⟩ : ByteArray) then
 bif decide (9 = List.length ([(49 : Int), (50 : Int), (51 : Int), (52 : Int), (53 : Int), (54 : Int), (55 : Int), (56 : Int), (57 : Int)]) ∧ 0 < 9) then
 Option.bind (p24 fu ([(49 : Int), (50 : Int), (51 : Int), (52 : Int), (53 : Int), (54 : Int), (55 : Int), (56 : Int), (57 : Int)], ())) fun ⟨_, h⟩ =>
 some ((), (h == (3808858755 : Int)))
 else none
 else
 some ((), false)
 else none
 else none
else none
def e11 (fu : Nat) : Ent := ⟨11, .nil, .nil, (.hole .bool), p11 fu⟩
def d11 (fu : Nat) : DC := (.seq (.region [opD 0 (.mov (.const vB))] [[]] false) (.seq (.region [opD 2 (.build 1 [vS] []), opD 3 (.box 60 1 (tD 2)), mvD 1 3] [[], [0], [1, 0, 1]] false) (.seq (.region [mvD 4 1, oqD 5 (.call 34 [(tD 4), (.const (.int .u64 300))]) (.ent (e34 fu))] [[], [0]] false) (.seq (.region [mvD 6 1, oqD 7 (.call 35 [(tD 6), (.const (.string ⟨#[97, 98]⟩))]) (.ent (e35 fu))] [[], [0]] false) (.seq (.region [mvD 8 1, oqD 9 (.call 27 [(tD 8)]) (.ent (e27 fu)), opD 10 (.b2s (tD 9)), opD 11 (.bin .eql (tD 10) (.const (.string ⟨#[172, 2, 2, 97, 98]⟩))), mvD 12 11, (⟨(some 13), (some (12, true)), (.bslice 5 1 9 [(.int .u8 0)] [(0, (.const (.int .u8 49))), (1, (.const (.int .u8 50))), (2, (.const (.int .u8 51))), (3, (.const (.int .u8 52))), (4, (.const (.int .u8 53))), (5, (.const (.int .u8 54))), (6, (.const (.int .u8 55))), (7, (.const (.int .u8 56))), (8, (.const (.int .u8 57)))])⟩, (.ty (.int .u8))), ogD 14 12 true (.b2b (tD 13)), (⟨(some 15), (some (12, true)), (.call 24 [(tD 14)])⟩, (.ent (e24 fu))), ogD 16 12 true (.bin .eql (tD 15) (.const (.int .u32 3808858755))), opD 17 (.pick (tD 12) (tD 16) (.const vB)), mvD 0 17] [[], [0], [1], [2], [3, 1], [4], [5, 4], [6, 4, 4], [7, 4], [4, 8], [9, 7, 0, 1, 2, 3, 4, 5, 6, 7, 8, 9]] false) .ret)))))
set_option maxRecDepth 1000000 in
theorem v11 (fu : Nat) : evF fu (d11 fu) rs11 18 (e11 fu).ash (e11 fu).osh (e11 fu).vsh = p11 fu := by kernel_rfl
set_option maxRecDepth 1000000 in
theorem b11 (fu : Nat) : BodyD Tryd.prog 11 18 (d11 fu).erase rs11 := bodyD_mk Tryd.func11 (by kernel_rfl) (by kernel_rfl) (by kernel_rfl) (by kernel_rfl)
theorem g11 (fu : Nat) : (e11 fu).Good Tryd.prog := good_by orders (b11 fu) (l := [e34 fu, e35 fu, e27 fu, e24 fu]) (by kernel_rfl) ⟨g34 fu, g35 fu, g27 fu, g24 fu, trivial⟩ (by kernel_rfl) (v11 fu)
def rs36 : List RVx := []
/-- (*gazette/codec.Writer).Bytes -/
def p36 (fu : Nat) : ((Unit) × (Unit)) × ((List (Int)) × (Unit)) → Option ((((List (Int)) × (Unit)) × (Unit)) × (Unit)) := fun ⟨⟨_, _⟩, a, _⟩ =>
Option.bind (p34 fu (((), ()), IntKind.wrap .u64 (List.length a : Int), ())) fun ⟨⟨⟨c, _⟩, _⟩, _⟩ =>
bif decide (List.length c = List.length c) then
 bif decide (List.length c + List.length a ≤ maxLen ∧ (List.length c + List.length a) * 1 ≤ 140737488355328) then
 bif decide (List.length (c ++ a) = List.length (c ++ a)) then
 some ((((c ++ a), ()), ()), ())
 else none
 else none
else none
def e36 (fu : Nat) : Ent := ⟨36, (.cons (.box 60 1 (.cons .nils .nil)) (.cons (.hole (.sl (.int .u8))) .nil)), (.cons (.agg 1 (.cons (.own .own 5 (.int .u8)) .nil)) .nil), (.tup 0 .nil), p36 fu⟩
def d36 (fu : Nat) : DC := (.seq (.region [mvD 4 0, mvD 5 1, opD 6 (.len false (tD 5)), opD 7 (.conv .u64 (tD 6)), oqD 8 (.call 34 [(tD 4), (tD 7)]) (.ent (e34 fu))] [[], [], [1], [2], [0, 3]] false) (.region [mvD 9 0, mvD 10 0, opD 11 (.pure .nilc [(tD 10)]), opD 12 (.faddr 0 (tD 11)), opD 13 (.load false 1 (tD 12)), mvD 14 1, oqD 15 (.app 5 1 [(.int .u8 0)] 1 (tD 13) (tD 14)) (.ty (.int .u8)), opD 16 (.pure .nilc [(tD 9)]), opD 17 (.faddr 0 (tD 16)), onD (.store 1 (tD 17) (tD 15))] [[], [], [1], [2], [3], [], [4, 5], [0, 0, 1, 2, 3, 4, 5, 6], [7, 0, 1, 2, 3, 4, 5, 6], [8, 6, 6, 0, 1, 2, 3, 4, 5, 6]] false))
set_option maxRecDepth 1000000 in
theorem v36 (fu : Nat) : evF fu (d36 fu) rs36 18 (e36 fu).ash (e36 fu).osh (e36 fu).vsh = p36 fu := by kernel_rfl
set_option maxRecDepth 1000000 in
theorem b36 (fu : Nat) : BodyD Tryd.prog 36 18 (d36 fu).erase rs36 := bodyD_mk Tryd.func36 (by kernel_rfl) (by kernel_rfl) (by kernel_rfl) (by kernel_rfl)
theorem g36 (fu : Nat) : (e36 fu).Good Tryd.prog := good_by orders (b36 fu) (l := [e34 fu]) (by kernel_rfl) ⟨g34 fu, trivial⟩ (by kernel_rfl) (v36 fu)
def rs12 : List RVx := [(.tmp 2)]
/-- gazette/codec.Frame -/
def p12 (fu : Nat) : (List (Int)) × (Unit) → Option ((Unit) × (List (Int))) := fun ⟨a, _⟩ =>
Option.bind (p36 fu (((), ()), a, ())) fun ⟨⟨⟨c, _⟩, _⟩, _⟩ =>
Option.bind (p24 fu (a, ())) fun ⟨_, f⟩ =>
bif decide (List.length c = List.length c) then
 Option.bind (p27 fu ((c, ()), ())) fun ⟨_, h⟩ =>
 bif decide (List.length h = List.length h) then
 bif decide (List.length h + List.length ([IntKind.wrap .u8 f, IntKind.wrap .u8 (Int.fdiv f (2 ^ (min (Int.toNat (8 : Int)) (IntKind.bits .u32)))), IntKind.wrap .u8 (Int.fdiv f (2 ^ (min (Int.toNat (16 : Int)) (IntKind.bits .u32)))), IntKind.wrap .u8 (Int.fdiv f (2 ^ (min (Int.toNat (24 : Int)) (IntKind.bits .u32))))]) ≤ maxLen ∧ (List.length h + List.length ([IntKind.wrap .u8 f, IntKind.wrap .u8 (Int.fdiv f (2 ^ (min (Int.toNat (8 : Int)) (IntKind.bits .u32)))), IntKind.wrap .u8 (Int.fdiv f (2 ^ (min (Int.toNat (16 : Int)) (IntKind.bits .u32)))), IntKind.wrap .u8 (Int.fdiv f (2 ^ (min (Int.toNat (24 : Int)) (IntKind.bits .u32))))])) * 1 ≤ 140737488355328) then
 bif decide (List.length (h ++ [IntKind.wrap .u8 f, IntKind.wrap .u8 (Int.fdiv f (2 ^ (min (Int.toNat (8 : Int)) (IntKind.bits .u32)))), IntKind.wrap .u8 (Int.fdiv f (2 ^ (min (Int.toNat (16 : Int)) (IntKind.bits .u32)))), IntKind.wrap .u8 (Int.fdiv f (2 ^ (min (Int.toNat (24 : Int)) (IntKind.bits .u32))))]) = List.length (h ++ [IntKind.wrap .u8 f, IntKind.wrap .u8 (Int.fdiv f (2 ^ (min (Int.toNat (8 : Int)) (IntKind.bits .u32)))), IntKind.wrap .u8 (Int.fdiv f (2 ^ (min (Int.toNat (16 : Int)) (IntKind.bits .u32)))), IntKind.wrap .u8 (Int.fdiv f (2 ^ (min (Int.toNat (24 : Int)) (IntKind.bits .u32))))])) then
 some ((), (h ++ [IntKind.wrap .u8 f, IntKind.wrap .u8 (Int.fdiv f (2 ^ (min (Int.toNat (8 : Int)) (IntKind.bits .u32)))), IntKind.wrap .u8 (Int.fdiv f (2 ^ (min (Int.toNat (16 : Int)) (IntKind.bits .u32)))), IntKind.wrap .u8 (Int.fdiv f (2 ^ (min (Int.toNat (24 : Int)) (IntKind.bits .u32))))]))
 else none
 else none
 else none
else none
def e12 (fu : Nat) : Ent := ⟨12, (.cons (.hole (.sl (.int .u8))) .nil), .nil, (.own .own 5 (.int .u8)), p12 fu⟩
def d12 (fu : Nat) : DC := (.seq (.region [opD 2 (.mov (.const vS))] [[]] false) (.seq (.region [opD 5 (.build 1 [vS] []), opD 6 (.box 60 1 (tD 5)), mvD 3 6] [[], [0], [1, 0, 1]] false) (.seq (.region [mvD 7 3, mvD 8 0, oqD 9 (.call 36 [(tD 7), (tD 8)]) (.ent (e36 fu))] [[], [], [0, 1]] false) (.seq (.region [mvD 10 0, oqD 11 (.call 24 [(tD 10)]) (.ent (e24 fu)), mvD 4 11] [[], [0], [1, 1, 0, 1]] false) (.seq (.region [mvD 12 3, oqD 13 (.call 27 [(tD 12)]) (.ent (e27 fu)), mvD 14 4, opD 15 (.conv .u8 (tD 14)), mvD 16 4, opD 17 (.bin .shr (tD 16) (.const (.int .u64 8))), opD 18 (.conv .u8 (tD 17)), mvD 19 4, opD 20 (.bin .shr (tD 19) (.const (.int .u64 16))), opD 21 (.conv .u8 (tD 20)), mvD 22 4, opD 23 (.bin .shr (tD 22) (.const (.int .u64 24))), opD 24 (.conv .u8 (tD 23)), oqD 25 (.bslice 5 1 4 [(.int .u8 0)] [(0, (tD 15)), (1, (tD 18)), (2, (tD 21)), (3, (tD 24))]) (.ty (.int .u8)), oqD 26 (.app 5 1 [(.int .u8 0)] 1 (tD 13) (tD 25)) (.ty (.int .u8)), mvD 2 26] [[], [0], [], [2], [], [4], [5], [], [7], [8], [], [10], [11], [3, 6, 9, 12], [1, 13, 1], [14, 14, 0, 1, 2, 3, 4, 5, 6, 7, 8, 9, 10, 11, 12, 13, 14]] false) .ret)))))
set_option maxRecDepth 1000000 in
theorem v12 (fu : Nat) : evF fu (d12 fu) rs12 27 (e12 fu).ash (e12 fu).osh (e12 fu).vsh = p12 fu := by kernel_rfl
set_option maxRecDepth 1000000 in
theorem b12 (fu : Nat) : BodyD Tryd.prog 12 27 (d12 fu).erase rs12 := bodyD_mk Tryd.func12 (by kernel_rfl) (by kernel_rfl) (by kernel_rfl) (by kernel_rfl)
theorem g12 (fu : Nat) : (e12 fu).Good Tryd.prog := good_by orders (b12 fu) (l := [e36 fu, e24 fu, e27 fu]) (by kernel_rfl) ⟨g36 fu, g24 fu, g27 fu, trivial⟩ (by kernel_rfl) (v12 fu)
def rs40 : List RVx := [(.tmp 2), (.tmp 3), (.tmp 4)]
/-- gazette/codec.number -/
def p40 (fu : Nat) : (List (Int)) × (Unit) → Option ((Unit) × ((Int) × ((Int) × ((Int) × (Unit))))) := fun ⟨a, _⟩ =>
loopO (S := ((Int) × ((Int) × (Unit))) × (Unit)) fu (fun ⟨⟨c, f, _⟩, _⟩ =>
 bif decide (f < (10 : Int)) then
 bif (f == (List.length a : Int)) then
 inrO (some ((), ((0 : Int), (0 : Int), (11 : Int), ())))
 else
 bif decide ((0 : Int) ≤ f ∧ f < (List.length a : Int)) then
 bif decide (Int.toNat f < List.length a) then
 orK (E := ((Int) × ((Bool) × ((Bool) × ((Bool) × (Unit))))) × (Unit))
 (bif (f == (9 : Int)) then
 bif ((List.getD a (Int.toNat f) (dflt (.int .u8))) != (1 : Int)) then
 inrO (inrO (some ((), ((0 : Int), (0 : Int), (12 : Int), ()))))
 else
 bif ((List.getD a (Int.toNat f) (dflt (.int .u8))) == (0 : Int)) then
 bif decide (f > (0 : Int)) then
 inrO (inrO (some ((), ((0 : Int), (0 : Int), (12 : Int), ()))))
 else
 some (.inl (((List.getD a (Int.toNat f) (dflt (.int .u8))), ((List.getD a (Int.toNat f) (dflt (.int .u8))) == (0 : Int)), true, decide (f > (0 : Int)), ()), ()))
 else
 some (.inl (((List.getD a (Int.toNat f) (dflt (.int .u8))), ((List.getD a (Int.toNat f) (dflt (.int .u8))) == (0 : Int)), false, false, ()), ()))
 else
 bif ((List.getD a (Int.toNat f) (dflt (.int .u8))) == (0 : Int)) then
 bif decide (f > (0 : Int)) then
 inrO (inrO (some ((), ((0 : Int), (0 : Int), (12 : Int), ()))))
 else
 some (.inl (((List.getD a (Int.toNat f) (dflt (.int .u8))), ((List.getD a (Int.toNat f) (dflt (.int .u8))) == (0 : Int)), true, decide (f > (0 : Int)), ()), ()))
 else
 some (.inl (((List.getD a (Int.toNat f) (dflt (.int .u8))), ((List.getD a (Int.toNat f) (dflt (.int .u8))) == (0 : Int)), false, false, ()), ())))
 fun ⟨⟨_, _, _, _, _⟩, _⟩ =>
 bif decide ((0 : Int) ≤ (IntKind.wrap .i64 ((7 : Int) * f))) then
 bif decide ((List.getD a (Int.toNat f) (dflt (.int .u8))) < (128 : Int)) then
 inrO (some ((), (IntKind.wrap .u64 ((BitVec.ofInt (IntKind.bits .u64) c ||| BitVec.ofInt (IntKind.bits .u64) (IntKind.wrap .u64 ((IntKind.wrap .u64 (IntKind.wrap .u8 ((BitVec.ofInt (IntKind.bits .u8) (List.getD a (Int.toNat f) (dflt (.int .u8))) &&& BitVec.ofInt (IntKind.bits .u8) (127 : Int)).toNat : Int))) * 2 ^ (min (Int.toNat (IntKind.wrap .i64 ((7 : Int) * f))) (IntKind.bits .u64))))).toNat : Int), IntKind.wrap .i64 (f + (1 : Int)), (0 : Int), ())))
 else
 some (.inl ((IntKind.wrap .u64 ((BitVec.ofInt (IntKind.bits .u64) c ||| BitVec.ofInt (IntKind.bits .u64) (IntKind.wrap .u64 ((IntKind.wrap .u64 (IntKind.wrap .u8 ((BitVec.ofInt (IntKind.bits .u8) (List.getD a (Int.toNat f) (dflt (.int .u8))) &&& BitVec.ofInt (IntKind.bits .u8) (127 : Int)).toNat : Int))) * 2 ^ (min (Int.toNat (IntKind.wrap .i64 ((7 : Int) * f))) (IntKind.bits .u64))))).toNat : Int), IntKind.wrap .i64 (f + (1 : Int)), ()), ()))
 else none
 else none
 else none
 else
 inrO (some ((), ((0 : Int), (0 : Int), (12 : Int), ()))))
 (((0 : Int), (0 : Int), ()), ())
def e40 (fu : Nat) : Ent := ⟨40, (.cons (.hole (.sl (.int .u8))) .nil), .nil, (.tup 3 (.cons (.hole (.int .u64)) (.cons (.hole (.int .i64)) (.cons (.hole (.int .i64)) .nil)))), p40 fu⟩
def d40 (_ : Nat) : DC := (.seq (.region [opD 2 (.mov (.const vU)), opD 3 (.mov (cD 0)), opD 4 (.mov (cD 0))] [[], [0], [1]] false) (.seq (.region [opD 5 (.mov (.const vU))] [[]] false) (.seq (.seq (.region [opD 9 (.mov (cD 0))] [[]] false) (.block 0 (.loop ⟨[5, 9], (.cons (.hole (.int .u64)) (.cons (.hole (.int .i64)) .nil)), [], .nil, [0], []⟩
 (.seq (.region [opD 10 (.bin .lss (tD 9) (cD 10))] [[]] false) (.seq (.cond (.tmp 10) .skip (.exit 0)) (.seq (.block 1 (.seq (.region [mvD 11 9, mvD 6 11] [[], [0, 0]] false) (.seq (.seq (.region [mvD 12 6, mvD 13 0, opD 14 (.len false (tD 13)), opD 15 (.bin .eql (tD 12) (tD 14))] [[], [], [1], [0, 2]] false) (.cond (.tmp 15) (.seq (.region [opD 2 (.mov (.const vU)), opD 3 (.mov (cD 0)), opD 4 (.mov (cD 11))] [[], [0, 0], [1, 0, 1]] false) .ret) .skip)) (.seq (.region [mvD 16 0, mvD 17 6, opD 18 (.iaddr 1 (tD 16) (tD 17)), opD 19 (.load false 1 (tD 18)), mvD 7 19] [[], [], [0, 1], [2], [3, 0, 1, 2, 3]] false) (.seq (.region [mvD 20 6, opD 21 (.bin .eql (tD 20) (cD 9)), mvD 8 21] [[], [0], [1, 0, 1]] false) (.join ⟨[28, 29, 30, 33], (.cons (.hole (.int .u8)) (.cons (.hole .bool) (.cons (.hole .bool) (.cons (.hole .bool) .nil)))), [], .nil, [0, 5, 6, 7, 9], []⟩
 (.seq (.region [mvD 22 8, mvD 23 22, ogD 24 23 true (.mov (tD 7)), ogD 25 23 true (.bin .neq (tD 24) (.const (.int .u8 1))), opD 26 (.pick (tD 23) (tD 25) (.const vB)), mvD 27 26, ogD 28 27 false (.mov (tD 7)), ogD 29 27 false (.bin .eql (tD 28) (.const (.int .u8 0))), ogD 30 27 false (.mov (tD 29)), ogD 31 30 true (.mov (tD 6)), ogD 32 30 true (.bin .gtr (tD 31) (cD 0)), ogD 33 27 false (.pick (tD 30) (tD 32) (.const vB)), opD 34 (.pick (tD 27) (.const (.bool true)) (tD 33))] [[], [0], [1], [2, 1], [1, 3], [4, 1], [5], [6, 5], [7, 5, 5], [8], [9, 8], [8, 10, 5], [5, 11]] false) (.cond (.tmp 34) (.exit 0) .skip))
 (.seq (.region [mvD 35 5, mvD 36 7, opD 37 (.bin .and (tD 36) (.const (.int .u8 127))), opD 38 (.conv .u64 (tD 37)), mvD 39 6, opD 40 (.bin .mul (cD 7) (tD 39)), opD 41 (.bin .shl (tD 38) (tD 40)), opD 42 (.bin .or (tD 35) (tD 41)), mvD 5 42] [[], [], [1], [2], [], [4], [3, 5], [0, 6], [7, 0, 1, 2, 3, 4, 5, 6, 7]] false) (.seq (.region [mvD 43 7, opD 44 (.bin .lss (tD 43) (.const (.int .u8 128)))] [[], [0]] false) (.cond (.tmp 44) (.seq (.region [mvD 45 5, mvD 46 6, opD 47 (.bin .add (tD 46) (cD 1)), mvD 2 45, mvD 3 47, opD 4 (.mov (cD 0))] [[], [], [1], [0, 0], [2, 3, 0, 1, 2, 3], [4, 0, 1, 2, 3, 4]] false) .ret) .skip))))))))) (.region [opD 48 (.bin .add (tD 9) (cD 1)), mvD 9 48] [[], [0]] false))))))) (.seq (.region [opD 2 (.mov (.const vU)), opD 3 (.mov (cD 0)), opD 4 (.mov (cD 12))] [[], [0, 0], [1, 0, 1]] false) .ret))))
set_option maxRecDepth 1000000 in
theorem v40 (fu : Nat) : evF fu (d40 fu) rs40 49 (e40 fu).ash (e40 fu).osh (e40 fu).vsh = p40 fu := by kernel_rfl
set_option maxRecDepth 1000000 in
theorem b40 (fu : Nat) : BodyD Tryd.prog 40 49 (d40 fu).erase rs40 := bodyD_mk Tryd.func40 (by kernel_rfl) (by kernel_rfl) (by kernel_rfl) (by kernel_rfl)
theorem g40 (fu : Nat) : (e40 fu).Good Tryd.prog := good_by orders (b40 fu) (l := []) (by kernel_rfl) trivial (by kernel_rfl) (v40 fu)
def rs43 : List RVx := []
/-- (*gazette/codec.Reader).failAt -/
def p43 (_ : Nat) : ((List (Int)) × ((Int) × ((Unit) × (Unit)))) × ((Int) × ((Int) × (Unit))) → Option ((((List (Int)) × ((Int) × (((Bool) × (((Int) × ((Int) × (Unit))) × (Unit))) × (Unit)))) × (Unit)) × (Unit)) := fun ⟨⟨a, c, _, _⟩, f, h, _⟩ =>
bif (h != (0 : Int)) then
 some (((a, c, (true, (h, f, ()), dflt .unit), ()), ()), ())
else
 some (((a, c, (false, dflt (.pair (.int .i64) (.pair (.int .i64) .unit)), ()), ()), ()), ())
def e43 (fu : Nat) : Ent := ⟨43, (.cons (.box 95 3 (.cons (.hole (.sl (.int .u8))) (.cons (.hole (.int .i64)) (.cons (.nilv 1) .nil)))) (.cons (.hole (.int .i64)) (.cons (.hole (.int .i64)) .nil))), (.cons Y0 .nil), (.tup 0 .nil), p43 fu⟩
def d43 (_ : Nat) : DC := (.seq (.region [mvD 6 0, opD 7 (.pure .nilc [(tD 6)]), opD 8 (.faddr 2 (tD 7)), opD 9 (.load false 1 (tD 8)), opD 10 (.pure (.nilq 1 false) [(tD 9)]), mvD 11 10, ogD 12 11 true (.mov (tD 2)), ogD 13 11 true (.bin .neq (tD 12) (cD 0)), opD 14 (.pick (tD 11) (tD 13) (.const vB))] [[], [0], [1], [2], [3], [4], [5], [6, 5], [5, 7]] false) (.cond (.tmp 14) (.region [mvD 15 0, mvD 16 2, mvD 17 1, opD 18 (.build 2 [vI, vI] [(0, (1, (tD 16))), (1, (1, (tD 17)))]), opD 19 (.box 103 2 (tD 18)), opD 20 (.ifc 99 (tD 19)), opD 21 (.pure .nilc [(tD 15)]), opD 22 (.faddr 2 (tD 21)), onD (.store 1 (tD 22) (tD 20))] [[], [], [], [1, 2], [3], [4], [0, 0, 1, 2, 3, 4, 5], [6, 0, 1, 2, 3, 4, 5], [7, 5, 0, 1, 2, 3, 4, 5]] false) .skip))
set_option maxRecDepth 1000000 in
theorem v43 (fu : Nat) : evF fu (d43 fu) rs43 23 (e43 fu).ash (e43 fu).osh (e43 fu).vsh = p43 fu := by kernel_rfl
set_option maxRecDepth 1000000 in
theorem b43 (fu : Nat) : BodyD Tryd.prog 43 23 (d43 fu).erase rs43 := bodyD_mk Tryd.func43 (by kernel_rfl) (by kernel_rfl) (by kernel_rfl) (by kernel_rfl)
theorem g43 (fu : Nat) : (e43 fu).Good Tryd.prog := good_by orders (b43 fu) (l := []) (by kernel_rfl) trivial (by kernel_rfl) (v43 fu)
def rs41 : List RVx := []
/-- (*gazette/codec.Reader).Fail -/
def p41 (fu : Nat) : ((List (Int)) × ((Int) × ((Unit) × (Unit)))) × ((Int) × (Unit)) → Option ((((List (Int)) × ((Int) × (((Bool) × (((Int) × ((Int) × (Unit))) × (Unit))) × (Unit)))) × (Unit)) × (Unit)) := fun ⟨⟨a, c, _, _⟩, f, _⟩ =>
Option.bind (p43 fu ((a, c, (), ()), c, f, ())) fun ⟨⟨⟨h, i, ⟨j, ⟨k, l, _⟩, _⟩, _⟩, _⟩, _⟩ =>
bif j then
 some (((h, i, (true, (k, l, ()), dflt .unit), ()), ()), ())
else
 some (((h, i, (false, dflt (.pair (.int .i64) (.pair (.int .i64) .unit)), ()), ()), ()), ())
def e41 (fu : Nat) : Ent := ⟨41, (.cons (.box 95 3 (.cons (.hole (.sl (.int .u8))) (.cons (.hole (.int .i64)) (.cons (.nilv 1) .nil)))) (.cons (.hole (.int .i64)) .nil)), (.cons Y0 .nil), (.tup 0 .nil), p41 fu⟩
def d41 (fu : Nat) : DC := (.region [mvD 4 0, mvD 5 0, opD 6 (.pure .nilc [(tD 5)]), opD 7 (.faddr 1 (tD 6)), opD 8 (.load false 1 (tD 7)), mvD 9 1, oqD 10 (.call 43 [(tD 4), (tD 8), (tD 9)]) (.ent (e43 fu))] [[], [], [1], [2], [3], [], [0, 4, 5]] false)
set_option maxRecDepth 1000000 in
theorem v41 (fu : Nat) : evF fu (d41 fu) rs41 11 (e41 fu).ash (e41 fu).osh (e41 fu).vsh = p41 fu := by kernel_rfl
set_option maxRecDepth 1000000 in
theorem b41 (fu : Nat) : BodyD Tryd.prog 41 11 (d41 fu).erase rs41 := bodyD_mk Tryd.func41 (by kernel_rfl) (by kernel_rfl) (by kernel_rfl) (by kernel_rfl)
theorem g41 (fu : Nat) : (e41 fu).Good Tryd.prog := good_by orders (b41 fu) (l := [e43 fu]) (by kernel_rfl) ⟨g43 fu, trivial⟩ (by kernel_rfl) (v41 fu)
def rs15 : List RVx := [(.tmp 2)]
/-- (*gazette/codec.Reader).Uint -/
def p15 (fu : Nat) : ((List (Int)) × ((Int) × ((Unit) × (Unit)))) × (Unit) → Option ((((List (Int)) × ((Int) × (((Bool) × (((Int) × ((Int) × (Unit))) × (Unit))) × (Unit)))) × (Unit)) × (Int)) := fun ⟨⟨a, c, _, _⟩, _⟩ =>
bif decide ((0 : Int) ≤ c) then
 bif decide (Int.toNat c ≤ List.length a) then
 Option.bind (p40 fu (slice' a (Int.toNat c) none, ())) fun ⟨_, ⟨f, h, i, _⟩⟩ =>
 Option.bind (p41 fu ((a, c, (), ()), i, ())) fun ⟨⟨⟨j, k, ⟨l, ⟨m, n, _⟩, _⟩, _⟩, _⟩, _⟩ =>
 bif l then
 some (((j, IntKind.wrap .i64 (k + h), (true, (m, n, ()), dflt .unit), ()), ()), f)
 else
 some (((j, IntKind.wrap .i64 (k + h), (false, dflt (.pair (.int .i64) (.pair (.int .i64) .unit)), ()), ()), ()), f)
 else none
else none
def e15 (fu : Nat) : Ent := ⟨15, (.cons (.box 95 3 (.cons (.hole (.sl (.int .u8))) (.cons (.hole (.int .i64)) (.cons (.nilv 1) .nil)))) .nil), (.cons Y0 .nil), (.hole (.int .u64)), p15 fu⟩
def d15 (fu : Nat) : DC := (.seq (.region [opD 2 (.mov (.const vU))] [[]] false) (.seq (.seq (.region [mvD 6 0, opD 7 (.pure .nilc [(tD 6)]), opD 8 (.faddr 2 (tD 7)), opD 9 (.load false 1 (tD 8)), opD 10 (.pure (.nilq 1 true) [(tD 9)])] [[], [0], [1], [2], [3]] false) (.cond (.tmp 10) (.seq (.region [opD 2 (.mov (.const vU))] [[]] false) .ret) .skip)) (.seq (.region [mvD 12 0, opD 13 (.pure .nilc [(tD 12)]), opD 14 (.faddr 0 (tD 13)), opD 15 (.load false 1 (tD 14)), mvD 16 0, opD 17 (.pure .nilc [(tD 16)]), opD 18 (.faddr 1 (tD 17)), opD 19 (.load false 1 (tD 18)), opD 20 (.slc 1 (tD 15) (some (tD 19)) none), oqD 21 (.call 40 [(tD 20)]) (.ent (e40 fu)), mvD 11 21, opD 22 (.ext (tD 11) 0), opD 23 (.ext (tD 11) 1), opD 24 (.ext (tD 11) 2), mvD 3 22, mvD 4 23, mvD 5 24] [[], [0], [1], [2], [], [4], [5], [6], [3, 7], [8], [9], [10], [10], [10], [11, 9, 0, 1, 2, 3, 4, 5, 6, 7, 8, 9, 10, 11], [12, 14, 0, 1, 2, 3, 4, 5, 6, 7, 8, 9, 10, 11, 12, 14], [13, 15, 0, 1, 2, 3, 4, 5, 6, 7, 8, 9, 10, 11, 12, 13, 14, 15]] true) (.seq (.region [mvD 25 0, mvD 26 5, oqD 27 (.call 41 [(tD 25), (tD 26)]) (.ent (e41 fu))] [[], [], [0, 1]] false) (.seq (.region [mvD 28 0, opD 29 (.pure .nilc [(tD 28)]), opD 30 (.faddr 1 (tD 29)), opD 31 (.load false 1 (tD 30)), mvD 32 4, opD 33 (.bin .add (tD 31) (tD 32)), opD 34 (.pure .nilc [(tD 28)]), opD 35 (.faddr 1 (tD 34)), onD (.store 1 (tD 35) (tD 33))] [[], [0], [1], [2], [], [3, 4], [0, 0, 1, 2, 3, 4, 5], [6, 0, 1, 2, 3, 4, 5], [7, 5, 0, 1, 2, 3, 4, 5]] false) (.seq (.region [mvD 36 3, mvD 2 36] [[], [0, 0]] false) .ret))))))
set_option maxRecDepth 1000000 in
theorem v15 (fu : Nat) : evF fu (d15 fu) rs15 37 (e15 fu).ash (e15 fu).osh (e15 fu).vsh = p15 fu := by kernel_rfl
set_option maxRecDepth 1000000 in
theorem b15 (fu : Nat) : BodyD Tryd.prog 15 37 (d15 fu).erase rs15 := bodyD_mk Tryd.func15 (by kernel_rfl) (by kernel_rfl) (by kernel_rfl) (by kernel_rfl)
theorem g15 (fu : Nat) : (e15 fu).Good Tryd.prog := good_by orders (b15 fu) (l := [e40 fu, e41 fu]) (by kernel_rfl) ⟨g40 fu, g41 fu, trivial⟩ (by kernel_rfl) (v15 fu)
/-- (*gazette/codec.Reader).failAt -/
def p43_2 (_ : Nat) : ((List (Int)) × ((Int) × (((Bool) × (((Int) × ((Int) × (Unit))) × (Unit))) × (Unit)))) × ((Int) × ((Int) × (Unit))) → Option ((((List (Int)) × ((Int) × (((Bool) × (((Int) × ((Int) × (Unit))) × (Unit))) × (Unit)))) × (Unit)) × (Unit)) := fun ⟨⟨a, c, ⟨f, ⟨h, i, _⟩, _⟩, _⟩, j, k, _⟩ =>
bif f then
 some (((a, c, (true, (h, i, ()), dflt .unit), ()), ()), ())
else
 bif (k != (0 : Int)) then
 some (((a, c, (true, (k, j, ()), dflt .unit), ()), ()), ())
 else
 some (((a, c, (false, dflt (.pair (.int .i64) (.pair (.int .i64) .unit)), ()), ()), ()), ())
def e43_2 (fu : Nat) : Ent := ⟨43, (.cons Y1 (.cons (.hole (.int .i64)) (.cons (.hole (.int .i64)) .nil))), (.cons Y0 .nil), (.tup 0 .nil), p43_2 fu⟩
def d43_2 (_ : Nat) : DC := (.seq (.region [mvD 6 0, opD 7 (.pure .nilc [(tD 6)]), opD 8 (.faddr 2 (tD 7)), opD 9 (.load false 1 (tD 8)), opD 10 (.pure (.nilq 1 false) [(tD 9)]), mvD 11 10, ogD 12 11 true (.mov (tD 2)), ogD 13 11 true (.bin .neq (tD 12) (cD 0)), opD 14 (.pick (tD 11) (tD 13) (.const vB))] [[], [0], [1], [2], [3], [4], [5], [6, 5], [5, 7]] false) (.cond (.tmp 14) (.region [mvD 15 0, mvD 16 2, mvD 17 1, opD 18 (.build 2 [vI, vI] [(0, (1, (tD 16))), (1, (1, (tD 17)))]), opD 19 (.box 103 2 (tD 18)), opD 20 (.ifc 99 (tD 19)), opD 21 (.pure .nilc [(tD 15)]), opD 22 (.faddr 2 (tD 21)), onD (.store 1 (tD 22) (tD 20))] [[], [], [], [1, 2], [3], [4], [0, 0, 1, 2, 3, 4, 5], [6, 0, 1, 2, 3, 4, 5], [7, 5, 0, 1, 2, 3, 4, 5]] false) .skip))
set_option maxRecDepth 1000000 in
theorem v43_2 (fu : Nat) : evF fu (d43_2 fu) rs43 23 (e43_2 fu).ash (e43_2 fu).osh (e43_2 fu).vsh = p43_2 fu := by kernel_rfl
set_option maxRecDepth 1000000 in
theorem b43_2 (fu : Nat) : BodyD Tryd.prog 43 23 (d43_2 fu).erase rs43 := bodyD_mk Tryd.func43 (by kernel_rfl) (by kernel_rfl) (by kernel_rfl) (by kernel_rfl)
theorem g43_2 (fu : Nat) : (e43_2 fu).Good Tryd.prog := good_by orders (b43_2 fu) (l := []) (by kernel_rfl) trivial (by kernel_rfl) (v43_2 fu)
/-- (*gazette/codec.Reader).Fail -/
def p41_2 (fu : Nat) : ((List (Int)) × ((Int) × (((Bool) × (((Int) × ((Int) × (Unit))) × (Unit))) × (Unit)))) × ((Int) × (Unit)) → Option ((((List (Int)) × ((Int) × (((Bool) × (((Int) × ((Int) × (Unit))) × (Unit))) × (Unit)))) × (Unit)) × (Unit)) := fun ⟨⟨a, c, ⟨f, ⟨h, i, _⟩, _⟩, _⟩, j, _⟩ =>
bif f then
 Option.bind (p43_2 fu ((a, c, (true, (h, i, ()), dflt .unit), ()), c, j, ())) fun ⟨⟨⟨k, l, ⟨m, ⟨n, o, _⟩, _⟩, _⟩, _⟩, _⟩ =>
 bif m then
 some (((k, l, (true, (n, o, ()), dflt .unit), ()), ()), ())
 else
 some (((k, l, (false, dflt (.pair (.int .i64) (.pair (.int .i64) .unit)), ()), ()), ()), ())
else
 Option.bind (p43_2 fu ((a, c, (false, dflt (.pair (.int .i64) (.pair (.int .i64) .unit)), ()), ()), c, j, ())) fun ⟨⟨⟨q, s, ⟨t, ⟨u, w, _⟩, _⟩, _⟩, _⟩, _⟩ =>
 bif t then
 some (((q, s, (true, (u, w, ()), dflt .unit), ()), ()), ())
 else
 some (((q, s, (false, dflt (.pair (.int .i64) (.pair (.int .i64) .unit)), ()), ()), ()), ())
def e41_2 (fu : Nat) : Ent := ⟨41, (.cons Y1 (.cons (.hole (.int .i64)) .nil)), (.cons Y0 .nil), (.tup 0 .nil), p41_2 fu⟩
def d41_2 (fu : Nat) : DC := (.region [mvD 4 0, mvD 5 0, opD 6 (.pure .nilc [(tD 5)]), opD 7 (.faddr 1 (tD 6)), opD 8 (.load false 1 (tD 7)), mvD 9 1, oqD 10 (.call 43 [(tD 4), (tD 8), (tD 9)]) (.ent (e43_2 fu))] [[], [], [1], [2], [3], [], [0, 4, 5]] false)
set_option maxRecDepth 1000000 in
theorem v41_2 (fu : Nat) : evF fu (d41_2 fu) rs41 11 (e41_2 fu).ash (e41_2 fu).osh (e41_2 fu).vsh = p41_2 fu := by kernel_rfl
set_option maxRecDepth 1000000 in
theorem b41_2 (fu : Nat) : BodyD Tryd.prog 41 11 (d41_2 fu).erase rs41 := bodyD_mk Tryd.func41 (by kernel_rfl) (by kernel_rfl) (by kernel_rfl) (by kernel_rfl)
theorem g41_2 (fu : Nat) : (e41_2 fu).Good Tryd.prog := good_by orders (b41_2 fu) (l := [e43_2 fu]) (by kernel_rfl) ⟨g43_2 fu, trivial⟩ (by kernel_rfl) (v41_2 fu)
def rs45 : List RVx := [(.tmp 4)]
/-- (*gazette/codec.Reader).take -/
def p45_2 (fu : Nat) : ((List (Int)) × ((Int) × (((Bool) × (((Int) × ((Int) × (Unit))) × (Unit))) × (Unit)))) × ((Int) × (Unit)) → Option ((((List (Int)) × ((Int) × (((Bool) × (((Int) × ((Int) × (Unit))) × (Unit))) × (Unit)))) × (Unit)) × (List (Int))) := fun ⟨⟨a, c, ⟨f, ⟨h, i, _⟩, _⟩, _⟩, j, _⟩ =>
bif f then
 some (((a, c, (true, (h, i, ()), dflt .unit), ()), ()), [])
else
 bif decide (j > (IntKind.wrap .i64 ((List.length a : Int) - c))) then
 Option.bind (p41 fu ((a, c, (), ()), (11 : Int), ())) fun ⟨⟨⟨k, l, ⟨m, ⟨n, o, _⟩, _⟩, _⟩, _⟩, _⟩ =>
 bif m then
 some (((k, l, (true, (n, o, ()), dflt .unit), ()), ()), [])
 else
 bif decide ((0 : Int) ≤ IntKind.wrap .i64 ((IntKind.wrap .i64 (l + j)) - j)) then
 bif decide ((0 : Int) ≤ IntKind.wrap .i64 (l + j)) then
 bif decide (Int.toNat (IntKind.wrap .i64 ((IntKind.wrap .i64 (l + j)) - j)) ≤ Int.toNat (IntKind.wrap .i64 (l + j)) ∧ Int.toNat (IntKind.wrap .i64 (l + j)) ≤ List.length k) then
 bif decide (List.length (slice' k (Int.toNat (IntKind.wrap .i64 ((IntKind.wrap .i64 (l + j)) - j))) (some (Int.toNat (IntKind.wrap .i64 (l + j))))) ≤ maxLen ∧ List.length (slice' k (Int.toNat (IntKind.wrap .i64 ((IntKind.wrap .i64 (l + j)) - j))) (some (Int.toNat (IntKind.wrap .i64 (l + j))))) * 1 ≤ 140737488355328) then
 bif decide (List.length (slice' k (Int.toNat (IntKind.wrap .i64 ((IntKind.wrap .i64 (l + j)) - j))) (some (Int.toNat (IntKind.wrap .i64 (l + j))))) = List.length (slice' k (Int.toNat (IntKind.wrap .i64 ((IntKind.wrap .i64 (l + j)) - j))) (some (Int.toNat (IntKind.wrap .i64 (l + j)))))) then
 some (((k, IntKind.wrap .i64 (l + j), (false, dflt (.pair (.int .i64) (.pair (.int .i64) .unit)), ()), ()), ()), slice' k (Int.toNat (IntKind.wrap .i64 ((IntKind.wrap .i64 (l + j)) - j))) (some (Int.toNat (IntKind.wrap .i64 (l + j)))))
 else none
 else none
 else none
 else none
 else none
 else
 bif decide ((0 : Int) ≤ IntKind.wrap .i64 ((IntKind.wrap .i64 (c + j)) - j)) then
 bif decide ((0 : Int) ≤ IntKind.wrap .i64 (c + j)) then
 bif decide (Int.toNat (IntKind.wrap .i64 ((IntKind.wrap .i64 (c + j)) - j)) ≤ Int.toNat (IntKind.wrap .i64 (c + j)) ∧ Int.toNat (IntKind.wrap .i64 (c + j)) ≤ List.length a) then
 bif decide (List.length (slice' a (Int.toNat (IntKind.wrap .i64 ((IntKind.wrap .i64 (c + j)) - j))) (some (Int.toNat (IntKind.wrap .i64 (c + j))))) ≤ maxLen ∧ List.length (slice' a (Int.toNat (IntKind.wrap .i64 ((IntKind.wrap .i64 (c + j)) - j))) (some (Int.toNat (IntKind.wrap .i64 (c + j))))) * 1 ≤ 140737488355328) then
 bif decide (List.length (slice' a (Int.toNat (IntKind.wrap .i64 ((IntKind.wrap .i64 (c + j)) - j))) (some (Int.toNat (IntKind.wrap .i64 (c + j))))) = List.length (slice' a (Int.toNat (IntKind.wrap .i64 ((IntKind.wrap .i64 (c + j)) - j))) (some (Int.toNat (IntKind.wrap .i64 (c + j)))))) then
 some (((a, IntKind.wrap .i64 (c + j), (false, dflt (.pair (.int .i64) (.pair (.int .i64) .unit)), ()), ()), ()), slice' a (Int.toNat (IntKind.wrap .i64 ((IntKind.wrap .i64 (c + j)) - j))) (some (Int.toNat (IntKind.wrap .i64 (c + j)))))
 else none
 else none
 else none
 else none
 else none
def e45_2 (fu : Nat) : Ent := ⟨45, (.cons Y1 (.cons (.hole (.int .i64)) .nil)), (.cons Y0 .nil), (.own .own 5 (.int .u8)), p45_2 fu⟩
def d45_2 (fu : Nat) : DC := (.seq (.region [opD 4 (.mov (.const vS))] [[]] false) (.seq (.seq (.region [mvD 5 0, opD 6 (.pure .nilc [(tD 5)]), opD 7 (.faddr 2 (tD 6)), opD 8 (.load false 1 (tD 7)), opD 9 (.pure (.nilq 1 false) [(tD 8)]), mvD 10 9, ogD 11 10 true (.mov (tD 1)), ogD 12 10 true (.mov (tD 0)), ogD 13 10 true (.pure .nilc [(tD 12)]), ogD 14 10 true (.faddr 0 (tD 13)), ogD 15 10 true (.load false 1 (tD 14)), ogD 16 10 true (.len false (tD 15)), ogD 17 10 true (.mov (tD 0)), ogD 18 10 true (.pure .nilc [(tD 17)]), ogD 19 10 true (.faddr 1 (tD 18)), ogD 20 10 true (.load false 1 (tD 19)), ogD 21 10 true (.bin .sub (tD 16) (tD 20)), ogD 22 10 true (.bin .gtr (tD 11) (tD 21)), opD 23 (.pick (tD 10) (tD 22) (.const vB))] [[], [0], [1], [2], [3], [4], [5], [5], [7, 5], [8, 5], [9, 5], [10, 5], [5], [12, 5], [13, 5], [14, 5], [11, 15, 5], [6, 16, 5], [5, 17]] true) (.cond (.tmp 23) (.region [mvD 24 0, oqD 25 (.call 41 [(tD 24), (cD 11)]) (.ent (e41 fu))] [[], [0]] false) .skip)) (.seq (.seq (.region [mvD 26 0, opD 27 (.pure .nilc [(tD 26)]), opD 28 (.faddr 2 (tD 27)), opD 29 (.load false 1 (tD 28)), opD 30 (.pure (.nilq 1 true) [(tD 29)])] [[], [0], [1], [2], [3]] false) (.cond (.tmp 30) (.seq (.region [opD 4 (.mov (.const vS))] [[]] false) .ret) .skip)) (.seq (.region [mvD 31 0, opD 32 (.pure .nilc [(tD 31)]), opD 33 (.faddr 1 (tD 32)), opD 34 (.load false 1 (tD 33)), mvD 35 1, opD 36 (.bin .add (tD 34) (tD 35)), opD 37 (.pure .nilc [(tD 31)]), opD 38 (.faddr 1 (tD 37)), onD (.store 1 (tD 38) (tD 36))] [[], [0], [1], [2], [], [3, 4], [0, 0, 1, 2, 3, 4, 5], [6, 0, 1, 2, 3, 4, 5], [7, 5, 0, 1, 2, 3, 4, 5]] false) (.seq (.region [mvD 39 0, opD 40 (.pure .nilc [(tD 39)]), opD 41 (.faddr 0 (tD 40)), opD 42 (.load false 1 (tD 41)), mvD 43 0, opD 44 (.pure .nilc [(tD 43)]), opD 45 (.faddr 1 (tD 44)), opD 46 (.load false 1 (tD 45)), mvD 47 1, opD 48 (.bin .sub (tD 46) (tD 47)), mvD 49 0, opD 50 (.pure .nilc [(tD 49)]), opD 51 (.faddr 1 (tD 50)), opD 52 (.load false 1 (tD 51)), opD 53 (.slc 1 (tD 42) (some (tD 48)) (some (tD 52))), oqD 54 (.app 5 1 [(.int .u8 0)] 1 (.const vS) (tD 53)) (.ty (.int .u8)), mvD 4 54] [[], [0], [1], [2], [], [4], [5], [6], [], [7, 8], [], [10], [11], [12], [3, 9, 13], [14], [15, 15, 0, 1, 2, 3, 4, 5, 6, 7, 8, 9, 10, 11, 12, 13, 14, 15]] true) .ret)))))
set_option maxRecDepth 1000000 in
theorem v45_2 (fu : Nat) : evF fu (d45_2 fu) rs45 55 (e45_2 fu).ash (e45_2 fu).osh (e45_2 fu).vsh = p45_2 fu := by kernel_rfl
set_option maxRecDepth 1000000 in
theorem b45_2 (fu : Nat) : BodyD Tryd.prog 45 55 (d45_2 fu).erase rs45 := bodyD_mk Tryd.func45 (by kernel_rfl) (by kernel_rfl) (by kernel_rfl) (by kernel_rfl)
theorem g45_2 (fu : Nat) : (e45_2 fu).Good Tryd.prog := good_by orders (b45_2 fu) (l := [e41 fu]) (by kernel_rfl) ⟨g41 fu, trivial⟩ (by kernel_rfl) (v45_2 fu)
def rs50 : List RVx := [(.tmp 2)]
/-- gazette/codec.littleEndian -/
def p50 (fu : Nat) : (List (Int)) × (Unit) → Option ((Unit) × (Int)) := fun ⟨a, _⟩ =>
loopO (S := ((Int) × ((Int) × (Unit))) × (Unit)) fu (fun ⟨⟨c, f, _⟩, _⟩ =>
 bif decide (f < (List.length a : Int)) then
 bif decide ((0 : Int) ≤ f ∧ f < (List.length a : Int)) then
 bif decide (Int.toNat f < List.length a) then
 bif decide ((0 : Int) ≤ (IntKind.wrap .i64 ((8 : Int) * f))) then
 some (.inl ((IntKind.wrap .u32 ((BitVec.ofInt (IntKind.bits .u32) c ||| BitVec.ofInt (IntKind.bits .u32) (IntKind.wrap .u32 ((IntKind.wrap .u32 (List.getD a (Int.toNat f) (dflt (.int .u8)))) * 2 ^ (min (Int.toNat (IntKind.wrap .i64 ((8 : Int) * f))) (IntKind.bits .u32))))).toNat : Int), IntKind.wrap .i64 (f + (1 : Int)), ()), ()))
 else none
 else none
 else none
 else
 inrO (some ((), c)))
 (((0 : Int), (0 : Int), ()), ())
def e50 (fu : Nat) : Ent := ⟨50, (.cons (.hole (.sl (.int .u8))) .nil), .nil, (.hole (.int .u32)), p50 fu⟩
def d50 (_ : Nat) : DC := (.seq (.region [opD 2 (.mov (.const (.int .u32 0)))] [[]] false) (.seq (.region [opD 3 (.mov (.const (.int .u32 0)))] [[]] false) (.seq (.seq (.region [mvD 6 0, opD 7 (.len false (tD 6)), opD 8 (.mov (cD 0))] [[], [0], []] false) (.block 0 (.loop ⟨[3, 8], (.cons (.hole (.int .u32)) (.cons (.hole (.int .i64)) .nil)), [], .nil, [6, 7], []⟩
 (.seq (.region [opD 9 (.bin .lss (tD 8) (tD 7))] [[]] false) (.seq (.cond (.tmp 9) .skip (.exit 0)) (.seq (.block 1 (.seq (.region [mvD 10 8, opD 11 (.iaddr 1 (tD 6) (tD 8)), opD 12 (.load false 1 (tD 11)), mvD 4 10, mvD 5 12] [[], [], [1], [0, 0, 1, 2], [2, 3, 0, 1, 2, 3]] false) (.region [mvD 13 3, mvD 14 5, opD 15 (.conv .u32 (tD 14)), mvD 16 4, opD 17 (.bin .mul (cD 8) (tD 16)), opD 18 (.bin .shl (tD 15) (tD 17)), opD 19 (.bin .or (tD 13) (tD 18)), mvD 3 19] [[], [], [1], [], [3], [2, 4], [0, 5], [6, 0, 1, 2, 3, 4, 5, 6]] false))) (.region [opD 20 (.bin .add (tD 8) (cD 1)), mvD 8 20] [[], [0]] false))))))) (.seq (.region [mvD 21 3, mvD 2 21] [[], [0, 0]] false) .ret))))
set_option maxRecDepth 1000000 in
theorem v50 (fu : Nat) : evF fu (d50 fu) rs50 22 (e50 fu).ash (e50 fu).osh (e50 fu).vsh = p50 fu := by kernel_rfl
set_option maxRecDepth 1000000 in
theorem b50 (fu : Nat) : BodyD Tryd.prog 50 22 (d50 fu).erase rs50 := bodyD_mk Tryd.func50 (by kernel_rfl) (by kernel_rfl) (by kernel_rfl) (by kernel_rfl)
theorem g50 (fu : Nat) : (e50 fu).Good Tryd.prog := good_by orders (b50 fu) (l := []) (by kernel_rfl) trivial (by kernel_rfl) (v50 fu)
def rs16 : List RVx := [(.tmp 2), (.tmp 3)]
/-- (*gazette/codec.Reader).Err -/
def p16_2 (fu : Nat) : ((List (Int)) × ((Int) × (((Bool) × (((Int) × ((Int) × (Unit))) × (Unit))) × (Unit)))) × (Unit) → Option ((((List (Int)) × ((Int) × (((Bool) × (((Int) × ((Int) × (Unit))) × (Unit))) × (Unit)))) × (Unit)) × ((Int) × ((Int) × (Unit)))) := fun ⟨⟨a, c, ⟨f, ⟨h, i, _⟩, _⟩, _⟩, _⟩ =>
bif f then
 Option.bind (pAs fu ((false, dflt .unit, (h, i, ())), ((), ()), ())) fun ⟨⟨⟨⟨j, _, ⟨k, l, _⟩⟩, _⟩, _⟩, m⟩ =>
 bif j then
 bif m then
 none
 else
 some (((a, c, (true, (h, i, ()), dflt .unit), ()), ()), ((0 : Int), (0 : Int), ()))
 else
 bif m then
 some (((a, c, (true, (h, i, ()), dflt .unit), ()), ()), (k, l, ()))
 else
 some (((a, c, (true, (h, i, ()), dflt .unit), ()), ()), ((0 : Int), (0 : Int), ()))
else
 Option.bind (pAs fu ((true, (), dflt (.pair (.int .i64) (.pair (.int .i64) .unit))), ((), ()), ())) fun ⟨⟨⟨⟨n, _, ⟨o, q, _⟩⟩, _⟩, _⟩, s⟩ =>
 bif n then
 bif s then
 none
 else
 some (((a, c, (false, dflt (.pair (.int .i64) (.pair (.int .i64) .unit)), ()), ()), ()), ((0 : Int), (0 : Int), ()))
 else
 bif s then
 some (((a, c, (false, dflt (.pair (.int .i64) (.pair (.int .i64) .unit)), ()), ()), ()), (o, q, ()))
 else
 some (((a, c, (false, dflt (.pair (.int .i64) (.pair (.int .i64) .unit)), ()), ()), ()), ((0 : Int), (0 : Int), ()))
def e16_2 (fu : Nat) : Ent := ⟨16, (.cons Y1 .nil), (.cons Y0 .nil), (.tup 2 (.cons (.hole (.int .i64)) (.cons (.hole (.int .i64)) .nil))), p16_2 fu⟩
def d16_2 (fu : Nat) : DC := (.seq (.region [opD 2 (.mov (cD 0)), opD 3 (.mov (cD 0))] [[], [0]] false) (.seq (.region [opD 4 (.alloc 99 1 [(.pointer none)])] [[]] false) (.seq (.seq (.region [mvD 5 0, opD 6 (.pure .nilc [(tD 5)]), opD 7 (.faddr 2 (tD 6)), opD 8 (.load false 1 (tD 7)), opD 9 (.ifc 101 (tD 4)), oqD 10 (.call 42 [(tD 8), (tD 9)]) (.ent (eAs fu))] [[], [0], [1], [2], [], [3, 4]] false) (.cond (.tmp 10) (.seq (.region [opD 11 (.load false 1 (tD 4)), opD 12 (.pure .nilc [(tD 11)]), opD 13 (.faddr 0 (tD 12)), opD 14 (.load false 1 (tD 13)), opD 15 (.load false 1 (tD 4)), opD 16 (.pure .nilc [(tD 15)]), opD 17 (.faddr 1 (tD 16)), opD 18 (.load false 1 (tD 17)), mvD 2 14, mvD 3 18] [[], [0], [1], [2], [], [4], [5], [6], [3, 0, 1, 2, 3], [7, 8, 0, 1, 2, 3, 4, 5, 6, 7, 8]] true) .ret) .skip)) (.seq (.region [opD 2 (.mov (cD 0)), opD 3 (.mov (cD 0))] [[], [0, 0]] false) .ret))))
set_option maxRecDepth 1000000 in
theorem v16_2 (fu : Nat) : evF fu (d16_2 fu) rs16 19 (e16_2 fu).ash (e16_2 fu).osh (e16_2 fu).vsh = p16_2 fu := by kernel_rfl
set_option maxRecDepth 1000000 in
theorem b16_2 (fu : Nat) : BodyD Tryd.prog 16 19 (d16_2 fu).erase rs16 := bodyD_mk Tryd.func16 (by kernel_rfl) (by kernel_rfl) (by kernel_rfl) (by kernel_rfl)
theorem g16_2 (fu : Nat) : (e16_2 fu).Good Tryd.prog := good_by orders (b16_2 fu) (l := [eAs fu]) (by kernel_rfl) ⟨gAs fu, trivial⟩ (by kernel_rfl) (v16_2 fu)
def rs21 : List RVx := [(.tmp 2), (.tmp 3), (.tmp 4)]
/-- gazette/codec.Unframe -/
def p21 (fu : Nat) : (List (Int)) × (Unit) → Option ((Unit) × ((List (Int)) × ((List (Int)) × ((Int) × (Unit))))) := fun ⟨a, _⟩ =>
orK (E := ((List (Int)) × (Unit)) × (((List (Int)) × ((Int) × (((Bool) × (((Int) × ((Int) × (Unit))) × (Unit))) × (Unit)))) × (Unit)))
 (orK (E := ((List (Int)) × (Unit)) × (((List (Int)) × ((Int) × (((Bool) × (((Int) × ((Int) × (Unit))) × (Unit))) × (Unit)))) × (Unit)))
 (orK (E := ((Int) × (Unit)) × (((List (Int)) × ((Int) × (((Bool) × (((Int) × ((Int) × (Unit))) × (Unit))) × (Unit)))) × (Unit)))
 (Option.bind (p15 fu ((a, (0 : Int), (), ()), ())) fun ⟨⟨⟨c, f, ⟨h, ⟨i, j, _⟩, _⟩, _⟩, _⟩, k⟩ =>
 bif h then
 bif decide (k > (262144 : Int)) then
 Option.bind (p41_2 fu ((c, f, (true, (i, j, ()), dflt .unit), ()), (13 : Int), ())) fun ⟨⟨⟨l, m, ⟨n, ⟨o, q, _⟩, _⟩, _⟩, _⟩, _⟩ =>
 bif n then
 some (.inl ((k, ()), ((l, m, (true, (o, q, ()), dflt .unit), ()), ())))
 else
 some (.inl ((k, ()), ((l, m, (false, dflt (.pair (.int .i64) (.pair (.int .i64) .unit)), ()), ()), ())))
 else
 some (.inl ((k, ()), ((c, f, (true, (i, j, ()), dflt .unit), ()), ())))
 else
 bif decide (k > (262144 : Int)) then
 Option.bind (p41_2 fu ((c, f, (false, dflt (.pair (.int .i64) (.pair (.int .i64) .unit)), ()), ()), (13 : Int), ())) fun ⟨⟨⟨s, t, ⟨u, ⟨w, x, _⟩, _⟩, _⟩, _⟩, _⟩ =>
 bif u then
 some (.inl ((k, ()), ((s, t, (true, (w, x, ()), dflt .unit), ()), ())))
 else
 some (.inl ((k, ()), ((s, t, (false, dflt (.pair (.int .i64) (.pair (.int .i64) .unit)), ()), ()), ())))
 else
 some (.inl ((k, ()), ((c, f, (false, dflt (.pair (.int .i64) (.pair (.int .i64) .unit)), ()), ()), ()))))
 fun ⟨⟨y, _⟩, ⟨⟨z, a0, ⟨c0, ⟨f0, h0, _⟩, _⟩, _⟩, _⟩⟩ =>
 bif c0 then
 Option.bind (p45_2 fu ((z, a0, (true, (f0, h0, ()), dflt .unit), ()), IntKind.wrap .i64 y, ())) fun ⟨⟨⟨i0, j0, ⟨k0, ⟨l0, m0, _⟩, _⟩, _⟩, _⟩, n0⟩ =>
 bif k0 then
 bif decide (List.length n0 = List.length n0) then
 some (.inl ((n0, ()), ((i0, j0, (true, (l0, m0, ()), dflt .unit), ()), ())))
 else none
 else
 bif decide (List.length n0 = List.length n0) then
 some (.inl ((n0, ()), ((i0, j0, (false, dflt (.pair (.int .i64) (.pair (.int .i64) .unit)), ()), ()), ())))
 else none
 else
 Option.bind (p45_2 fu ((z, a0, (false, dflt (.pair (.int .i64) (.pair (.int .i64) .unit)), ()), ()), IntKind.wrap .i64 y, ())) fun ⟨⟨⟨o0, q0, ⟨s0, ⟨t0, u0, _⟩, _⟩, _⟩, _⟩, w0⟩ =>
 bif s0 then
 bif decide (List.length w0 = List.length w0) then
 some (.inl ((w0, ()), ((o0, q0, (true, (t0, u0, ()), dflt .unit), ()), ())))
 else none
 else
 bif decide (List.length w0 = List.length w0) then
 some (.inl ((w0, ()), ((o0, q0, (false, dflt (.pair (.int .i64) (.pair (.int .i64) .unit)), ()), ()), ())))
 else none)
 fun ⟨⟨x0, _⟩, ⟨⟨z, a0, ⟨c0, ⟨f0, h0, _⟩, _⟩, _⟩, _⟩⟩ =>
 bif c0 then
 Option.bind (p45_2 fu ((z, a0, (true, (f0, h0, ()), dflt .unit), ()), (4 : Int), ())) fun ⟨⟨⟨y0, z0, ⟨a1, ⟨c1, f1, _⟩, _⟩, _⟩, _⟩, h1⟩ =>
 bif a1 then
 bif decide (List.length x0 = List.length x0) then
 some (.inl ((x0, ()), ((y0, z0, (true, (c1, f1, ()), dflt .unit), ()), ())))
 else none
 else
 bif decide (List.length h1 = List.length h1) then
 Option.bind (p50 fu (h1, ())) fun ⟨_, i1⟩ =>
 bif decide (List.length x0 = List.length x0) then
 Option.bind (p24 fu (x0, ())) fun ⟨_, j1⟩ =>
 bif (i1 != j1) then
 Option.bind (p41 fu ((y0, z0, (), ()), (14 : Int), ())) fun ⟨⟨⟨k1, l1, ⟨m1, ⟨n1, o1, _⟩, _⟩, _⟩, _⟩, _⟩ =>
 bif m1 then
 bif decide (List.length x0 = List.length x0) then
 some (.inl ((x0, ()), ((k1, l1, (true, (n1, o1, ()), dflt .unit), ()), ())))
 else none
 else
 bif decide (List.length x0 = List.length x0) then
 some (.inl ((x0, ()), ((k1, l1, (false, dflt (.pair (.int .i64) (.pair (.int .i64) .unit)), ()), ()), ())))
 else none
 else
 bif decide (List.length x0 = List.length x0) then
 some (.inl ((x0, ()), ((y0, z0, (false, dflt (.pair (.int .i64) (.pair (.int .i64) .unit)), ()), ()), ())))
 else none
 else none
 else none
 else
 Option.bind (p45_2 fu ((z, a0, (false, dflt (.pair (.int .i64) (.pair (.int .i64) .unit)), ()), ()), (4 : Int), ())) fun ⟨⟨⟨q1, s1, ⟨t1, ⟨u1, w1, _⟩, _⟩, _⟩, _⟩, x1⟩ =>
 bif t1 then
 bif decide (List.length x0 = List.length x0) then
 some (.inl ((x0, ()), ((q1, s1, (true, (u1, w1, ()), dflt .unit), ()), ())))
 else none
 else
 bif decide (List.length x1 = List.length x1) then
 Option.bind (p50 fu (x1, ())) fun ⟨_, y1⟩ =>
 bif decide (List.length x0 = List.length x0) then
 Option.bind (p24 fu (x0, ())) fun ⟨_, z1⟩ =>
 bif (y1 != z1) then
 Option.bind (p41 fu ((q1, s1, (), ()), (14 : Int), ())) fun ⟨⟨⟨a2, c2, ⟨f2, ⟨h2, i2, _⟩, _⟩, _⟩, _⟩, _⟩ =>
 bif f2 then
 bif decide (List.length x0 = List.length x0) then
 some (.inl ((x0, ()), ((a2, c2, (true, (h2, i2, ()), dflt .unit), ()), ())))
 else none
 else
 bif decide (List.length x0 = List.length x0) then
 some (.inl ((x0, ()), ((a2, c2, (false, dflt (.pair (.int .i64) (.pair (.int .i64) .unit)), ()), ()), ())))
 else none
 else
 bif decide (List.length x0 = List.length x0) then
 some (.inl ((x0, ()), ((q1, s1, (false, dflt (.pair (.int .i64) (.pair (.int .i64) .unit)), ()), ()), ())))
 else none
 else none
 else none)
 fun ⟨⟨x0, _⟩, ⟨⟨z, a0, ⟨c0, ⟨f0, h0, _⟩, _⟩, _⟩, _⟩⟩ =>
bif c0 then
 Option.bind (p16_2 fu ((z, a0, (true, (f0, h0, ()), dflt .unit), ()), ())) fun ⟨⟨⟨j2, k2, ⟨l2, ⟨_, _, _⟩, _⟩, _⟩, _⟩, ⟨m2, _, _⟩⟩ =>
 bif l2 then
 bif (m2 != (0 : Int)) then
 some ((), ([], [], m2, ()))
 else
 bif decide ((0 : Int) ≤ k2) then
 bif decide (Int.toNat k2 ≤ List.length j2) then
 bif decide (List.length (slice' j2 (Int.toNat k2) none) ≤ maxLen ∧ List.length (slice' j2 (Int.toNat k2) none) * 1 ≤ 140737488355328) then
 bif decide (List.length x0 = List.length x0) then
 bif decide (List.length (slice' j2 (Int.toNat k2) none) = List.length (slice' j2 (Int.toNat k2) none)) then
 some ((), (x0, slice' j2 (Int.toNat k2) none, (0 : Int), ()))
 else none
 else none
 else none
 else none
 else none
 else
 bif (m2 != (0 : Int)) then
 some ((), ([], [], m2, ()))
 else
 bif decide ((0 : Int) ≤ k2) then
 bif decide (Int.toNat k2 ≤ List.length j2) then
 bif decide (List.length (slice' j2 (Int.toNat k2) none) ≤ maxLen ∧ List.length (slice' j2 (Int.toNat k2) none) * 1 ≤ 140737488355328) then
 bif decide (List.length x0 = List.length x0) then
 bif decide (List.length (slice' j2 (Int.toNat k2) none) = List.length (slice' j2 (Int.toNat k2) none)) then
 some ((), (x0, slice' j2 (Int.toNat k2) none, (0 : Int), ()))
 else none
 else none
 else none
 else none
 else none
else
 Option.bind (p16_2 fu ((z, a0, (false, dflt (.pair (.int .i64) (.pair (.int .i64) .unit)), ()), ()), ())) fun ⟨⟨⟨n2, o2, ⟨q2, ⟨_, _, _⟩, _⟩, _⟩, _⟩, ⟨s2, _, _⟩⟩ =>
 bif q2 then
 bif (s2 != (0 : Int)) then
 some ((), ([], [], s2, ()))
 else
 bif decide ((0 : Int) ≤ o2) then
 bif decide (Int.toNat o2 ≤ List.length n2) then
 bif decide (List.length (slice' n2 (Int.toNat o2) none) ≤ maxLen ∧ List.length (slice' n2 (Int.toNat o2) none) * 1 ≤ 140737488355328) then
 bif decide (List.length x0 = List.length x0) then
 bif decide (List.length (slice' n2 (Int.toNat o2) none) = List.length (slice' n2 (Int.toNat o2) none)) then
 some ((), (x0, slice' n2 (Int.toNat o2) none, (0 : Int), ()))
 else none
 else none
 else none
 else none
 else none
 else
 bif (s2 != (0 : Int)) then
 some ((), ([], [], s2, ()))
 else
 bif decide ((0 : Int) ≤ o2) then
 bif decide (Int.toNat o2 ≤ List.length n2) then
 bif decide (List.length (slice' n2 (Int.toNat o2) none) ≤ maxLen ∧ List.length (slice' n2 (Int.toNat o2) none) * 1 ≤ 140737488355328) then
 bif decide (List.length x0 = List.length x0) then
 bif decide (List.length (slice' n2 (Int.toNat o2) none) = List.length (slice' n2 (Int.toNat o2) none)) then
 some ((), (x0, slice' n2 (Int.toNat o2) none, (0 : Int), ()))
 else none
 else none
 else none
 else none
 else none
def e21 (fu : Nat) : Ent := ⟨21, (.cons (.hole (.sl (.int .u8))) .nil), .nil, (.tup 3 (.cons (.own .own 5 (.int .u8)) (.cons (.own .own 5 (.int .u8)) (.cons (.hole (.int .i64)) .nil)))), p21 fu⟩
def d21 (fu : Nat) : DC := (.seq (.region [opD 2 (.mov (.const vS)), opD 3 (.mov (.const vS)), opD 4 (.mov (cD 0))] [[], [0], [1]] false) (.seq (.region [mvD 12 0, opD 13 (.build 3 [vS, vI, .nilIface] [(0, (1, (tD 12)))]), opD 14 (.box 95 3 (tD 13)), mvD 5 14] [[], [0], [1], [2, 0, 1, 2]] false) (.seq (.region [opD 6 (.mov (.const vU))] [[]] false) (.seq (.region [opD 7 (.mov (.const vS)), opD 8 (.mov (.const vS))] [[], [0]] false) (.join ⟨[7], (.cons (.own .own 5 (.int .u8)) .nil), [(80, 95, 3)], (.cons Y0 .nil), [5], []⟩
 (.seq (.region [opD 9 (.mov (cD 0))] [[]] false) (.seq (.region [mvD 15 9] [[]] false) (.block 0 (.join ⟨[7], (.cons (.own .own 5 (.int .u8)) .nil), [(80, 95, 3)], (.cons Y0 .nil), [5], []⟩
 (.block 3 (.join ⟨[6], (.cons (.hole (.int .u64)) .nil), [(80, 95, 3)], (.cons Y0 .nil), [5], []⟩
 (.block 2 (.seq (.block 1 (.seq (.seq (.seq (.region [opD 17 (.bin .eql (tD 15) (cD 0)), mvD 16 17] [[], [0]] false) (.cond (.tmp 16) (.exit 1) .skip)) (.seq (.seq (.region [opD 19 (.bin .eql (tD 15) (cD 1)), mvD 18 19] [[], [0]] false) (.cond (.tmp 18) (.exit 2) .skip)) (.seq (.region [opD 21 (.bin .eql (tD 15) (cD 2)), mvD 20 21] [[], [0]] false) (.cond (.tmp 20) (.exit 3) .skip)))) (.exit 0))) (.seq (.region [mvD 22 5, oqD 23 (.call 15 [(tD 22)]) (.ent (e15 fu)), mvD 6 23] [[], [0], [1, 1, 0, 1]] false) (.seq (.region [mvD 24 6, opD 25 (.bin .gtr (tD 24) (.const (.int .u64 262144)))] [[], [0]] false) (.cond (.tmp 25) (.region [mvD 26 5, oqD 27 (.call 41 [(tD 26), (cD 13)]) (.ent (e41_2 fu))] [[], [0]] false) .skip)))))
 (.region [mvD 28 5, mvD 29 6, opD 30 (.conv .i64 (tD 29)), oqD 31 (.call 45 [(tD 28), (tD 30)]) (.ent (e45_2 fu)), mvD 7 31] [[], [], [1], [0, 2], [3, 3, 0, 1, 2, 3]] false)))
 (.seq (.seq (.region [mvD 32 5, oqD 33 (.call 45 [(tD 32), (cD 4)]) (.ent (e45_2 fu)), mvD 8 33] [[], [0], [1, 1, 0, 1]] false) (.seq (.region [mvD 34 5, opD 35 (.pure .nilc [(tD 34)]), opD 36 (.faddr 2 (tD 35)), opD 37 (.load false 1 (tD 36)), opD 38 (.pure (.nilq 1 false) [(tD 37)]), mvD 39 38, ogD 40 39 true (.mov (tD 8)), (⟨(some 41), (some (39, true)), (.call 50 [(tD 40)])⟩, (.ent (e50 fu))), ogD 42 39 true (.mov (tD 7)), (⟨(some 43), (some (39, true)), (.call 24 [(tD 42)])⟩, (.ent (e24 fu))), ogD 44 39 true (.bin .neq (tD 41) (tD 43)), opD 45 (.pick (tD 39) (tD 44) (.const vB))] [[], [0], [1], [2], [3], [4], [5], [6, 5, 5], [5], [8, 7, 5], [7, 9, 5], [5, 10]] false) (.cond (.tmp 45) (.region [mvD 46 5, oqD 47 (.call 41 [(tD 46), (cD 14)]) (.ent (e41 fu))] [[], [0]] false) .skip))) (.exit 0))))))
 (.seq (.seq (.region [mvD 49 5, oqD 50 (.call 16 [(tD 49)]) (.ent (e16_2 fu)), mvD 48 50, opD 51 (.ext (tD 48) 0), opD 52 (.ext (tD 48) 1), mvD 10 51, mvD 11 52] [[], [0], [1], [2], [2], [3, 1, 0, 1, 2, 3], [4, 5, 0, 1, 2, 3, 4, 5]] false) (.seq (.region [mvD 53 10, opD 54 (.bin .neq (tD 53) (cD 0))] [[], [0]] false) (.cond (.tmp 54) (.seq (.region [mvD 55 10, opD 2 (.mov (.const vS)), opD 3 (.mov (.const vS)), mvD 4 55] [[], [], [1, 1], [0, 2, 0, 1, 2]] false) .ret) .skip))) (.seq (.region [mvD 56 7, mvD 57 5, opD 58 (.pure .nilc [(tD 57)]), opD 59 (.faddr 0 (tD 58)), opD 60 (.load false 1 (tD 59)), mvD 61 5, opD 62 (.pure .nilc [(tD 61)]), opD 63 (.faddr 1 (tD 62)), opD 64 (.load false 1 (tD 63)), opD 65 (.slc 1 (tD 60) (some (tD 64)) none), oqD 66 (.app 5 1 [(.int .u8 0)] 1 (.const vS) (tD 65)) (.ty (.int .u8)), mvD 2 56, mvD 3 66, opD 4 (.mov (cD 0))] [[], [], [1], [2], [3], [], [5], [6], [7], [4, 8], [9], [0, 10, 0], [10, 11, 0, 1, 2, 3, 4, 5, 6, 7, 8, 9, 10, 11], [12, 0, 1, 2, 3, 4, 5, 6, 7, 8, 9, 10, 11, 12]] true) .ret)))))))
set_option maxRecDepth 1000000 in
theorem v21 (fu : Nat) : evF fu (d21 fu) rs21 67 (e21 fu).ash (e21 fu).osh (e21 fu).vsh = p21 fu := by kernel_rfl
set_option maxRecDepth 1000000 in
theorem b21 (fu : Nat) : BodyD Tryd.prog 21 67 (d21 fu).erase rs21 := bodyD_mk Tryd.func21 (by kernel_rfl) (by kernel_rfl) (by kernel_rfl) (by kernel_rfl)
theorem g21 (fu : Nat) : (e21 fu).Good Tryd.prog := good_by orders (b21 fu) (l := [e15 fu, e41_2 fu, e45_2 fu, e45_2 fu, e50 fu, e24 fu, e41 fu, e16_2 fu]) (by kernel_rfl) ⟨g15 fu, g41_2 fu, g45_2 fu, g45_2 fu, g50 fu, g24 fu, g41 fu, g16_2 fu, trivial⟩ (by kernel_rfl) (v21 fu)
def rs9 : List RVx := [(.tmp 4)]
/-- gazette/gazettelaw01.CodecBit -/
def p9 (fu : Nat) : (List (Int)) × ((Int) × (Unit)) → Option ((Unit) × (Bool)) := fun ⟨a, c, _⟩ =>
Option.bind (p11 fu ()) fun ⟨_, f⟩ =>
Option.bind (p12 fu (a, ())) fun ⟨_, h⟩ =>
bif !f then
 some ((), f)
else
 bif (((List.length h) : Int) == (0 : Int)) then
 some ((), f)
 else
 bif decide ((List.length a : Int) > (262144 : Int)) then
 some ((), f)
 else
 bif !((IntKind.wrap .i64 ((8 : Int) * ((List.length h) : Int))) == 0) then
 bif decide ((0 : Int) ≤ IntKind.wrap .i64 (Int.tdiv (Int.tmod (IntKind.wrap .i64 c) (IntKind.wrap .i64 ((8 : Int) * ((List.length h) : Int)))) (8 : Int)) ∧ IntKind.wrap .i64 (Int.tdiv (Int.tmod (IntKind.wrap .i64 c) (IntKind.wrap .i64 ((8 : Int) * ((List.length h) : Int)))) (8 : Int)) < (List.length h : Int)) then
 bif decide (Int.toNat (IntKind.wrap .i64 (Int.tdiv (Int.tmod (IntKind.wrap .i64 c) (IntKind.wrap .i64 ((8 : Int) * ((List.length h) : Int)))) (8 : Int))) < List.length h) then
 bif decide ((0 : Int) ≤ (Int.tmod (Int.tmod (IntKind.wrap .i64 c) (IntKind.wrap .i64 ((8 : Int) * ((List.length h) : Int)))) (8 : Int))) then
 bif decide ((0 : Int) ≤ IntKind.wrap .i64 (Int.tdiv (Int.tmod (IntKind.wrap .i64 c) (IntKind.wrap .i64 ((8 : Int) * ((List.length h) : Int)))) (8 : Int)) ∧ IntKind.wrap .i64 (Int.tdiv (Int.tmod (IntKind.wrap .i64 c) (IntKind.wrap .i64 ((8 : Int) * ((List.length h) : Int)))) (8 : Int)) < (List.length h : Int)) then
 bif decide (Int.toNat (IntKind.wrap .i64 (Int.tdiv (Int.tmod (IntKind.wrap .i64 c) (IntKind.wrap .i64 ((8 : Int) * ((List.length h) : Int)))) (8 : Int))) < List.length h) then
 bif decide (List.length h = List.length (List.set h (Int.toNat (IntKind.wrap .i64 (Int.tdiv (Int.tmod (IntKind.wrap .i64 c) (IntKind.wrap .i64 ((8 : Int) * ((List.length h) : Int)))) (8 : Int)))) (IntKind.wrap .u8 ((BitVec.ofInt (IntKind.bits .u8) (List.getD h (Int.toNat (IntKind.wrap .i64 (Int.tdiv (Int.tmod (IntKind.wrap .i64 c) (IntKind.wrap .i64 ((8 : Int) * ((List.length h) : Int)))) (8 : Int)))) (dflt (.int .u8))) ^^^ BitVec.ofInt (IntKind.bits .u8) (IntKind.wrap .u8 ((1 : Int) * 2 ^ (min (Int.toNat (Int.tmod (Int.tmod (IntKind.wrap .i64 c) (IntKind.wrap .i64 ((8 : Int) * ((List.length h) : Int)))) (8 : Int))) (IntKind.bits .u8))))).toNat : Int)))) then
 Option.bind (p21 fu ((List.set h (Int.toNat (IntKind.wrap .i64 (Int.tdiv (Int.tmod (IntKind.wrap .i64 c) (IntKind.wrap .i64 ((8 : Int) * ((List.length h) : Int)))) (8 : Int)))) (IntKind.wrap .u8 ((BitVec.ofInt (IntKind.bits .u8) (List.getD h (Int.toNat (IntKind.wrap .i64 (Int.tdiv (Int.tmod (IntKind.wrap .i64 c) (IntKind.wrap .i64 ((8 : Int) * ((List.length h) : Int)))) (8 : Int)))) (dflt (.int .u8))) ^^^ BitVec.ofInt (IntKind.bits .u8) (IntKind.wrap .u8 ((1 : Int) * 2 ^ (min (Int.toNat (Int.tmod (Int.tmod (IntKind.wrap .i64 c) (IntKind.wrap .i64 ((8 : Int) * ((List.length h) : Int)))) (8 : Int))) (IntKind.bits .u8))))).toNat : Int))), ())) fun ⟨_, ⟨i, j, k, _⟩⟩ =>
 bif (k != (0 : Int)) then
 some ((), true)
 else
 bif (((List.length i) : Int) != (List.length a : Int)) then
 some ((), true)
 else
 some ((), decide (((List.length j) : Int) > (0 : Int)))
 else none
 else none
 else none
 else none
 else none
 else none
 else none
def e9 (fu : Nat) : Ent := ⟨9, (.cons (.hole (.sl (.int .u8))) (.cons (.hole (.int .u32)) .nil)), .nil, (.hole .bool), p9 fu⟩
def d9 (fu : Nat) : DC := (.seq (.region [opD 4 (.mov (.const vB))] [[]] false) (.seq (.region [oqD 11 (.call 11 []) (.ent (e11 fu)), mvD 5 11] [[], [0, 0, 0]] false) (.seq (.region [mvD 12 0, oqD 13 (.call 12 [(tD 12)]) (.ent (e12 fu)), mvD 6 13] [[], [0], [1, 1, 0, 1]] false) (.seq (.seq (.region [mvD 14 5, opD 15 (.not (tD 14)), mvD 16 15, ogD 17 16 false (.mov (tD 6)), ogD 18 16 false (.len false (tD 17)), ogD 19 16 false (.bin .eql (tD 18) (cD 0)), opD 20 (.pick (tD 16) (.const (.bool true)) (tD 19)), mvD 21 20, ogD 22 21 false (.mov (tD 0)), ogD 23 21 false (.len false (tD 22)), ogD 24 21 false (.bin .gtr (tD 23) (cD 262144)), opD 25 (.pick (tD 21) (.const (.bool true)) (tD 24))] [[], [0], [1], [2], [3, 2], [4, 2], [2, 5], [6, 2], [7], [8, 7], [9, 7], [7, 10]] false) (.cond (.tmp 25) (.seq (.region [mvD 26 5, mvD 4 26] [[], [0, 0]] false) .ret) .skip)) (.seq (.region [mvD 27 1, opD 28 (.conv .i64 (tD 27)), mvD 29 6, opD 30 (.len false (tD 29)), opD 31 (.bin .mul (cD 8) (tD 30)), opD 32 (.bin .rem (tD 28) (tD 31)), mvD 7 32] [[], [0], [], [2], [3], [1, 4], [5, 0, 1, 2, 3, 4, 5]] false) (.seq (.region [mvD 33 6, mvD 34 7, opD 35 (.bin .quo (tD 34) (cD 8)), mvD 36 6, mvD 37 7, opD 38 (.bin .quo (tD 37) (cD 8)), opD 39 (.iaddr 1 (tD 36) (tD 38)), opD 40 (.load false 1 (tD 39)), mvD 41 7, opD 42 (.bin .rem (tD 41) (cD 8)), opD 43 (.bin .shl (.const (.int .u8 1)) (tD 42)), opD 44 (.bin .xor (tD 40) (tD 43)), opD 45 (.iaddr 1 (tD 33) (tD 35)), onD (.store 1 (tD 45) (tD 44))] [[], [], [1], [], [], [4], [3, 5], [6], [], [8], [9], [7, 10], [0, 2, 0, 1, 2, 3, 4, 5, 6, 7, 8, 9, 10, 11], [12, 11, 0, 1, 2, 3, 4, 5, 6, 7, 8, 9, 10, 11]] true) (.seq (.region [mvD 47 6, oqD 48 (.call 21 [(tD 47)]) (.ent (e21 fu)), mvD 46 48, opD 49 (.ext (tD 46) 0), opD 50 (.ext (tD 46) 1), opD 51 (.ext (tD 46) 2), mvD 8 49, mvD 9 50, mvD 10 51] [[], [0], [1], [2], [2], [2], [3, 1, 0, 1, 2, 3], [4, 6, 0, 1, 2, 3, 4, 6], [5, 7, 0, 1, 2, 3, 4, 5, 6, 7]] false) (.seq (.region [mvD 52 10, opD 53 (.bin .neq (tD 52) (cD 0)), mvD 54 53, ogD 55 54 false (.mov (tD 8)), ogD 56 54 false (.len false (tD 55)), ogD 57 54 false (.mov (tD 0)), ogD 58 54 false (.len false (tD 57)), ogD 59 54 false (.bin .neq (tD 56) (tD 58)), opD 60 (.pick (tD 54) (.const (.bool true)) (tD 59)), mvD 61 60, ogD 62 61 false (.mov (tD 9)), ogD 63 61 false (.len false (tD 62)), ogD 64 61 false (.bin .gtr (tD 63) (cD 0)), opD 65 (.pick (tD 61) (.const (.bool true)) (tD 64)), mvD 4 65] [[], [0], [1], [2], [3, 2], [2], [5, 2], [4, 6, 2], [2, 7], [8, 2], [9], [10, 9], [11, 9], [9, 12], [13, 9, 0, 1, 2, 3, 4, 5, 6, 7, 8, 9, 10, 11, 12, 13]] false) .ret))))))))
set_option maxRecDepth 1000000 in
theorem v9 (fu : Nat) : evF fu (d9 fu) rs9 66 (e9 fu).ash (e9 fu).osh (e9 fu).vsh = p9 fu := by kernel_rfl
set_option maxRecDepth 1000000 in
theorem b9 (fu : Nat) : BodyD Tryd.prog 9 66 (d9 fu).erase rs9 := bodyD_mk Tryd.func9 (by kernel_rfl) (by kernel_rfl) (by kernel_rfl) (by kernel_rfl)
theorem g9 (fu : Nat) : (e9 fu).Good Tryd.prog := good_by orders (b9 fu) (l := [e11 fu, e12 fu, e21 fu]) (by kernel_rfl) ⟨g11 fu, g12 fu, g21 fu, trivial⟩ (by kernel_rfl) (v9 fu)
end Go.Proofs.YtfhdpeceppafiaaDoor
