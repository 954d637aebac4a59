/-
  The functions, typed.
-/
import Derived.Test.YtfhdpeceppafiaaDoorAsE
import Derived.Test.YtfhdpeceppafiaaDoorDaL
import Derived.Test.YtfhdpeceppafiaaDoorRows
namespace Go.Proofs.YtfhdpeceppafiaaDoor
open Go.RowKit
abbrev T_runtime_errorAddressString : Tp := (.pair .str (.int .u64))
abbrev D_runtime_errorAddressString := (ByteArray) × (Int)
abbrev T_api_Range : Tp := (.pair .str .str)
abbrev D_api_Range := (ByteArray) × (ByteArray)
abbrev T_gazettelaw01_Step : Tp := (.pair (.int .i64) (.int .i64))
abbrev D_gazettelaw01_Step := (Int) × (Int)
abbrev T_reflectlite_ValueError : Tp := (.pair .str (.int .u8))
abbrev D_reflectlite_ValueError := (ByteArray) × (Int)
abbrev T_api_Conf : Tp := (.pair (.sl (.int .i64)) (.sl (.int .i64)))
abbrev D_api_Conf := (List (Int)) × (List (Int))
abbrev T_api_Hard : Tp := (.pair (.int .u64) (.pair (.int .i64) (.int .u64)))
abbrev D_api_Hard := (Int) × ((Int) × (Int))
abbrev T_runtime_boundsError : Tp := (.pair (.int .i64) (.pair (.int .i64) (.pair .bool (.int .u8))))
abbrev D_runtime_boundsError := (Int) × ((Int) × ((Bool) × (Int)))
abbrev T_gazetteref01_Reader : Tp := (.pair (.sl (.int .u8)) (.pair (.int .i64) T_gazettelaw01_Step))
abbrev D_gazetteref01_Reader := (List (Int)) × ((Int) × (D_gazettelaw01_Step))
abbrev T_abi_Method : Tp := (.pair (.int .i32) (.pair (.int .i32) (.pair (.int .i32) (.int .i32))))
abbrev D_abi_Method := (Int) × ((Int) × ((Int) × (Int)))
abbrev T_api_Record : Tp := (.pair (.int .u64) (.pair .str (.pair (.sl (.int .u8)) (.pair (.int .u64) (.int .u64)))))
abbrev D_api_Record := (Int) × ((ByteArray) × ((List (Int)) × ((Int) × (Int))))
abbrev T_abi_UncommonType : Tp := (.pair (.int .i32) (.pair (.int .u16) (.pair (.int .u16) (.pair (.int .u32) (.int .u32)))))
abbrev D_abi_UncommonType := (Int) × ((Int) × ((Int) × ((Int) × (Int))))
abbrev T_api_Snap : Tp := (.pair (.int .u64) (.pair (.int .u64) (.pair T_api_Conf (.sl (.int .u8)))))
abbrev D_api_Snap := (Int) × ((Int) × ((D_api_Conf) × (List (Int))))
abbrev T_api_Entry : Tp := (.pair (.int .u64) (.pair (.int .u64) (.pair (.int .i64) (.pair (.sl (.int .u8)) T_api_Conf))))
abbrev D_api_Entry := (Int) × ((Int) × ((Int) × ((List (Int)) × (D_api_Conf))))
abbrev T_api_Item : Tp := (.pair (.int .i64) (.pair (.int .u64) (.pair T_api_Entry (.pair T_api_Hard (.pair (.int .u64) T_api_Snap)))))
abbrev D_api_Item := (Int) × ((Int) × ((D_api_Entry) × ((D_api_Hard) × ((Int) × (D_api_Snap)))))
abbrev T_gazettelaw01_Thing : Tp := (.pair (.int .i64) (.pair (.int .u64) (.pair (.int .i64) (.pair .bool (.pair (.sl (.int .u8)) (.pair T_api_Conf (.pair T_api_Entry (.pair T_api_Snap (.pair T_api_Range T_api_Record)))))))))
abbrev D_gazettelaw01_Thing := (Int) × ((Int) × ((Int) × ((Bool) × ((List (Int)) × ((D_api_Conf) × ((D_api_Entry) × ((D_api_Snap) × ((D_api_Range) × (D_api_Record)))))))))
theorem orders : Tryd.prog.follows .mixedOrders = true := by kernel_rfl
abbrev Z0 : Type := (List (Int)) × ((Int) × ((Int) × ((List (Int)) × ((Int) × ((Int) × ((Bool) × ((Bool) × ((Bool) × (Unit)))))))))
abbrev Y1 : Sh := (.agg 3 (.cons (.own .own 5 (.int .u8)) (.cons (.hole (.int .i64)) (.cons (.alt (.ifc 99 (.look (.cons (.hole (.int .i64)) (.cons (.hole (.int .i64)) .nil)))) (.nilv 1)) .nil))))
abbrev Y2 : Sh := (.box 95 3 (.cons (.own .own 5 (.int .u8)) (.cons (.hole (.int .i64)) (.cons (.alt (.ifc 99 (.look (.cons (.hole (.int .i64)) (.cons (.hole (.int .i64)) .nil)))) (.nilv 1)) .nil))))
def rs34 : List RVx := []
/-- (*gazette/codec.Writer).Uint -/
def p34 (fu : Nat) : ((Unit) × (Unit)) × ((Int) × (Unit)) → Option ((((List (Int)) × (Unit)) × (Unit)) × (Unit)) := fun ⟨⟨_, _⟩, a, _⟩ =>
loopO (S := ((Int) × (Unit)) × (((List (Int)) × (Unit)) × (Unit))) fu (fun ⟨⟨c, _⟩, ⟨⟨f, _⟩, _⟩⟩ =>
 bif decide (c ≥ (128 : Int)) then
 bif decide (List.length f = List.length f) then
 bif decide (List.length f + List.length ([IntKind.wrap .u8 ((BitVec.ofInt (IntKind.bits .u8) (IntKind.wrap .u8 c) ||| BitVec.ofInt (IntKind.bits .u8) (128 : Int)).toNat : Int)]) ≤ maxLen ∧ (List.length f + List.length ([IntKind.wrap .u8 ((BitVec.ofInt (IntKind.bits .u8) (IntKind.wrap .u8 c) ||| BitVec.ofInt (IntKind.bits .u8) (128 : Int)).toNat : Int)])) * 1 ≤ 140737488355328) then
 bif decide (List.length (f ++ [IntKind.wrap .u8 ((BitVec.ofInt (IntKind.bits .u8) (IntKind.wrap .u8 c) ||| BitVec.ofInt (IntKind.bits .u8) (128 : Int)).toNat : Int)]) = List.length (f ++ [IntKind.wrap .u8 ((BitVec.ofInt (IntKind.bits .u8) (IntKind.wrap .u8 c) ||| BitVec.ofInt (IntKind.bits .u8) (128 : Int)).toNat : Int)])) then
 some (.inl ((Int.fdiv c (2 ^ (min (Int.toNat (7 : Int)) (IntKind.bits .u64))), ()), (((f ++ [IntKind.wrap .u8 ((BitVec.ofInt (IntKind.bits .u8) (IntKind.wrap .u8 c) ||| BitVec.ofInt (IntKind.bits .u8) (128 : Int)).toNat : Int)]), ()), ())))
 else none
 else none
 else none
 else
 inrO (bif decide (List.length f = List.length f) then
 bif decide (List.length f + List.length ([IntKind.wrap .u8 c]) ≤ maxLen ∧ (List.length f + List.length ([IntKind.wrap .u8 c])) * 1 ≤ 140737488355328) then
 bif decide (List.length (f ++ [IntKind.wrap .u8 c]) = List.length (f ++ [IntKind.wrap .u8 c])) then
 some ((((f ++ [IntKind.wrap .u8 c]), ()), ()), ())
 else none
 else none
 else none))
 ((a, ()), (([], ()), ()))
def e34 (fu : Nat) : Ent := ⟨34, (.cons (.box 60 1 (.cons .nils .nil)) (.cons (.hole (.int .u64)) .nil)), (.cons (.agg 1 (.cons (.own .own 5 (.int .u8)) .nil)) .nil), (.tup 0 .nil), p34 fu⟩
def d34 (_ : Nat) : DC := (.seq (.block 0 (.loop ⟨[1], (.cons (.hole (.int .u64)) .nil), [(0, 60, 1)], (.cons (.agg 1 (.cons (.own .own 5 (.int .u8)) .nil)) .nil), [0], []⟩
 (.seq (.seq (.region [mvD 4 1, opD 5 (.bin .geq (tD 4) (.const (.int .u64 128)))] [[], [0]] false) (.cond (.tmp 5) .skip (.exit 0))) (.block 1 (.seq (.region [mvD 6 0, mvD 7 0, opD 8 (.pure .nilc [(tD 7)]), opD 9 (.faddr 0 (tD 8)), opD 10 (.load false 1 (tD 9)), mvD 11 1, opD 12 (.conv .u8 (tD 11)), opD 13 (.bin .or (tD 12) (.const (.int .u8 128))), oqD 14 (.bslice 5 1 1 [(.int .u8 0)] [(0, (tD 13))]) (.ty (.int .u8)), oqD 15 (.app 5 1 [(.int .u8 0)] 1 (tD 10) (tD 14)) (.ty (.int .u8)), opD 16 (.pure .nilc [(tD 6)]), opD 17 (.faddr 0 (tD 16)), onD (.store 1 (tD 17) (tD 15))] [[], [], [1], [2], [3], [], [5], [6], [7], [4, 8], [0, 0, 1, 2, 3, 4, 5, 6, 7, 8, 9], [10, 0, 1, 2, 3, 4, 5, 6, 7, 8, 9], [11, 9, 9, 0, 1, 2, 3, 4, 5, 6, 7, 8, 9]] false) (.region [mvD 18 1, opD 19 (.bin .shr (tD 18) (.const (.int .u64 7))), mvD 1 19] [[], [0], [1, 0, 1]] false)))))) (.region [mvD 20 0, mvD 21 0, opD 22 (.pure .nilc [(tD 21)]), opD 23 (.faddr 0 (tD 22)), opD 24 (.load false 1 (tD 23)), mvD 25 1, opD 26 (.conv .u8 (tD 25)), oqD 27 (.bslice 5 1 1 [(.int .u8 0)] [(0, (tD 26))]) (.ty (.int .u8)), oqD 28 (.app 5 1 [(.int .u8 0)] 1 (tD 24) (tD 27)) (.ty (.int .u8)), opD 29 (.pure .nilc [(tD 20)]), opD 30 (.faddr 0 (tD 29)), onD (.store 1 (tD 30) (tD 28))] [[], [], [1], [2], [3], [], [5], [6], [4, 7], [0, 0, 1, 2, 3, 4, 5, 6, 7, 8], [9, 0, 1, 2, 3, 4, 5, 6, 7, 8], [10, 8, 8, 0, 1, 2, 3, 4, 5, 6, 7, 8]] false))
set_option maxRecDepth 1000000 in
theorem v34 (fu : Nat) : evF fu (d34 fu) rs34 31 (e34 fu).ash (e34 fu).osh (e34 fu).vsh = p34 fu := by kernel_rfl
set_option maxRecDepth 1000000 in
theorem b34 (fu : Nat) : BodyD Tryd.prog 34 31 (d34 fu).erase rs34 := bodyD_mk Tryd.func34 (by kernel_rfl) (by kernel_rfl) (by kernel_rfl) (by kernel_rfl)
theorem g34 (fu : Nat) : (e34 fu).Good Tryd.prog := good_by orders (b34 fu) (l := []) (by kernel_rfl) trivial (by kernel_rfl) (v34 fu)
/-- (*gazette/codec.Writer).Uint -/
def p34_1 (fu : Nat) : ((List (Int)) × (Unit)) × ((Int) × (Unit)) → Option ((((List (Int)) × (Unit)) × ((Unit) × (Unit))) × (Unit)) := fun ⟨⟨a, _⟩, c, _⟩ =>
bif decide (List.length a = List.length a) then
 loopO (S := ((Int) × (Unit)) × (((List (Int)) × (Unit)) × (Unit))) fu (fun ⟨⟨f, _⟩, ⟨⟨h, _⟩, _⟩⟩ =>
 bif decide (f ≥ (128 : Int)) then
 bif decide (List.length h = List.length h) then
 bif decide (List.length h + List.length ([IntKind.wrap .u8 ((BitVec.ofInt (IntKind.bits .u8) (IntKind.wrap .u8 f) ||| BitVec.ofInt (IntKind.bits .u8) (128 : Int)).toNat : Int)]) ≤ maxLen ∧ (List.length h + List.length ([IntKind.wrap .u8 ((BitVec.ofInt (IntKind.bits .u8) (IntKind.wrap .u8 f) ||| BitVec.ofInt (IntKind.bits .u8) (128 : Int)).toNat : Int)])) * 1 ≤ 140737488355328) then
 bif decide (List.length (h ++ [IntKind.wrap .u8 ((BitVec.ofInt (IntKind.bits .u8) (IntKind.wrap .u8 f) ||| BitVec.ofInt (IntKind.bits .u8) (128 : Int)).toNat : Int)]) = List.length (h ++ [IntKind.wrap .u8 ((BitVec.ofInt (IntKind.bits .u8) (IntKind.wrap .u8 f) ||| BitVec.ofInt (IntKind.bits .u8) (128 : Int)).toNat : Int)])) then
 some (.inl ((Int.fdiv f (2 ^ (min (Int.toNat (7 : Int)) (IntKind.bits .u64))), ()), (((h ++ [IntKind.wrap .u8 ((BitVec.ofInt (IntKind.bits .u8) (IntKind.wrap .u8 f) ||| BitVec.ofInt (IntKind.bits .u8) (128 : Int)).toNat : Int)]), ()), ())))
 else none
 else none
 else none
 else
 inrO (bif decide (List.length h = List.length h) then
 bif decide (List.length h + List.length ([IntKind.wrap .u8 f]) ≤ maxLen ∧ (List.length h + List.length ([IntKind.wrap .u8 f])) * 1 ≤ 140737488355328) then
 bif decide (List.length (h ++ [IntKind.wrap .u8 f]) = List.length (h ++ [IntKind.wrap .u8 f])) then
 some ((((h ++ [IntKind.wrap .u8 f]), ()), (), ()), ())
 else none
 else none
 else none))
 ((c, ()), ((a, ()), ()))
else none
def e34_1 (fu : Nat) : Ent := ⟨34, (.cons (.box 60 1 (.cons (.own .own 5 (.int .u8)) .nil)) (.cons (.hole (.int .u64)) .nil)), (.cons (.agg 1 (.cons (.own .own 5 (.int .u8)) .nil)) (.cons .dead .nil)), (.tup 0 .nil), p34_1 fu⟩
def d34_1 (_ : Nat) : DC := (.seq (.block 0 (.loop ⟨[1], (.cons (.hole (.int .u64)) .nil), [(0, 60, 1)], (.cons (.agg 1 (.cons (.own .own 5 (.int .u8)) .nil)) .nil), [0], [1]⟩
 (.seq (.seq (.region [mvD 4 1, opD 5 (.bin .geq (tD 4) (.const (.int .u64 128)))] [[], [0]] false) (.cond (.tmp 5) .skip (.exit 0))) (.block 1 (.seq (.region [mvD 6 0, mvD 7 0, opD 8 (.pure .nilc [(tD 7)]), opD 9 (.faddr 0 (tD 8)), opD 10 (.load false 1 (tD 9)), mvD 11 1, opD 12 (.conv .u8 (tD 11)), opD 13 (.bin .or (tD 12) (.const (.int .u8 128))), oqD 14 (.bslice 5 1 1 [(.int .u8 0)] [(0, (tD 13))]) (.ty (.int .u8)), oqD 15 (.app 5 1 [(.int .u8 0)] 1 (tD 10) (tD 14)) (.ty (.int .u8)), opD 16 (.pure .nilc [(tD 6)]), opD 17 (.faddr 0 (tD 16)), onD (.store 1 (tD 17) (tD 15))] [[], [], [1], [2], [3], [], [5], [6], [7], [4, 8], [0, 0, 1, 2, 3, 4, 5, 6, 7, 8, 9], [10, 0, 1, 2, 3, 4, 5, 6, 7, 8, 9], [11, 9, 9, 0, 1, 2, 3, 4, 5, 6, 7, 8, 9]] false) (.region [mvD 18 1, opD 19 (.bin .shr (tD 18) (.const (.int .u64 7))), mvD 1 19] [[], [0], [1, 0, 1]] false)))))) (.region [mvD 20 0, mvD 21 0, opD 22 (.pure .nilc [(tD 21)]), opD 23 (.faddr 0 (tD 22)), opD 24 (.load false 1 (tD 23)), mvD 25 1, opD 26 (.conv .u8 (tD 25)), oqD 27 (.bslice 5 1 1 [(.int .u8 0)] [(0, (tD 26))]) (.ty (.int .u8)), oqD 28 (.app 5 1 [(.int .u8 0)] 1 (tD 24) (tD 27)) (.ty (.int .u8)), opD 29 (.pure .nilc [(tD 20)]), opD 30 (.faddr 0 (tD 29)), onD (.store 1 (tD 30) (tD 28))] [[], [], [1], [2], [3], [], [5], [6], [4, 7], [0, 0, 1, 2, 3, 4, 5, 6, 7, 8], [9, 0, 1, 2, 3, 4, 5, 6, 7, 8], [10, 8, 8, 0, 1, 2, 3, 4, 5, 6, 7, 8]] false))
set_option maxRecDepth 1000000 in
theorem v34_1 (fu : Nat) : evF fu (d34_1 fu) rs34 31 (e34_1 fu).ash (e34_1 fu).osh (e34_1 fu).vsh = p34_1 fu := by kernel_rfl
set_option maxRecDepth 1000000 in
theorem b34_1 (fu : Nat) : BodyD Tryd.prog 34 31 (d34_1 fu).erase rs34 := bodyD_mk Tryd.func34 (by kernel_rfl) (by kernel_rfl) (by kernel_rfl) (by kernel_rfl)
theorem g34_1 (fu : Nat) : (e34_1 fu).Good Tryd.prog := good_by orders (b34_1 fu) (l := []) (by kernel_rfl) trivial (by kernel_rfl) (v34_1 fu)
def rs35 : List RVx := []
/-- (*gazette/codec.Writer).String -/
def p35 (fu : Nat) : ((List (Int)) × (Unit)) × ((ByteArray) × (Unit)) → Option ((((List (Int)) × (Unit)) × ((Unit) × (Unit))) × (Unit)) := fun ⟨⟨a, _⟩, c, _⟩ =>
bif decide (List.length a = List.length a) then
 Option.bind (p34_1 fu ((a, ()), IntKind.wrap .u64 (ByteArray.size c : Int), ())) fun ⟨⟨⟨f, _⟩, _, _⟩, _⟩ =>
 bif decide (List.length f = List.length f) then
 bif decide (List.length f + ByteArray.size c ≤ maxLen ∧ List.length f + ByteArray.size c ≤ 140737488355328) then
 bif decide (List.length (f ++ numsOf c) = List.length (f ++ numsOf c)) then
 some ((((f ++ numsOf c), ()), (), ()), ())
 else none
 else none
 else none
else none
def e35 (fu : Nat) : Ent := ⟨35, (.cons (.box 60 1 (.cons (.own .own 5 (.int .u8)) .nil)) (.cons (.hole .str) .nil)), (.cons (.agg 1 (.cons (.own .own 5 (.int .u8)) .nil)) (.cons .dead .nil)), (.tup 0 .nil), p35 fu⟩
def d35 (fu : Nat) : DC := (.seq (.region [mvD 4 0, mvD 5 1, opD 6 (.len true (tD 5)), opD 7 (.conv .u64 (tD 6)), oqD 8 (.call 34 [(tD 4), (tD 7)]) (.ent (e34_1 fu))] [[], [], [1], [2], [0, 3]] false) (.region [mvD 9 0, mvD 10 0, opD 11 (.pure .nilc [(tD 10)]), opD 12 (.faddr 0 (tD 11)), opD 13 (.load false 1 (tD 12)), mvD 14 1, opD 15 (.apps 5 (tD 13) (tD 14)), opD 16 (.pure .nilc [(tD 9)]), opD 17 (.faddr 0 (tD 16)), onD (.store 1 (tD 17) (tD 15))] [[], [], [1], [2], [3], [], [4, 5], [0, 0, 1, 2, 3, 4, 5, 6], [7, 0, 1, 2, 3, 4, 5, 6], [8, 6, 6, 0, 1, 2, 3, 4, 5, 6]] false))
set_option maxRecDepth 1000000 in
theorem v35 (fu : Nat) : evF fu (d35 fu) rs35 18 (e35 fu).ash (e35 fu).osh (e35 fu).vsh = p35 fu := by kernel_rfl
set_option maxRecDepth 1000000 in
theorem b35 (fu : Nat) : BodyD Tryd.prog 35 18 (d35 fu).erase rs35 := bodyD_mk Tryd.func35 (by kernel_rfl) (by kernel_rfl) (by kernel_rfl) (by kernel_rfl)
theorem g35 (fu : Nat) : (e35 fu).Good Tryd.prog := good_by orders (b35 fu) (l := [e34_1 fu]) (by kernel_rfl) ⟨g34_1 fu, trivial⟩ (by kernel_rfl) (v35 fu)
def rs27 : List RVx := [(.tmp 2)]
/-- (*gazette/codec.Writer).Done -/
def p27 (_ : Nat) : ((List (Int)) × (Unit)) × (Unit) → Option ((Unit) × (List (Int))) := fun ⟨⟨a, _⟩, _⟩ =>
bif decide (List.length a ≤ maxLen ∧ List.length a * 1 ≤ 140737488355328) then
 bif decide (List.length a = List.length a) then
 some ((), a)
 else none
else none
def e27 (fu : Nat) : Ent := ⟨27, (.cons (.look (.cons (.hole (.sl (.int .u8))) .nil)) .nil), .nil, (.own .own 5 (.int .u8)), p27 fu⟩
def d27 (_ : Nat) : DC := (.seq (.region [opD 2 (.mov (.const vS))] [[]] false) (.seq (.region [mvD 3 0, opD 4 (.pure .nilc [(tD 3)]), opD 5 (.faddr 0 (tD 4)), opD 6 (.load false 1 (tD 5)), oqD 7 (.app 5 1 [(.int .u8 0)] 1 (.const vS) (tD 6)) (.ty (.int .u8)), mvD 2 7] [[], [0], [1], [2], [3], [4, 4, 0, 1, 2, 3, 4]] false) .ret))
set_option maxRecDepth 1000000 in
theorem v27 (fu : Nat) : evF fu (d27 fu) rs27 8 (e27 fu).ash (e27 fu).osh (e27 fu).vsh = p27 fu := by kernel_rfl
set_option maxRecDepth 1000000 in
theorem b27 (fu : Nat) : BodyD Tryd.prog 27 8 (d27 fu).erase rs27 := bodyD_mk Tryd.func27 (by kernel_rfl) (by kernel_rfl) (by kernel_rfl) (by kernel_rfl)
theorem g27 (fu : Nat) : (e27 fu).Good Tryd.prog := good_by orders (b27 fu) (l := []) (by kernel_rfl) trivial (by kernel_rfl) (v27 fu)
def rs24 : List RVx := [(.tmp 2)]
/-- gazette/codec.Sum -/
def p24 (fu : Nat) : (List (Int)) × (Unit) → Option ((Unit) × (Int)) := fun ⟨a, _⟩ =>
loopO (S := ((Int) × ((Int) × (Unit))) × (Unit)) fu (fun ⟨⟨c, f, _⟩, _⟩ =>
 bif decide (f < (List.length a : Int)) then
 bif decide ((0 : Int) ≤ f ∧ f < (List.length a : Int)) then
 bif decide (Int.toNat f < List.length a) then
 bif decide ((0 : Int) ≤ IntKind.wrap .u32 ((BitVec.ofInt (IntKind.bits .u32) (IntKind.wrap .u32 ((BitVec.ofInt (IntKind.bits .u32) c ^^^ BitVec.ofInt (IntKind.bits .u32) (IntKind.wrap .u32 (List.getD a (Int.toNat f) (dflt (.int .u8))))).toNat : Int)) &&& BitVec.ofInt (IntKind.bits .u32) (15 : Int)).toNat : Int) ∧ IntKind.wrap .u32 ((BitVec.ofInt (IntKind.bits .u32) (IntKind.wrap .u32 ((BitVec.ofInt (IntKind.bits .u32) c ^^^ BitVec.ofInt (IntKind.bits .u32) (IntKind.wrap .u32 (List.getD a (Int.toNat f) (dflt (.int .u8))))).toNat : Int)) &&& BitVec.ofInt (IntKind.bits .u32) (15 : Int)).toNat : Int) < (16 : Int) ∧ List.length gl0 = 16) then
 bif decide (Int.toNat (IntKind.wrap .u32 ((BitVec.ofInt (IntKind.bits .u32) (IntKind.wrap .u32 ((BitVec.ofInt (IntKind.bits .u32) c ^^^ BitVec.ofInt (IntKind.bits .u32) (IntKind.wrap .u32 (List.getD a (Int.toNat f) (dflt (.int .u8))))).toNat : Int)) &&& BitVec.ofInt (IntKind.bits .u32) (15 : Int)).toNat : Int)) < List.length gl0) then
 bif decide ((0 : Int) ≤ IntKind.wrap .u32 ((BitVec.ofInt (IntKind.bits .u32) (IntKind.wrap .u32 ((BitVec.ofInt (IntKind.bits .u32) (Int.fdiv (IntKind.wrap .u32 ((BitVec.ofInt (IntKind.bits .u32) c ^^^ BitVec.ofInt (IntKind.bits .u32) (IntKind.wrap .u32 (List.getD a (Int.toNat f) (dflt (.int .u8))))).toNat : Int)) (2 ^ (min (Int.toNat (4 : Int)) (IntKind.bits .u32)))) ^^^ BitVec.ofInt (IntKind.bits .u32) (List.getD gl0 (Int.toNat (IntKind.wrap .u32 ((BitVec.ofInt (IntKind.bits .u32) (IntKind.wrap .u32 ((BitVec.ofInt (IntKind.bits .u32) c ^^^ BitVec.ofInt (IntKind.bits .u32) (IntKind.wrap .u32 (List.getD a (Int.toNat f) (dflt (.int .u8))))).toNat : Int)) &&& BitVec.ofInt (IntKind.bits .u32) (15 : Int)).toNat : Int))) (dflt (.int .u32)))).toNat : Int)) &&& BitVec.ofInt (IntKind.bits .u32) (15 : Int)).toNat : Int) ∧ IntKind.wrap .u32 ((BitVec.ofInt (IntKind.bits .u32) (IntKind.wrap .u32 ((BitVec.ofInt (IntKind.bits .u32) (Int.fdiv (IntKind.wrap .u32 ((BitVec.ofInt (IntKind.bits .u32) c ^^^ BitVec.ofInt (IntKind.bits .u32) (IntKind.wrap .u32 (List.getD a (Int.toNat f) (dflt (.int .u8))))).toNat : Int)) (2 ^ (min (Int.toNat (4 : Int)) (IntKind.bits .u32)))) ^^^ BitVec.ofInt (IntKind.bits .u32) (List.getD gl0 (Int.toNat (IntKind.wrap .u32 ((BitVec.ofInt (IntKind.bits .u32) (IntKind.wrap .u32 ((BitVec.ofInt (IntKind.bits .u32) c ^^^ BitVec.ofInt (IntKind.bits .u32) (IntKind.wrap .u32 (List.getD a (Int.toNat f) (dflt (.int .u8))))).toNat : Int)) &&& BitVec.ofInt (IntKind.bits .u32) (15 : Int)).toNat : Int))) (dflt (.int .u32)))).toNat : Int)) &&& BitVec.ofInt (IntKind.bits .u32) (15 : Int)).toNat : Int) < (16 : Int) ∧ List.length gl0 = 16) then
 bif decide (Int.toNat (IntKind.wrap .u32 ((BitVec.ofInt (IntKind.bits .u32) (IntKind.wrap .u32 ((BitVec.ofInt (IntKind.bits .u32) (Int.fdiv (IntKind.wrap .u32 ((BitVec.ofInt (IntKind.bits .u32) c ^^^ BitVec.ofInt (IntKind.bits .u32) (IntKind.wrap .u32 (List.getD a (Int.toNat f) (dflt (.int .u8))))).toNat : Int)) (2 ^ (min (Int.toNat (4 : Int)) (IntKind.bits .u32)))) ^^^ BitVec.ofInt (IntKind.bits .u32) (List.getD gl0 (Int.toNat (IntKind.wrap .u32 ((BitVec.ofInt (IntKind.bits .u32) (IntKind.wrap .u32 ((BitVec.ofInt (IntKind.bits .u32) c ^^^ BitVec.ofInt (IntKind.bits .u32) (IntKind.wrap .u32 (List.getD a (Int.toNat f) (dflt (.int .u8))))).toNat : Int)) &&& BitVec.ofInt (IntKind.bits .u32) (15 : Int)).toNat : Int))) (dflt (.int .u32)))).toNat : Int)) &&& BitVec.ofInt (IntKind.bits .u32) (15 : Int)).toNat : Int)) < List.length gl0) then
 some (.inl ((IntKind.wrap .u32 ((BitVec.ofInt (IntKind.bits .u32) (Int.fdiv (IntKind.wrap .u32 ((BitVec.ofInt (IntKind.bits .u32) (Int.fdiv (IntKind.wrap .u32 ((BitVec.ofInt (IntKind.bits .u32) c ^^^ BitVec.ofInt (IntKind.bits .u32) (IntKind.wrap .u32 (List.getD a (Int.toNat f) (dflt (.int .u8))))).toNat : Int)) (2 ^ (min (Int.toNat (4 : Int)) (IntKind.bits .u32)))) ^^^ BitVec.ofInt (IntKind.bits .u32) (List.getD gl0 (Int.toNat (IntKind.wrap .u32 ((BitVec.ofInt (IntKind.bits .u32) (IntKind.wrap .u32 ((BitVec.ofInt (IntKind.bits .u32) c ^^^ BitVec.ofInt (IntKind.bits .u32) (IntKind.wrap .u32 (List.getD a (Int.toNat f) (dflt (.int .u8))))).toNat : Int)) &&& BitVec.ofInt (IntKind.bits .u32) (15 : Int)).toNat : Int))) (dflt (.int .u32)))).toNat : Int)) (2 ^ (min (Int.toNat (4 : Int)) (IntKind.bits .u32)))) ^^^ BitVec.ofInt (IntKind.bits .u32) (List.getD gl0 (Int.toNat (IntKind.wrap .u32 ((BitVec.ofInt (IntKind.bits .u32) (IntKind.wrap .u32 ((BitVec.ofInt (IntKind.bits .u32) (Int.fdiv (IntKind.wrap .u32 ((BitVec.ofInt (IntKind.bits .u32) c ^^^ BitVec.ofInt (IntKind.bits .u32) (IntKind.wrap .u32 (List.getD a (Int.toNat f) (dflt (.int .u8))))).toNat : Int)) (2 ^ (min (Int.toNat (4 : Int)) (IntKind.bits .u32)))) ^^^ BitVec.ofInt (IntKind.bits .u32) (List.getD gl0 (Int.toNat (IntKind.wrap .u32 ((BitVec.ofInt (IntKind.bits .u32) (IntKind.wrap .u32 ((BitVec.ofInt (IntKind.bits .u32) c ^^^ BitVec.ofInt (IntKind.bits .u32) (IntKind.wrap .u32 (List.getD a (Int.toNat f) (dflt (.int .u8))))).toNat : Int)) &&& BitVec.ofInt (IntKind.bits .u32) (15 : Int)).toNat : Int))) (dflt (.int .u32)))).toNat : Int)) &&& BitVec.ofInt (IntKind.bits .u32) (15 : Int)).toNat : Int))) (dflt (.int .u32)))).toNat : Int), IntKind.wrap .i64 (f + (1 : Int)), ()), ()))
 else none
 else none
 else none
 else none
 else none
 else none
 else
 inrO (some ((), IntKind.wrap .u32 ((BitVec.ofInt (IntKind.bits .u32) 4294967295 ^^^ BitVec.ofInt (IntKind.bits .u32) c).toNat : Int))))
 (((4294967295 : Int), (0 : Int), ()), ())
def e24 (fu : Nat) : Ent := ⟨24, (.cons (.hole (.sl (.int .u8))) .nil), .nil, (.hole (.int .u32)), p24 fu⟩
def d24 (_ : Nat) : DC := (.seq (.region [opD 2 (.mov (.const (.int .u32 0)))] [[]] false) (.seq (.region [opD 3 (.mov (.const (.int .u32 4294967295)))] [[]] false) (.seq (.seq (.region [mvD 6 0, opD 7 (.len false (tD 6)), opD 8 (.mov (cD 0))] [[], [0], []] false) (.block 0 (.loop ⟨[3, 8], (.cons (.hole (.int .u32)) (.cons (.hole (.int .i64)) .nil)), [], .nil, [6, 7], []⟩
 (.seq (.region [opD 9 (.bin .lss (tD 8) (tD 7))] [[]] false) (.seq (.cond (.tmp 9) .skip (.exit 0)) (.seq (.block 1 (.seq (.region [opD 10 (.iaddr 1 (tD 6) (tD 8)), opD 11 (.load false 1 (tD 10)), mvD 5 11] [[], [0], [1, 0, 1]] false) (.seq (.region [mvD 12 3, mvD 13 5, opD 14 (.conv .u32 (tD 13)), opD 15 (.bin .xor (tD 12) (tD 14)), mvD 3 15] [[], [], [1], [0, 2], [3, 0, 1, 2, 3]] false) (.seq (.region [mvD 16 3, opD 17 (.bin .shr (tD 16) (.const (.int .u64 4))), mvD 18 3, opD 19 (.bin .and (tD 18) (.const (.int .u32 15))), opD 20 (.pure (.gidx 16) [(.global 0), (tD 19)]), opD 21 (.load false 1 (tD 20)), opD 22 (.bin .xor (tD 17) (tD 21)), mvD 3 22] [[], [0], [], [2], [3], [4], [1, 5], [6, 0, 1, 2, 3, 4, 5, 6]] false) (.region [mvD 23 3, opD 24 (.bin .shr (tD 23) (.const (.int .u64 4))), mvD 25 3, opD 26 (.bin .and (tD 25) (.const (.int .u32 15))), opD 27 (.pure (.gidx 16) [(.global 0), (tD 26)]), opD 28 (.load false 1 (tD 27)), opD 29 (.bin .xor (tD 24) (tD 28)), mvD 3 29] [[], [0], [], [2], [3], [4], [1, 5], [6, 0, 1, 2, 3, 4, 5, 6]] false))))) (.region [opD 30 (.bin .add (tD 8) (cD 1)), mvD 8 30] [[], [0]] false))))))) (.seq (.region [mvD 31 3, opD 32 (.pure .com [(tD 31)]), mvD 2 32] [[], [0], [1, 0, 1]] false) .ret))))
set_option maxRecDepth 1000000 in
theorem v24 (fu : Nat) : evF fu (d24 fu) rs24 33 (e24 fu).ash (e24 fu).osh (e24 fu).vsh = p24 fu := by kernel_rfl
set_option maxRecDepth 1000000 in
theorem b24 (fu : Nat) : BodyD Tryd.prog 24 33 (d24 fu).erase rs24 := bodyD_mk Tryd.func24 (by kernel_rfl) (by kernel_rfl) (by kernel_rfl) (by kernel_rfl)
theorem g24 (fu : Nat) : (e24 fu).Good Tryd.prog := good_by orders (b24 fu) (l := []) (by kernel_rfl) trivial (by kernel_rfl) (v24 fu)
def rs11 : List RVx := [(.tmp 0)]
/-- gazette/gazettelaw01.lives -/
def p11 (fu : Nat) : Unit → Option ((Unit) × (Bool)) := fun _ =>
Option.bind (p34 fu (((), ()), (300 : Int), ())) fun ⟨⟨⟨a, _⟩, _⟩, _⟩ =>
bif decide (List.length a = List.length a) then
 Option.bind (p35 fu ((a, ()), (⟨#[97, 98]⟩ : ByteArray), ())) fun ⟨⟨⟨c, _⟩, _, _⟩, _⟩ =>
 bif decide (List.length c = List.length c) then
 Option.bind (p27 fu ((c, ()), ())) fun ⟨_, f⟩ =>
 bif decide (List.length f = List.length f) then
 bif ByteArray.toList (strOfNums f) == ByteArray.toList (⟨#[172, 2, 2, 97, 98]⟩ : ByteArray) then
 bif decide (9 = List.length ([(49 : Int), (50 : Int), (51 : Int), (52 : Int), (53 : Int), (54 : Int), (55 : Int), (56 : Int), (57 : Int)]) ∧ 0 < 9) then
 Option.bind (p24 fu ([(49 : Int), (50 : Int), (51 : Int), (52 : Int), (53 : Int), (54 : Int), (55 : Int), (56 : Int), (57 : Int)], ())) fun ⟨_, h⟩ =>
 some ((), (h == (3808858755 : Int)))
 else none
 else
 some ((), false)
 else none
 else none
else none
def e11 (fu : Nat) : Ent := ⟨11, .nil, .nil, (.hole .bool), p11 fu⟩
def d11 (fu : Nat) : DC := (.seq (.region [opD 0 (.mov (.const vB))] [[]] false) (.seq (.region [opD 2 (.build 1 [vS] []), opD 3 (.box 60 1 (tD 2)), mvD 1 3] [[], [0], [1, 0, 1]] false) (.seq (.region [mvD 4 1, oqD 5 (.call 34 [(tD 4), (.const (.int .u64 300))]) (.ent (e34 fu))] [[], [0]] false) (.seq (.region [mvD 6 1, oqD 7 (.call 35 [(tD 6), (.const (.string ⟨#[97, 98]⟩))]) (.ent (e35 fu))] [[], [0]] false) (.seq (.region [mvD 8 1, oqD 9 (.call 27 [(tD 8)]) (.ent (e27 fu)), opD 10 (.b2s (tD 9)), opD 11 (.bin .eql (tD 10) (.const (.string ⟨#[172, 2, 2, 97, 98]⟩))), mvD 12 11, (⟨(some 13), (some (12, true)), (.bslice 5 1 9 [(.int .u8 0)] [(0, (.const (.int .u8 49))), (1, (.const (.int .u8 50))), (2, (.const (.int .u8 51))), (3, (.const (.int .u8 52))), (4, (.const (.int .u8 53))), (5, (.const (.int .u8 54))), (6, (.const (.int .u8 55))), (7, (.const (.int .u8 56))), (8, (.const (.int .u8 57)))])⟩, (.ty (.int .u8))), ogD 14 12 true (.b2b (tD 13)), (⟨(some 15), (some (12, true)), (.call 24 [(tD 14)])⟩, (.ent (e24 fu))), ogD 16 12 true (.bin .eql (tD 15) (.const (.int .u32 3808858755))), opD 17 (.pick (tD 12) (tD 16) (.const vB)), mvD 0 17] [[], [0], [1], [2], [3, 1], [4], [5, 4], [6, 4, 4], [7, 4], [4, 8], [9, 7, 0, 1, 2, 3, 4, 5, 6, 7, 8, 9]] false) .ret)))))
set_option maxRecDepth 1000000 in
theorem v11 (fu : Nat) : evF fu (d11 fu) rs11 18 (e11 fu).ash (e11 fu).osh (e11 fu).vsh = p11 fu := by kernel_rfl
set_option maxRecDepth 1000000 in
theorem b11 (fu : Nat) : BodyD Tryd.prog 11 18 (d11 fu).erase rs11 := bodyD_mk Tryd.func11 (by kernel_rfl) (by kernel_rfl) (by kernel_rfl) (by kernel_rfl)
theorem g11 (fu : Nat) : (e11 fu).Good Tryd.prog := good_by orders (b11 fu) (l := [e34 fu, e35 fu, e27 fu, e24 fu]) (by kernel_rfl) ⟨g34 fu, g35 fu, g27 fu, g24 fu, trivial⟩ (by kernel_rfl) (v11 fu)
def rs14 : List RVx := [(.tmp 2)]
/-- gazette/codec.NewReader -/
def p14 (_ : Nat) : (List (Int)) × (Unit) → Option ((Unit) × ((List (Int)) × ((Int) × ((Unit) × (Unit))))) := fun ⟨a, _⟩ =>
bif decide (List.length a ≤ maxLen ∧ List.length a * 1 ≤ 140737488355328) then
 bif decide (List.length a = List.length a) then
 some ((), (a, (0 : Int), (), ()))
 else none
else none
def e14 (fu : Nat) : Ent := ⟨14, (.cons (.hole (.sl (.int .u8))) .nil), .nil, (.box 95 3 (.cons (.own .own 5 (.int .u8)) (.cons (.hole (.int .i64)) (.cons (.nilv 1) .nil)))), p14 fu⟩
def d14 (_ : Nat) : DC := (.seq (.region [opD 2 (.mov (.const (.pointer none)))] [[]] false) (.seq (.region [mvD 3 0, oqD 4 (.app 5 1 [(.int .u8 0)] 1 (.const vS) (tD 3)) (.ty (.int .u8)), opD 5 (.build 3 [vS, vI, .nilIface] [(0, (1, (tD 4)))]), opD 6 (.box 95 3 (tD 5)), mvD 2 6] [[], [0], [1], [2], [3, 1, 0, 1, 2, 3]] false) .ret))
set_option maxRecDepth 1000000 in
theorem v14 (fu : Nat) : evF fu (d14 fu) rs14 7 (e14 fu).ash (e14 fu).osh (e14 fu).vsh = p14 fu := by kernel_rfl
set_option maxRecDepth 1000000 in
theorem b14 (fu : Nat) : BodyD Tryd.prog 14 7 (d14 fu).erase rs14 := bodyD_mk Tryd.func14 (by kernel_rfl) (by kernel_rfl) (by kernel_rfl) (by kernel_rfl)
theorem g14 (fu : Nat) : (e14 fu).Good Tryd.prog := good_by orders (b14 fu) (l := []) (by kernel_rfl) trivial (by kernel_rfl) (v14 fu)
def rs40 : List RVx := [(.tmp 2), (.tmp 3), (.tmp 4)]
/-- gazette/codec.number -/
def p40 (fu : Nat) : (List (Int)) × (Unit) → Option ((Unit) × ((Int) × ((Int) × ((Int) × (Unit))))) := fun ⟨a, _⟩ =>
loopO (S := ((Int) × ((Int) × (Unit))) × (Unit)) fu (fun ⟨⟨c, f, _⟩, _⟩ =>
 bif decide (f < (10 : Int)) then
 bif (f == (List.length a : Int)) then
 inrO (some ((), ((0 : Int), (0 : Int), (11 : Int), ())))
 else
 bif decide ((0 : Int) ≤ f ∧ f < (List.length a : Int)) then
 bif decide (Int.toNat f < List.length a) then
 orK (E := ((Int) × ((Bool) × ((Bool) × ((Bool) × (Unit))))) × (Unit))
 (bif (f == (9 : Int)) then
 bif ((List.getD a (Int.toNat f) (dflt (.int .u8))) != (1 : Int)) then
 inrO (inrO (some ((), ((0 : Int), (0 : Int), (12 : Int), ()))))
 else
 bif ((List.getD a (Int.toNat f) (dflt (.int .u8))) == (0 : Int)) then
 bif decide (f > (0 : Int)) then
 inrO (inrO (some ((), ((0 : Int), (0 : Int), (12 : Int), ()))))
 else
 some (.inl (((List.getD a (Int.toNat f) (dflt (.int .u8))), ((List.getD a (Int.toNat f) (dflt (.int .u8))) == (0 : Int)), true, decide (f > (0 : Int)), ()), ()))
 else
 some (.inl (((List.getD a (Int.toNat f) (dflt (.int .u8))), ((List.getD a (Int.toNat f) (dflt (.int .u8))) == (0 : Int)), false, false, ()), ()))
 else
 bif ((List.getD a (Int.toNat f) (dflt (.int .u8))) == (0 : Int)) then
 bif decide (f > (0 : Int)) then
 inrO (inrO (some ((), ((0 : Int), (0 : Int), (12 : Int), ()))))
 else
 some (.inl (((List.getD a (Int.toNat f) (dflt (.int .u8))), ((List.getD a (Int.toNat f) (dflt (.int .u8))) == (0 : Int)), true, decide (f > (0 : Int)), ()), ()))
 else
 some (.inl (((List.getD a (Int.toNat f) (dflt (.int .u8))), ((List.getD a (Int.toNat f) (dflt (.int .u8))) == (0 : Int)), false, false, ()), ())))
 fun ⟨⟨_, _, _, _, _⟩, _⟩ =>
 bif decide ((0 : Int) ≤ (IntKind.wrap .i64 ((7 : Int) * f))) then
 bif decide ((List.getD a (Int.toNat f) (dflt (.int .u8))) < (128 : Int)) then
 inrO (some ((), (IntKind.wrap .u64 ((BitVec.ofInt (IntKind.bits .u64) c ||| BitVec.ofInt (IntKind.bits .u64) (IntKind.wrap .u64 ((IntKind.wrap .u64 (IntKind.wrap .u8 ((BitVec.ofInt (IntKind.bits .u8) (List.getD a (Int.toNat f) (dflt (.int .u8))) &&& BitVec.ofInt (IntKind.bits .u8) (127 : Int)).toNat : Int))) * 2 ^ (min (Int.toNat (IntKind.wrap .i64 ((7 : Int) * f))) (IntKind.bits .u64))))).toNat : Int), IntKind.wrap .i64 (f + (1 : Int)), (0 : Int), ())))
 else
 some (.inl ((IntKind.wrap .u64 ((BitVec.ofInt (IntKind.bits .u64) c ||| BitVec.ofInt (IntKind.bits .u64) (IntKind.wrap .u64 ((IntKind.wrap .u64 (IntKind.wrap .u8 ((BitVec.ofInt (IntKind.bits .u8) (List.getD a (Int.toNat f) (dflt (.int .u8))) &&& BitVec.ofInt (IntKind.bits .u8) (127 : Int)).toNat : Int))) * 2 ^ (min (Int.toNat (IntKind.wrap .i64 ((7 : Int) * f))) (IntKind.bits .u64))))).toNat : Int), IntKind.wrap .i64 (f + (1 : Int)), ()), ()))
 else none
 else none
 else none
 else
 inrO (some ((), ((0 : Int), (0 : Int), (12 : Int), ()))))
 (((0 : Int), (0 : Int), ()), ())
def e40 (fu : Nat) : Ent := ⟨40, (.cons (.hole (.sl (.int .u8))) .nil), .nil, (.tup 3 (.cons (.hole (.int .u64)) (.cons (.hole (.int .i64)) (.cons (.hole (.int .i64)) .nil)))), p40 fu⟩
def d40 (_ : Nat) : DC := (.seq (.region [opD 2 (.mov (.const vU)), opD 3 (.mov (cD 0)), opD 4 (.mov (cD 0))] [[], [0], [1]] false) (.seq (.region [opD 5 (.mov (.const vU))] [[]] false) (.seq (.seq (.region [opD 9 (.mov (cD 0))] [[]] false) (.block 0 (.loop ⟨[5, 9], (.cons (.hole (.int .u64)) (.cons (.hole (.int .i64)) .nil)), [], .nil, [0], []⟩
 (.seq (.region [opD 10 (.bin .lss (tD 9) (cD 10))] [[]] false) (.seq (.cond (.tmp 10) .skip (.exit 0)) (.seq (.block 1 (.seq (.region [mvD 11 9, mvD 6 11] [[], [0, 0]] false) (.seq (.seq (.region [mvD 12 6, mvD 13 0, opD 14 (.len false (tD 13)), opD 15 (.bin .eql (tD 12) (tD 14))] [[], [], [1], [0, 2]] false) (.cond (.tmp 15) (.seq (.region [opD 2 (.mov (.const vU)), opD 3 (.mov (cD 0)), opD 4 (.mov (cD 11))] [[], [0, 0], [1, 0, 1]] false) .ret) .skip)) (.seq (.region [mvD 16 0, mvD 17 6, opD 18 (.iaddr 1 (tD 16) (tD 17)), opD 19 (.load false 1 (tD 18)), mvD 7 19] [[], [], [0, 1], [2], [3, 0, 1, 2, 3]] false) (.seq (.region [mvD 20 6, opD 21 (.bin .eql (tD 20) (cD 9)), mvD 8 21] [[], [0], [1, 0, 1]] false) (.join ⟨[28, 29, 30, 33], (.cons (.hole (.int .u8)) (.cons (.hole .bool) (.cons (.hole .bool) (.cons (.hole .bool) .nil)))), [], .nil, [0, 5, 6, 7, 9], []⟩
 (.seq (.region [mvD 22 8, mvD 23 22, ogD 24 23 true (.mov (tD 7)), ogD 25 23 true (.bin .neq (tD 24) (.const (.int .u8 1))), opD 26 (.pick (tD 23) (tD 25) (.const vB)), mvD 27 26, ogD 28 27 false (.mov (tD 7)), ogD 29 27 false (.bin .eql (tD 28) (.const (.int .u8 0))), ogD 30 27 false (.mov (tD 29)), ogD 31 30 true (.mov (tD 6)), ogD 32 30 true (.bin .gtr (tD 31) (cD 0)), ogD 33 27 false (.pick (tD 30) (tD 32) (.const vB)), opD 34 (.pick (tD 27) (.const (.bool true)) (tD 33))] [[], [0], [1], [2, 1], [1, 3], [4, 1], [5], [6, 5], [7, 5, 5], [8], [9, 8], [8, 10, 5], [5, 11]] false) (.cond (.tmp 34) (.exit 0) .skip))
 (.seq (.region [mvD 35 5, mvD 36 7, opD 37 (.bin .and (tD 36) (.const (.int .u8 127))), opD 38 (.conv .u64 (tD 37)), mvD 39 6, opD 40 (.bin .mul (cD 7) (tD 39)), opD 41 (.bin .shl (tD 38) (tD 40)), opD 42 (.bin .or (tD 35) (tD 41)), mvD 5 42] [[], [], [1], [2], [], [4], [3, 5], [0, 6], [7, 0, 1, 2, 3, 4, 5, 6, 7]] false) (.seq (.region [mvD 43 7, opD 44 (.bin .lss (tD 43) (.const (.int .u8 128)))] [[], [0]] false) (.cond (.tmp 44) (.seq (.region [mvD 45 5, mvD 46 6, opD 47 (.bin .add (tD 46) (cD 1)), mvD 2 45, mvD 3 47, opD 4 (.mov (cD 0))] [[], [], [1], [0, 0], [2, 3, 0, 1, 2, 3], [4, 0, 1, 2, 3, 4]] false) .ret) .skip))))))))) (.region [opD 48 (.bin .add (tD 9) (cD 1)), mvD 9 48] [[], [0]] false))))))) (.seq (.region [opD 2 (.mov (.const vU)), opD 3 (.mov (cD 0)), opD 4 (.mov (cD 12))] [[], [0, 0], [1, 0, 1]] false) .ret))))
set_option maxRecDepth 1000000 in
theorem v40 (fu : Nat) : evF fu (d40 fu) rs40 49 (e40 fu).ash (e40 fu).osh (e40 fu).vsh = p40 fu := by kernel_rfl
set_option maxRecDepth 1000000 in
theorem b40 (fu : Nat) : BodyD Tryd.prog 40 49 (d40 fu).erase rs40 := bodyD_mk Tryd.func40 (by kernel_rfl) (by kernel_rfl) (by kernel_rfl) (by kernel_rfl)
theorem g40 (fu : Nat) : (e40 fu).Good Tryd.prog := good_by orders (b40 fu) (l := []) (by kernel_rfl) trivial (by kernel_rfl) (v40 fu)
def rs43 : List RVx := []
/-- (*gazette/codec.Reader).failAt -/
def p43 (_ : Nat) : ((List (Int)) × ((Int) × ((Unit) × (Unit)))) × ((Int) × ((Int) × (Unit))) → Option ((((List (Int)) × ((Int) × (((Bool) × (((Int) × ((Int) × (Unit))) × (Unit))) × (Unit)))) × ((Unit) × (Unit))) × (Unit)) := fun ⟨⟨a, c, _, _⟩, f, h, _⟩ =>
bif (h != (0 : Int)) then
 bif decide (List.length a = List.length a) then
 some (((a, c, (true, (h, f, ()), dflt .unit), ()), (), ()), ())
 else none
else
 bif decide (List.length a = List.length a) then
 some (((a, c, (false, dflt (.pair (.int .i64) (.pair (.int .i64) .unit)), ()), ()), (), ()), ())
 else none
def e43 (fu : Nat) : Ent := ⟨43, (.cons (.box 95 3 (.cons (.own .own 5 (.int .u8)) (.cons (.hole (.int .i64)) (.cons (.nilv 1) .nil)))) (.cons (.hole (.int .i64)) (.cons (.hole (.int .i64)) .nil))), (.cons Y1 (.cons .dead .nil)), (.tup 0 .nil), p43 fu⟩
def d43 (_ : Nat) : DC := (.seq (.region [mvD 6 0, opD 7 (.pure .nilc [(tD 6)]), opD 8 (.faddr 2 (tD 7)), opD 9 (.load false 1 (tD 8)), opD 10 (.pure (.nilq 1 false) [(tD 9)]), mvD 11 10, ogD 12 11 true (.mov (tD 2)), ogD 13 11 true (.bin .neq (tD 12) (cD 0)), opD 14 (.pick (tD 11) (tD 13) (.const vB))] [[], [0], [1], [2], [3], [4], [5], [6, 5], [5, 7]] false) (.cond (.tmp 14) (.region [mvD 15 0, mvD 16 2, mvD 17 1, opD 18 (.build 2 [vI, vI] [(0, (1, (tD 16))), (1, (1, (tD 17)))]), opD 19 (.box 103 2 (tD 18)), opD 20 (.ifc 99 (tD 19)), opD 21 (.pure .nilc [(tD 15)]), opD 22 (.faddr 2 (tD 21)), onD (.store 1 (tD 22) (tD 20))] [[], [], [], [1, 2], [3], [4], [0, 0, 1, 2, 3, 4, 5], [6, 0, 1, 2, 3, 4, 5], [7, 5, 0, 1, 2, 3, 4, 5]] false) .skip))
set_option maxRecDepth 1000000 in
theorem v43 (fu : Nat) : evF fu (d43 fu) rs43 23 (e43 fu).ash (e43 fu).osh (e43 fu).vsh = p43 fu := by kernel_rfl
set_option maxRecDepth 1000000 in
theorem b43 (fu : Nat) : BodyD Tryd.prog 43 23 (d43 fu).erase rs43 := bodyD_mk Tryd.func43 (by kernel_rfl) (by kernel_rfl) (by kernel_rfl) (by kernel_rfl)
theorem g43 (fu : Nat) : (e43 fu).Good Tryd.prog := good_by orders (b43 fu) (l := []) (by kernel_rfl) trivial (by kernel_rfl) (v43 fu)
def rs41 : List RVx := []
/-- (*gazette/codec.Reader).Fail -/
def p41 (fu : Nat) : ((List (Int)) × ((Int) × ((Unit) × (Unit)))) × ((Int) × (Unit)) → Option ((((List (Int)) × ((Int) × (((Bool) × (((Int) × ((Int) × (Unit))) × (Unit))) × (Unit)))) × ((Unit) × (Unit))) × (Unit)) := fun ⟨⟨a, c, _, _⟩, f, _⟩ =>
bif decide (List.length a = List.length a) then
 Option.bind (p43 fu ((a, c, (), ()), c, f, ())) fun ⟨⟨⟨h, i, ⟨j, ⟨k, l, _⟩, _⟩, _⟩, _, _⟩, _⟩ =>
 bif j then
 bif decide (List.length h = List.length h) then
 some (((h, i, (true, (k, l, ()), dflt .unit), ()), (), ()), ())
 else none
 else
 bif decide (List.length h = List.length h) then
 some (((h, i, (false, dflt (.pair (.int .i64) (.pair (.int .i64) .unit)), ()), ()), (), ()), ())
 else none
else none
def e41 (fu : Nat) : Ent := ⟨41, (.cons (.box 95 3 (.cons (.own .own 5 (.int .u8)) (.cons (.hole (.int .i64)) (.cons (.nilv 1) .nil)))) (.cons (.hole (.int .i64)) .nil)), (.cons Y1 (.cons .dead .nil)), (.tup 0 .nil), p41 fu⟩
def d41 (fu : Nat) : DC := (.region [mvD 4 0, mvD 5 0, opD 6 (.pure .nilc [(tD 5)]), opD 7 (.faddr 1 (tD 6)), opD 8 (.load false 1 (tD 7)), mvD 9 1, oqD 10 (.call 43 [(tD 4), (tD 8), (tD 9)]) (.ent (e43 fu))] [[], [], [1], [2], [3], [], [0, 4, 5]] false)
set_option maxRecDepth 1000000 in
theorem v41 (fu : Nat) : evF fu (d41 fu) rs41 11 (e41 fu).ash (e41 fu).osh (e41 fu).vsh = p41 fu := by kernel_rfl
set_option maxRecDepth 1000000 in
theorem b41 (fu : Nat) : BodyD Tryd.prog 41 11 (d41 fu).erase rs41 := bodyD_mk Tryd.func41 (by kernel_rfl) (by kernel_rfl) (by kernel_rfl) (by kernel_rfl)
theorem g41 (fu : Nat) : (e41 fu).Good Tryd.prog := good_by orders (b41 fu) (l := [e43 fu]) (by kernel_rfl) ⟨g43 fu, trivial⟩ (by kernel_rfl) (v41 fu)
def rs15 : List RVx := [(.tmp 2)]
/-- (*gazette/codec.Reader).Uint -/
def p15_2 (fu : Nat) : ((List (Int)) × ((Int) × (((Bool) × (((Int) × ((Int) × (Unit))) × (Unit))) × (Unit)))) × (Unit) → Option ((((List (Int)) × ((Int) × (((Bool) × (((Int) × ((Int) × (Unit))) × (Unit))) × (Unit)))) × ((Unit) × (Unit))) × (Int)) := fun ⟨⟨a, c, ⟨f, ⟨h, i, _⟩, _⟩, _⟩, _⟩ =>
bif f then
 bif decide (List.length a = List.length a) then
 some (((a, c, (true, (h, i, ()), dflt .unit), ()), (), ()), (0 : Int))
 else none
else
 bif decide ((0 : Int) ≤ c) then
 bif decide (Int.toNat c ≤ List.length a ∧ 0 + (List.length a) ≤ List.length a) then
 bif decide ((Int.toNat c) + ((List.length a) - (Int.toNat c)) ≤ List.length a) then
 Option.bind (p40 fu (sub' a (Int.toNat c) ((List.length a) - (Int.toNat c)), ())) fun ⟨_, ⟨j, k, l, _⟩⟩ =>
 bif decide (List.length a = List.length a) then
 Option.bind (p41 fu ((a, c, (), ()), l, ())) fun ⟨⟨⟨m, n, ⟨o, ⟨q, s, _⟩, _⟩, _⟩, _, _⟩, _⟩ =>
 bif o then
 bif decide (List.length m = List.length m) then
 some (((m, IntKind.wrap .i64 (n + k), (true, (q, s, ()), dflt .unit), ()), (), ()), j)
 else none
 else
 bif decide (List.length m = List.length m) then
 some (((m, IntKind.wrap .i64 (n + k), (false, dflt (.pair (.int .i64) (.pair (.int .i64) .unit)), ()), ()), (), ()), j)
 else none
 else none
 else none
 else none
 else none
def e15_2 (fu : Nat) : Ent := ⟨15, (.cons Y2 .nil), (.cons Y1 (.cons .dead .nil)), (.hole (.int .u64)), p15_2 fu⟩
def d15_2 (fu : Nat) : DC := (.seq (.region [opD 2 (.mov (.const vU))] [[]] false) (.seq (.seq (.region [mvD 6 0, opD 7 (.pure .nilc [(tD 6)]), opD 8 (.faddr 2 (tD 7)), opD 9 (.load false 1 (tD 8)), opD 10 (.pure (.nilq 1 true) [(tD 9)])] [[], [0], [1], [2], [3]] false) (.cond (.tmp 10) (.seq (.region [opD 2 (.mov (.const vU))] [[]] false) .ret) .skip)) (.seq (.region [mvD 12 0, opD 13 (.pure .nilc [(tD 12)]), opD 14 (.faddr 0 (tD 13)), opD 15 (.load false 1 (tD 14)), mvD 16 0, opD 17 (.pure .nilc [(tD 16)]), opD 18 (.faddr 1 (tD 17)), opD 19 (.load false 1 (tD 18)), opD 20 (.slc 1 (tD 15) (some (tD 19)) none), oqD 21 (.call 40 [(tD 20)]) (.ent (e40 fu)), mvD 11 21, opD 22 (.ext (tD 11) 0), opD 23 (.ext (tD 11) 1), opD 24 (.ext (tD 11) 2), mvD 3 22, mvD 4 23, mvD 5 24] [[], [0], [1], [2], [], [4], [5], [6], [3, 7], [8], [9], [10], [10], [10], [11, 9, 0, 1, 2, 3, 4, 5, 6, 7, 8, 9, 10, 11], [12, 14, 0, 1, 2, 3, 4, 5, 6, 7, 8, 9, 10, 11, 12, 14], [13, 15, 0, 1, 2, 3, 4, 5, 6, 7, 8, 9, 10, 11, 12, 13, 14, 15]] true) (.seq (.region [mvD 25 0, mvD 26 5, oqD 27 (.call 41 [(tD 25), (tD 26)]) (.ent (e41 fu))] [[], [], [0, 1]] false) (.seq (.region [mvD 28 0, opD 29 (.pure .nilc [(tD 28)]), opD 30 (.faddr 1 (tD 29)), opD 31 (.load false 1 (tD 30)), mvD 32 4, opD 33 (.bin .add (tD 31) (tD 32)), opD 34 (.pure .nilc [(tD 28)]), opD 35 (.faddr 1 (tD 34)), onD (.store 1 (tD 35) (tD 33))] [[], [0], [1], [2], [], [3, 4], [0, 0, 1, 2, 3, 4, 5], [6, 0, 1, 2, 3, 4, 5], [7, 5, 0, 1, 2, 3, 4, 5]] false) (.seq (.region [mvD 36 3, mvD 2 36] [[], [0, 0]] false) .ret))))))
set_option maxRecDepth 1000000 in
theorem v15_2 (fu : Nat) : evF fu (d15_2 fu) rs15 37 (e15_2 fu).ash (e15_2 fu).osh (e15_2 fu).vsh = p15_2 fu := by kernel_rfl
set_option maxRecDepth 1000000 in
theorem b15_2 (fu : Nat) : BodyD Tryd.prog 15 37 (d15_2 fu).erase rs15 := bodyD_mk Tryd.func15 (by kernel_rfl) (by kernel_rfl) (by kernel_rfl) (by kernel_rfl)
theorem g15_2 (fu : Nat) : (e15_2 fu).Good Tryd.prog := good_by orders (b15_2 fu) (l := [e40 fu, e41 fu]) (by kernel_rfl) ⟨g40 fu, g41 fu, trivial⟩ (by kernel_rfl) (v15_2 fu)
def rs16 : List RVx := [(.tmp 2), (.tmp 3)]
/-- (*gazette/codec.Reader).Err -/
def p16_2 (fu : Nat) : ((List (Int)) × ((Int) × (((Bool) × (((Int) × ((Int) × (Unit))) × (Unit))) × (Unit)))) × (Unit) → Option ((((List (Int)) × ((Int) × (((Bool) × (((Int) × ((Int) × (Unit))) × (Unit))) × (Unit)))) × ((Unit) × (Unit))) × ((Int) × ((Int) × (Unit)))) := fun ⟨⟨a, c, ⟨f, ⟨h, i, _⟩, _⟩, _⟩, _⟩ =>
bif f then
 Option.bind (pAs fu ((false, dflt .unit, (h, i, ())), ((), ()), ())) fun ⟨⟨⟨⟨j, _, ⟨k, l, _⟩⟩, _⟩, _⟩, m⟩ =>
 bif j then
 bif m then
 none
 else
 bif decide (List.length a = List.length a) then
 some (((a, c, (true, (h, i, ()), dflt .unit), ()), (), ()), ((0 : Int), (0 : Int), ()))
 else none
 else
 bif m then
 bif decide (List.length a = List.length a) then
 some (((a, c, (true, (h, i, ()), dflt .unit), ()), (), ()), (k, l, ()))
 else none
 else
 bif decide (List.length a = List.length a) then
 some (((a, c, (true, (h, i, ()), dflt .unit), ()), (), ()), ((0 : Int), (0 : Int), ()))
 else none
else
 Option.bind (pAs fu ((true, (), dflt (.pair (.int .i64) (.pair (.int .i64) .unit))), ((), ()), ())) fun ⟨⟨⟨⟨n, _, ⟨o, q, _⟩⟩, _⟩, _⟩, s⟩ =>
 bif n then
 bif s then
 none
 else
 bif decide (List.length a = List.length a) then
 some (((a, c, (false, dflt (.pair (.int .i64) (.pair (.int .i64) .unit)), ()), ()), (), ()), ((0 : Int), (0 : Int), ()))
 else none
 else
 bif s then
 bif decide (List.length a = List.length a) then
 some (((a, c, (false, dflt (.pair (.int .i64) (.pair (.int .i64) .unit)), ()), ()), (), ()), (o, q, ()))
 else none
 else
 bif decide (List.length a = List.length a) then
 some (((a, c, (false, dflt (.pair (.int .i64) (.pair (.int .i64) .unit)), ()), ()), (), ()), ((0 : Int), (0 : Int), ()))
 else none
def e16_2 (fu : Nat) : Ent := ⟨16, (.cons Y2 .nil), (.cons Y1 (.cons .dead .nil)), (.tup 2 (.cons (.hole (.int .i64)) (.cons (.hole (.int .i64)) .nil))), p16_2 fu⟩
def d16_2 (fu : Nat) : DC := (.seq (.region [opD 2 (.mov (cD 0)), opD 3 (.mov (cD 0))] [[], [0]] false) (.seq (.region [opD 4 (.alloc 99 1 [(.pointer none)])] [[]] false) (.seq (.seq (.region [mvD 5 0, opD 6 (.pure .nilc [(tD 5)]), opD 7 (.faddr 2 (tD 6)), opD 8 (.load false 1 (tD 7)), opD 9 (.ifc 101 (tD 4)), oqD 10 (.call 42 [(tD 8), (tD 9)]) (.ent (eAs fu))] [[], [0], [1], [2], [], [3, 4]] false) (.cond (.tmp 10) (.seq (.region [opD 11 (.load false 1 (tD 4)), opD 12 (.pure .nilc [(tD 11)]), opD 13 (.faddr 0 (tD 12)), opD 14 (.load false 1 (tD 13)), opD 15 (.load false 1 (tD 4)), opD 16 (.pure .nilc [(tD 15)]), opD 17 (.faddr 1 (tD 16)), opD 18 (.load false 1 (tD 17)), mvD 2 14, mvD 3 18] [[], [0], [1], [2], [], [4], [5], [6], [3, 0, 1, 2, 3], [7, 8, 0, 1, 2, 3, 4, 5, 6, 7, 8]] true) .ret) .skip)) (.seq (.region [opD 2 (.mov (cD 0)), opD 3 (.mov (cD 0))] [[], [0, 0]] false) .ret))))
set_option maxRecDepth 1000000 in
theorem v16_2 (fu : Nat) : evF fu (d16_2 fu) rs16 19 (e16_2 fu).ash (e16_2 fu).osh (e16_2 fu).vsh = p16_2 fu := by kernel_rfl
set_option maxRecDepth 1000000 in
theorem b16_2 (fu : Nat) : BodyD Tryd.prog 16 19 (d16_2 fu).erase rs16 := bodyD_mk Tryd.func16 (by kernel_rfl) (by kernel_rfl) (by kernel_rfl) (by kernel_rfl)
theorem g16_2 (fu : Nat) : (e16_2 fu).Good Tryd.prog := good_by orders (b16_2 fu) (l := [eAs fu]) (by kernel_rfl) ⟨gAs fu, trivial⟩ (by kernel_rfl) (v16_2 fu)
def rs19 : List RVx := [(.tmp 2)]
/-- (*gazette/codec.Reader).Done -/
def p19_2 (fu : Nat) : ((List (Int)) × ((Int) × (((Bool) × (((Int) × ((Int) × (Unit))) × (Unit))) × (Unit)))) × (Unit) → Option ((((List (Int)) × ((Int) × (((Bool) × (((Int) × ((Int) × (Unit))) × (Unit))) × (Unit)))) × ((Unit) × (Unit))) × (Int)) := fun ⟨⟨a, c, ⟨f, ⟨h, i, _⟩, _⟩, _⟩, _⟩ =>
bif f then
 bif decide (List.length a = List.length a) then
 Option.bind (p16_2 fu ((a, c, (true, (h, i, ()), dflt .unit), ()), ())) fun ⟨⟨⟨j, k, ⟨l, ⟨m, n, _⟩, _⟩, _⟩, _, _⟩, ⟨o, _, _⟩⟩ =>
 bif l then
 bif (o == (0 : Int)) then
 bif decide (k < ((List.length j) : Int)) then
 bif decide (List.length j = List.length j) then
 some (((j, k, (true, (m, n, ()), dflt .unit), ()), (), ()), (15 : Int))
 else none
 else
 bif decide (List.length j = List.length j) then
 some (((j, k, (true, (m, n, ()), dflt .unit), ()), (), ()), o)
 else none
 else
 bif decide (List.length j = List.length j) then
 some (((j, k, (true, (m, n, ()), dflt .unit), ()), (), ()), o)
 else none
 else
 bif (o == (0 : Int)) then
 bif decide (k < ((List.length j) : Int)) then
 bif decide (List.length j = List.length j) then
 some (((j, k, (false, dflt (.pair (.int .i64) (.pair (.int .i64) .unit)), ()), ()), (), ()), (15 : Int))
 else none
 else
 bif decide (List.length j = List.length j) then
 some (((j, k, (false, dflt (.pair (.int .i64) (.pair (.int .i64) .unit)), ()), ()), (), ()), o)
 else none
 else
 bif decide (List.length j = List.length j) then
 some (((j, k, (false, dflt (.pair (.int .i64) (.pair (.int .i64) .unit)), ()), ()), (), ()), o)
 else none
 else none
else
 bif decide (List.length a = List.length a) then
 Option.bind (p16_2 fu ((a, c, (false, dflt (.pair (.int .i64) (.pair (.int .i64) .unit)), ()), ()), ())) fun ⟨⟨⟨q, s, ⟨t, ⟨u, w, _⟩, _⟩, _⟩, _, _⟩, ⟨x, _, _⟩⟩ =>
 bif t then
 bif (x == (0 : Int)) then
 bif decide (s < ((List.length q) : Int)) then
 bif decide (List.length q = List.length q) then
 some (((q, s, (true, (u, w, ()), dflt .unit), ()), (), ()), (15 : Int))
 else none
 else
 bif decide (List.length q = List.length q) then
 some (((q, s, (true, (u, w, ()), dflt .unit), ()), (), ()), x)
 else none
 else
 bif decide (List.length q = List.length q) then
 some (((q, s, (true, (u, w, ()), dflt .unit), ()), (), ()), x)
 else none
 else
 bif (x == (0 : Int)) then
 bif decide (s < ((List.length q) : Int)) then
 bif decide (List.length q = List.length q) then
 some (((q, s, (false, dflt (.pair (.int .i64) (.pair (.int .i64) .unit)), ()), ()), (), ()), (15 : Int))
 else none
 else
 bif decide (List.length q = List.length q) then
 some (((q, s, (false, dflt (.pair (.int .i64) (.pair (.int .i64) .unit)), ()), ()), (), ()), x)
 else none
 else
 bif decide (List.length q = List.length q) then
 some (((q, s, (false, dflt (.pair (.int .i64) (.pair (.int .i64) .unit)), ()), ()), (), ()), x)
 else none
 else none
def e19_2 (fu : Nat) : Ent := ⟨19, (.cons Y2 .nil), (.cons Y1 (.cons .dead .nil)), (.hole (.int .i64)), p19_2 fu⟩
def d19_2 (fu : Nat) : DC := (.seq (.region [opD 2 (.mov (cD 0))] [[]] false) (.seq (.region [mvD 6 0, oqD 7 (.call 16 [(tD 6)]) (.ent (e16_2 fu)), mvD 5 7, opD 8 (.ext (tD 5) 0), opD 9 (.ext (tD 5) 1), mvD 3 8, mvD 4 9] [[], [0], [1], [2], [2], [3, 1, 0, 1, 2, 3], [4, 5, 0, 1, 2, 3, 4, 5]] false) (.seq (.seq (.region [mvD 10 3, opD 11 (.bin .eql (tD 10) (cD 0)), mvD 12 11, ogD 13 12 true (.mov (tD 0)), ogD 14 12 true (.pure .nilc [(tD 13)]), ogD 15 12 true (.faddr 1 (tD 14)), ogD 16 12 true (.load false 1 (tD 15)), ogD 17 12 true (.mov (tD 0)), ogD 18 12 true (.pure .nilc [(tD 17)]), ogD 19 12 true (.faddr 0 (tD 18)), ogD 20 12 true (.load false 1 (tD 19)), ogD 21 12 true (.len false (tD 20)), ogD 22 12 true (.bin .lss (tD 16) (tD 21)), opD 23 (.pick (tD 12) (tD 22) (.const vB))] [[], [0], [1], [2], [3, 2], [4, 2], [5, 2], [2], [7, 2], [8, 2], [9, 2], [10, 2], [6, 11, 2], [2, 12]] true) (.cond (.tmp 23) (.seq (.region [opD 2 (.mov (cD 15))] [[]] false) .ret) .skip)) (.seq (.region [mvD 24 3, mvD 2 24] [[], [0, 0]] false) .ret))))
set_option maxRecDepth 1000000 in
theorem v19_2 (fu : Nat) : evF fu (d19_2 fu) rs19 25 (e19_2 fu).ash (e19_2 fu).osh (e19_2 fu).vsh = p19_2 fu := by kernel_rfl
set_option maxRecDepth 1000000 in
theorem b19_2 (fu : Nat) : BodyD Tryd.prog 19 25 (d19_2 fu).erase rs19 := bodyD_mk Tryd.func19 (by kernel_rfl) (by kernel_rfl) (by kernel_rfl) (by kernel_rfl)
theorem g19_2 (fu : Nat) : (e19_2 fu).Good Tryd.prog := good_by orders (b19_2 fu) (l := [e16_2 fu]) (by kernel_rfl) ⟨g16_2 fu, trivial⟩ (by kernel_rfl) (v19_2 fu)
def rs10 : List RVx := [(.tmp 2)]
/-- gazette/gazettelaw01.CodecPrefix -/
def p10 (fu : Nat) : (List (Int)) × (Unit) → Option ((Unit) × (Bool)) := fun ⟨a, _⟩ =>
Option.bind (p11 fu ()) fun ⟨_, c⟩ =>
loopO (S := ((List (ByteArray)) × ((Int) × (Unit))) × (((List (Int)) × (Unit)) × (Unit))) fu (fun ⟨⟨f, h, _⟩, ⟨⟨i, _⟩, _⟩⟩ =>
 bif decide (h < (List.length a : Int)) then
 bif decide ((0 : Int) ≤ h ∧ h < (List.length a : Int)) then
 bif decide (Int.toNat h < List.length a) then
 bif decide (List.length i = List.length i) then
 Option.bind (p34_1 fu ((i, ()), (List.getD a (Int.toNat h) (dflt (.int .u64))), ())) fun ⟨⟨⟨j, _⟩, _, _⟩, _⟩ =>
 bif decide ((0 : Int) ≤ h ∧ h < (List.length a : Int)) then
 bif decide (Int.toNat h < List.length a) then
 Option.bind (p34 fu (((), ()), (List.getD a (Int.toNat h) (dflt (.int .u64))), ())) fun ⟨⟨⟨k, _⟩, _⟩, _⟩ =>
 bif decide (List.length k = List.length k) then
 Option.bind (p27 fu ((k, ()), ())) fun ⟨_, l⟩ =>
 bif decide (List.length l = List.length l) then
 bif decide (List.length f = List.length f) then
 bif decide (List.length f + List.length ([strOfNums l]) ≤ maxLen ∧ (List.length f + List.length ([strOfNums l])) * 16 ≤ 140737488355328) then
 bif decide (List.length (f ++ [strOfNums l]) = List.length (f ++ [strOfNums l])) then
 bif decide (List.length j = List.length j) then
 some (.inl (((f ++ [strOfNums l]), IntKind.wrap .i64 (h + (1 : Int)), ()), ((j, ()), ())))
 else none
 else none
 else none
 else none
 else none
 else none
 else none
 else none
 else none
 else none
 else none
 else
 inrO (bif decide (List.length i = List.length i) then
 Option.bind (p27 fu ((i, ()), ())) fun ⟨_, m⟩ =>
 bif decide (List.length m = List.length m) then
 Option.bind (p14 fu (m, ())) fun ⟨_, ⟨n, o, _, _⟩⟩ =>
 bif !c then
 some ((), false)
 else
 bif decide (List.length n = List.length n) then
 loopO (S := ((Int) × (Unit)) × (((List (Int)) × ((Int) × (((Bool) × (((Int) × ((Int) × (Unit))) × (Unit))) × (Unit)))) × (Unit))) fu (fun ⟨⟨q, _⟩, ⟨⟨s, t, ⟨u, ⟨w, x, _⟩, _⟩, _⟩, _⟩⟩ =>
 bif u then
 bif decide (q < (List.length a : Int)) then
 bif decide (List.length s = List.length s) then
 Option.bind (p15_2 fu ((s, t, (true, (w, x, ()), dflt .unit), ()), ())) fun ⟨⟨⟨y, z, ⟨a0, ⟨c0, f0, _⟩, _⟩, _⟩, _, _⟩, h0⟩ =>
 bif a0 then
 bif decide ((0 : Int) ≤ q ∧ q < (List.length a : Int)) then
 bif decide (Int.toNat q < List.length a) then
 bif (h0 != (List.getD a (Int.toNat q) (dflt (.int .u64)))) then
 inrO (some ((), false))
 else
 loopO (S := ((Int) × (Unit)) × (Unit)) fu (fun ⟨⟨i0, _⟩, _⟩ =>
 bif decide (i0 < q) then
 orK (E := (Z0) × (Unit))
 (bif decide ((0 : Int) ≤ i0 ∧ i0 < (List.length a : Int)) then
 bif decide (Int.toNat i0 < List.length a) then
 bif decide ((0 : Int) ≤ q ∧ q < (List.length a : Int)) then
 bif decide (Int.toNat q < List.length a) then
 bif decide ((List.getD a (Int.toNat i0) (dflt (.int .u64))) ≤ (List.getD a (Int.toNat q) (dflt (.int .u64)))) then
 bif decide ((0 : Int) ≤ i0 ∧ i0 < (List.length f : Int)) then
 bif decide (Int.toNat i0 < List.length f) then
 bif decide ((0 : Int) ≤ q ∧ q < (List.length f : Int)) then
 bif decide (Int.toNat q < List.length f) then
 bif decide ((ByteArray.size (List.getD f (Int.toNat i0) (dflt .str)) : Int) > (ByteArray.size (List.getD f (Int.toNat q) (dflt .str)) : Int)) then
 inrO (inrO (inrO (some ((), false))))
 else
 bif decide ((0 : Int) ≤ i0 ∧ i0 < (List.length a : Int)) then
 bif decide (Int.toNat i0 < List.length a) then
 bif decide ((0 : Int) ≤ q ∧ q < (List.length a : Int)) then
 bif decide (Int.toNat q < List.length a) then
 bif decide ((List.getD a (Int.toNat i0) (dflt (.int .u64))) ≥ (List.getD a (Int.toNat q) (dflt (.int .u64)))) then
 bif decide ((0 : Int) ≤ i0 ∧ i0 < (List.length f : Int)) then
 bif decide (Int.toNat i0 < List.length f) then
 bif decide ((0 : Int) ≤ q ∧ q < (List.length f : Int)) then
 bif decide (Int.toNat q < List.length f) then
 bif decide ((ByteArray.size (List.getD f (Int.toNat i0) (dflt .str)) : Int) < (ByteArray.size (List.getD f (Int.toNat q) (dflt .str)) : Int)) then
 inrO (inrO (inrO (some ((), false))))
 else
 some (.inl ((a, i0, (List.getD a (Int.toNat i0) (dflt (.int .u64))), a, q, (List.getD a (Int.toNat q) (dflt (.int .u64))), decide ((List.getD a (Int.toNat i0) (dflt (.int .u64))) ≥ (List.getD a (Int.toNat q) (dflt (.int .u64)))), true, decide ((ByteArray.size (List.getD f (Int.toNat i0) (dflt .str)) : Int) < (ByteArray.size (List.getD f (Int.toNat q) (dflt .str)) : Int)), ()), ()))
 else none
 else none
 else none
 else none
 else
 some (.inl ((a, i0, (List.getD a (Int.toNat i0) (dflt (.int .u64))), a, q, (List.getD a (Int.toNat q) (dflt (.int .u64))), decide ((List.getD a (Int.toNat i0) (dflt (.int .u64))) ≥ (List.getD a (Int.toNat q) (dflt (.int .u64)))), false, false, ()), ()))
 else none
 else none
 else none
 else none
 else none
 else none
 else none
 else none
 else
 bif decide ((0 : Int) ≤ i0 ∧ i0 < (List.length a : Int)) then
 bif decide (Int.toNat i0 < List.length a) then
 bif decide ((0 : Int) ≤ q ∧ q < (List.length a : Int)) then
 bif decide (Int.toNat q < List.length a) then
 bif decide ((List.getD a (Int.toNat i0) (dflt (.int .u64))) ≥ (List.getD a (Int.toNat q) (dflt (.int .u64)))) then
 bif decide ((0 : Int) ≤ i0 ∧ i0 < (List.length f : Int)) then
 bif decide (Int.toNat i0 < List.length f) then
 bif decide ((0 : Int) ≤ q ∧ q < (List.length f : Int)) then
 bif decide (Int.toNat q < List.length f) then
 bif decide ((ByteArray.size (List.getD f (Int.toNat i0) (dflt .str)) : Int) < (ByteArray.size (List.getD f (Int.toNat q) (dflt .str)) : Int)) then
 inrO (inrO (inrO (some ((), false))))
 else
 some (.inl ((a, i0, (List.getD a (Int.toNat i0) (dflt (.int .u64))), a, q, (List.getD a (Int.toNat q) (dflt (.int .u64))), decide ((List.getD a (Int.toNat i0) (dflt (.int .u64))) ≥ (List.getD a (Int.toNat q) (dflt (.int .u64)))), true, decide ((ByteArray.size (List.getD f (Int.toNat i0) (dflt .str)) : Int) < (ByteArray.size (List.getD f (Int.toNat q) (dflt .str)) : Int)), ()), ()))
 else none
 else none
 else none
 else none
 else
 some (.inl ((a, i0, (List.getD a (Int.toNat i0) (dflt (.int .u64))), a, q, (List.getD a (Int.toNat q) (dflt (.int .u64))), decide ((List.getD a (Int.toNat i0) (dflt (.int .u64))) ≥ (List.getD a (Int.toNat q) (dflt (.int .u64)))), false, false, ()), ()))
 else none
 else none
 else none
 else none
 else none
 else none
 else none
 else none)
 fun ⟨⟨_, _, _, _, _, _, _, _, _, _⟩, _⟩ =>
 bif decide ((0 : Int) ≤ i0 ∧ i0 < (List.length f : Int)) then
 bif decide (Int.toNat i0 < List.length f) then
 bif decide ((0 : Int) ≤ q ∧ q < (List.length f : Int)) then
 bif decide (Int.toNat q < List.length f) then
 bif decide ((0 : Int) ≤ i0 ∧ i0 < (List.length f : Int)) then
 bif decide (Int.toNat i0 < List.length f) then
 bif decide ((0 : Int) ≤ (if (ByteArray.size (List.getD f (Int.toNat q) (dflt .str)) : Int) < (ByteArray.size (List.getD f (Int.toNat i0) (dflt .str)) : Int) then (ByteArray.size (List.getD f (Int.toNat q) (dflt .str)) : Int) else (ByteArray.size (List.getD f (Int.toNat i0) (dflt .str)) : Int))) then
 bif decide (0 ≤ Int.toNat (if (ByteArray.size (List.getD f (Int.toNat q) (dflt .str)) : Int) < (ByteArray.size (List.getD f (Int.toNat i0) (dflt .str)) : Int) then (ByteArray.size (List.getD f (Int.toNat q) (dflt .str)) : Int) else (ByteArray.size (List.getD f (Int.toNat i0) (dflt .str)) : Int)) ∧ Int.toNat (if (ByteArray.size (List.getD f (Int.toNat q) (dflt .str)) : Int) < (ByteArray.size (List.getD f (Int.toNat i0) (dflt .str)) : Int) then (ByteArray.size (List.getD f (Int.toNat q) (dflt .str)) : Int) else (ByteArray.size (List.getD f (Int.toNat i0) (dflt .str)) : Int)) ≤ ByteArray.size (List.getD f (Int.toNat i0) (dflt .str))) then
 bif decide ((0 : Int) ≤ q ∧ q < (List.length f : Int)) then
 bif decide (Int.toNat q < List.length f) then
 bif decide ((0 : Int) ≤ (if (ByteArray.size (List.getD f (Int.toNat q) (dflt .str)) : Int) < (ByteArray.size (List.getD f (Int.toNat i0) (dflt .str)) : Int) then (ByteArray.size (List.getD f (Int.toNat q) (dflt .str)) : Int) else (ByteArray.size (List.getD f (Int.toNat i0) (dflt .str)) : Int))) then
 bif decide (0 ≤ Int.toNat (if (ByteArray.size (List.getD f (Int.toNat q) (dflt .str)) : Int) < (ByteArray.size (List.getD f (Int.toNat i0) (dflt .str)) : Int) then (ByteArray.size (List.getD f (Int.toNat q) (dflt .str)) : Int) else (ByteArray.size (List.getD f (Int.toNat i0) (dflt .str)) : Int)) ∧ Int.toNat (if (ByteArray.size (List.getD f (Int.toNat q) (dflt .str)) : Int) < (ByteArray.size (List.getD f (Int.toNat i0) (dflt .str)) : Int) then (ByteArray.size (List.getD f (Int.toNat q) (dflt .str)) : Int) else (ByteArray.size (List.getD f (Int.toNat i0) (dflt .str)) : Int)) ≤ ByteArray.size (List.getD f (Int.toNat q) (dflt .str))) then
 bif decide ((0 : Int) ≤ i0 ∧ i0 < (List.length a : Int)) then
 bif decide (Int.toNat i0 < List.length a) then
 bif decide ((0 : Int) ≤ q ∧ q < (List.length a : Int)) then
 bif decide (Int.toNat q < List.length a) then
 bif !((ByteArray.toList (ByteArray.extract (List.getD f (Int.toNat i0) (dflt .str)) 0 (Int.toNat (if (ByteArray.size (List.getD f (Int.toNat q) (dflt .str)) : Int) < (ByteArray.size (List.getD f (Int.toNat i0) (dflt .str)) : Int) then (ByteArray.size (List.getD f (Int.toNat q) (dflt .str)) : Int) else (ByteArray.size (List.getD f (Int.toNat i0) (dflt .str)) : Int)))) == ByteArray.toList (ByteArray.extract (List.getD f (Int.toNat q) (dflt .str)) 0 (Int.toNat (if (ByteArray.size (List.getD f (Int.toNat q) (dflt .str)) : Int) < (ByteArray.size (List.getD f (Int.toNat i0) (dflt .str)) : Int) then (ByteArray.size (List.getD f (Int.toNat q) (dflt .str)) : Int) else (ByteArray.size (List.getD f (Int.toNat i0) (dflt .str)) : Int))))) == ((List.getD a (Int.toNat i0) (dflt (.int .u64))) == (List.getD a (Int.toNat q) (dflt (.int .u64))))) then
 inrO (inrO (some ((), false)))
 else
 some (.inl ((IntKind.wrap .i64 (i0 + (1 : Int)), ()), ()))
 else none
 else none
 else none
 else none
 else none
 else none
 else none
 else none
 else none
 else none
 else none
 else none
 else none
 else none
 else none
 else none
 else
 inrO (bif decide (List.length y = List.length y) then
 some (.inl ((IntKind.wrap .i64 (q + (1 : Int)), ()), ((y, z, (true, (c0, f0, ()), dflt .unit), ()), ())))
 else none))
 (((0 : Int), ()), ())
 else none
 else none
 else
 bif decide ((0 : Int) ≤ q ∧ q < (List.length a : Int)) then
 bif decide (Int.toNat q < List.length a) then
 bif (h0 != (List.getD a (Int.toNat q) (dflt (.int .u64)))) then
 inrO (some ((), false))
 else
 loopO (S := ((Int) × (Unit)) × (Unit)) fu (fun ⟨⟨i0, _⟩, _⟩ =>
 bif decide (i0 < q) then
 orK (E := (Z0) × (Unit))
 (bif decide ((0 : Int) ≤ i0 ∧ i0 < (List.length a : Int)) then
 bif decide (Int.toNat i0 < List.length a) then
 bif decide ((0 : Int) ≤ q ∧ q < (List.length a : Int)) then
 bif decide (Int.toNat q < List.length a) then
 bif decide ((List.getD a (Int.toNat i0) (dflt (.int .u64))) ≤ (List.getD a (Int.toNat q) (dflt (.int .u64)))) then
 bif decide ((0 : Int) ≤ i0 ∧ i0 < (List.length f : Int)) then
 bif decide (Int.toNat i0 < List.length f) then
 bif decide ((0 : Int) ≤ q ∧ q < (List.length f : Int)) then
 bif decide (Int.toNat q < List.length f) then
 bif decide ((ByteArray.size (List.getD f (Int.toNat i0) (dflt .str)) : Int) > (ByteArray.size (List.getD f (Int.toNat q) (dflt .str)) : Int)) then
 inrO (inrO (inrO (some ((), false))))
 else
 bif decide ((0 : Int) ≤ i0 ∧ i0 < (List.length a : Int)) then
 bif decide (Int.toNat i0 < List.length a) then
 bif decide ((0 : Int) ≤ q ∧ q < (List.length a : Int)) then
 bif decide (Int.toNat q < List.length a) then
 bif decide ((List.getD a (Int.toNat i0) (dflt (.int .u64))) ≥ (List.getD a (Int.toNat q) (dflt (.int .u64)))) then
 bif decide ((0 : Int) ≤ i0 ∧ i0 < (List.length f : Int)) then
 bif decide (Int.toNat i0 < List.length f) then
 bif decide ((0 : Int) ≤ q ∧ q < (List.length f : Int)) then
 bif decide (Int.toNat q < List.length f) then
 bif decide ((ByteArray.size (List.getD f (Int.toNat i0) (dflt .str)) : Int) < (ByteArray.size (List.getD f (Int.toNat q) (dflt .str)) : Int)) then
 inrO (inrO (inrO (some ((), false))))
 else
 some (.inl ((a, i0, (List.getD a (Int.toNat i0) (dflt (.int .u64))), a, q, (List.getD a (Int.toNat q) (dflt (.int .u64))), decide ((List.getD a (Int.toNat i0) (dflt (.int .u64))) ≥ (List.getD a (Int.toNat q) (dflt (.int .u64)))), true, decide ((ByteArray.size (List.getD f (Int.toNat i0) (dflt .str)) : Int) < (ByteArray.size (List.getD f (Int.toNat q) (dflt .str)) : Int)), ()), ()))
 else none
 else none
 else none
 else none
 else
 some (.inl ((a, i0, (List.getD a (Int.toNat i0) (dflt (.int .u64))), a, q, (List.getD a (Int.toNat q) (dflt (.int .u64))), decide ((List.getD a (Int.toNat i0) (dflt (.int .u64))) ≥ (List.getD a (Int.toNat q) (dflt (.int .u64)))), false, false, ()), ()))
 else none
 else none
 else none
 else none
 else none
 else none
 else none
 else none
 else
 bif decide ((0 : Int) ≤ i0 ∧ i0 < (List.length a : Int)) then
 bif decide (Int.toNat i0 < List.length a) then
 bif decide ((0 : Int) ≤ q ∧ q < (List.length a : Int)) then
 bif decide (Int.toNat q < List.length a) then
 bif decide ((List.getD a (Int.toNat i0) (dflt (.int .u64))) ≥ (List.getD a (Int.toNat q) (dflt (.int .u64)))) then
 bif decide ((0 : Int) ≤ i0 ∧ i0 < (List.length f : Int)) then
 bif decide (Int.toNat i0 < List.length f) then
 bif decide ((0 : Int) ≤ q ∧ q < (List.length f : Int)) then
 bif decide (Int.toNat q < List.length f) then
 bif decide ((ByteArray.size (List.getD f (Int.toNat i0) (dflt .str)) : Int) < (ByteArray.size (List.getD f (Int.toNat q) (dflt .str)) : Int)) then
 inrO (inrO (inrO (some ((), false))))
 else
 some (.inl ((a, i0, (List.getD a (Int.toNat i0) (dflt (.int .u64))), a, q, (List.getD a (Int.toNat q) (dflt (.int .u64))), decide ((List.getD a (Int.toNat i0) (dflt (.int .u64))) ≥ (List.getD a (Int.toNat q) (dflt (.int .u64)))), true, decide ((ByteArray.size (List.getD f (Int.toNat i0) (dflt .str)) : Int) < (ByteArray.size (List.getD f (Int.toNat q) (dflt .str)) : Int)), ()), ()))
 else none
 else none
 else none
 else none
 else
 some (.inl ((a, i0, (List.getD a (Int.toNat i0) (dflt (.int .u64))), a, q, (List.getD a (Int.toNat q) (dflt (.int .u64))), decide ((List.getD a (Int.toNat i0) (dflt (.int .u64))) ≥ (List.getD a (Int.toNat q) (dflt (.int .u64)))), false, false, ()), ()))
 else none
 else none
 else none
 else none
 else none
 else none
 else none
 else none)
 fun ⟨⟨_, _, _, _, _, _, _, _, _, _⟩, _⟩ =>
 bif decide ((0 : Int) ≤ i0 ∧ i0 < (List.length f : Int)) then
 bif decide (Int.toNat i0 < List.length f) then
 bif decide ((0 : Int) ≤ q ∧ q < (List.length f : Int)) then
 bif decide (Int.toNat q < List.length f) then
 bif decide ((0 : Int) ≤ i0 ∧ i0 < (List.length f : Int)) then
 bif decide (Int.toNat i0 < List.length f) then
 bif decide ((0 : Int) ≤ (if (ByteArray.size (List.getD f (Int.toNat q) (dflt .str)) : Int) < (ByteArray.size (List.getD f (Int.toNat i0) (dflt .str)) : Int) then (ByteArray.size (List.getD f (Int.toNat q) (dflt .str)) : Int) else (ByteArray.size (List.getD f (Int.toNat i0) (dflt .str)) : Int))) then
 bif decide (0 ≤ Int.toNat (if (ByteArray.size (List.getD f (Int.toNat q) (dflt .str)) : Int) < (ByteArray.size (List.getD f (Int.toNat i0) (dflt .str)) : Int) then (ByteArray.size (List.getD f (Int.toNat q) (dflt .str)) : Int) else (ByteArray.size (List.getD f (Int.toNat i0) (dflt .str)) : Int)) ∧ Int.toNat (if (ByteArray.size (List.getD f (Int.toNat q) (dflt .str)) : Int) < (ByteArray.size (List.getD f (Int.toNat i0) (dflt .str)) : Int) then (ByteArray.size (List.getD f (Int.toNat q) (dflt .str)) : Int) else (ByteArray.size (List.getD f (Int.toNat i0) (dflt .str)) : Int)) ≤ ByteArray.size (List.getD f (Int.toNat i0) (dflt .str))) then
 bif decide ((0 : Int) ≤ q ∧ q < (List.length f : Int)) then
 bif decide (Int.toNat q < List.length f) then
 bif decide ((0 : Int) ≤ (if (ByteArray.size (List.getD f (Int.toNat q) (dflt .str)) : Int) < (ByteArray.size (List.getD f (Int.toNat i0) (dflt .str)) : Int) then (ByteArray.size (List.getD f (Int.toNat q) (dflt .str)) : Int) else (ByteArray.size (List.getD f (Int.toNat i0) (dflt .str)) : Int))) then
 bif decide (0 ≤ Int.toNat (if (ByteArray.size (List.getD f (Int.toNat q) (dflt .str)) : Int) < (ByteArray.size (List.getD f (Int.toNat i0) (dflt .str)) : Int) then (ByteArray.size (List.getD f (Int.toNat q) (dflt .str)) : Int) else (ByteArray.size (List.getD f (Int.toNat i0) (dflt .str)) : Int)) ∧ Int.toNat (if (ByteArray.size (List.getD f (Int.toNat q) (dflt .str)) : Int) < (ByteArray.size (List.getD f (Int.toNat i0) (dflt .str)) : Int) then (ByteArray.size (List.getD f (Int.toNat q) (dflt .str)) : Int) else (ByteArray.size (List.getD f (Int.toNat i0) (dflt .str)) : Int)) ≤ ByteArray.size (List.getD f (Int.toNat q) (dflt .str))) then
 bif decide ((0 : Int) ≤ i0 ∧ i0 < (List.length a : Int)) then
 bif decide (Int.toNat i0 < List.length a) then
 bif decide ((0 : Int) ≤ q ∧ q < (List.length a : Int)) then
 bif decide (Int.toNat q < List.length a) then
 bif !((ByteArray.toList (ByteArray.extract (List.getD f (Int.toNat i0) (dflt .str)) 0 (Int.toNat (if (ByteArray.size (List.getD f (Int.toNat q) (dflt .str)) : Int) < (ByteArray.size (List.getD f (Int.toNat i0) (dflt .str)) : Int) then (ByteArray.size (List.getD f (Int.toNat q) (dflt .str)) : Int) else (ByteArray.size (List.getD f (Int.toNat i0) (dflt .str)) : Int)))) == ByteArray.toList (ByteArray.extract (List.getD f (Int.toNat q) (dflt .str)) 0 (Int.toNat (if (ByteArray.size (List.getD f (Int.toNat q) (dflt .str)) : Int) < (ByteArray.size (List.getD f (Int.toNat i0) (dflt .str)) : Int) then (ByteArray.size (List.getD f (Int.toNat q) (dflt .str)) : Int) else (ByteArray.size (List.getD f (Int.toNat i0) (dflt .str)) : Int))))) == ((List.getD a (Int.toNat i0) (dflt (.int .u64))) == (List.getD a (Int.toNat q) (dflt (.int .u64))))) then
 inrO (inrO (some ((), false)))
 else
 some (.inl ((IntKind.wrap .i64 (i0 + (1 : Int)), ()), ()))
 else none
 else none
 else none
 else none
 else none
 else none
 else none
 else none
 else none
 else none
 else none
 else none
 else none
 else none
 else none
 else none
 else
 inrO (bif decide (List.length y = List.length y) then
 some (.inl ((IntKind.wrap .i64 (q + (1 : Int)), ()), ((y, z, (false, dflt (.pair (.int .i64) (.pair (.int .i64) .unit)), ()), ()), ())))
 else none))
 (((0 : Int), ()), ())
 else none
 else none
 else none
 else
 inrO (bif decide (List.length s = List.length s) then
 Option.bind (p19_2 fu ((s, t, (true, (w, x, ()), dflt .unit), ()), ())) fun ⟨⟨⟨_, _, ⟨j0, ⟨_, _, _⟩, _⟩, _⟩, _, _⟩, k0⟩ =>
 bif j0 then
 some ((), (k0 == (0 : Int)))
 else
 some ((), (k0 == (0 : Int)))
 else none)
 else
 bif decide (q < (List.length a : Int)) then
 bif decide (List.length s = List.length s) then
 Option.bind (p15_2 fu ((s, t, (false, dflt (.pair (.int .i64) (.pair (.int .i64) .unit)), ()), ()), ())) fun ⟨⟨⟨l0, m0, ⟨n0, ⟨o0, q0, _⟩, _⟩, _⟩, _, _⟩, s0⟩ =>
 bif n0 then
 bif decide ((0 : Int) ≤ q ∧ q < (List.length a : Int)) then
 bif decide (Int.toNat q < List.length a) then
 bif (s0 != (List.getD a (Int.toNat q) (dflt (.int .u64)))) then
 inrO (some ((), false))
 else
 loopO (S := ((Int) × (Unit)) × (Unit)) fu (fun ⟨⟨i0, _⟩, _⟩ =>
 bif decide (i0 < q) then
 orK (E := (Z0) × (Unit))
 (bif decide ((0 : Int) ≤ i0 ∧ i0 < (List.length a : Int)) then
 bif decide (Int.toNat i0 < List.length a) then
 bif decide ((0 : Int) ≤ q ∧ q < (List.length a : Int)) then
 bif decide (Int.toNat q < List.length a) then
 bif decide ((List.getD a (Int.toNat i0) (dflt (.int .u64))) ≤ (List.getD a (Int.toNat q) (dflt (.int .u64)))) then
 bif decide ((0 : Int) ≤ i0 ∧ i0 < (List.length f : Int)) then
 bif decide (Int.toNat i0 < List.length f) then
 bif decide ((0 : Int) ≤ q ∧ q < (List.length f : Int)) then
 bif decide (Int.toNat q < List.length f) then
 bif decide ((ByteArray.size (List.getD f (Int.toNat i0) (dflt .str)) : Int) > (ByteArray.size (List.getD f (Int.toNat q) (dflt .str)) : Int)) then
 inrO (inrO (inrO (some ((), false))))
 else
 bif decide ((0 : Int) ≤ i0 ∧ i0 < (List.length a : Int)) then
 bif decide (Int.toNat i0 < List.length a) then
 bif decide ((0 : Int) ≤ q ∧ q < (List.length a : Int)) then
 bif decide (Int.toNat q < List.length a) then
 bif decide ((List.getD a (Int.toNat i0) (dflt (.int .u64))) ≥ (List.getD a (Int.toNat q) (dflt (.int .u64)))) then
 bif decide ((0 : Int) ≤ i0 ∧ i0 < (List.length f : Int)) then
 bif decide (Int.toNat i0 < List.length f) then
 bif decide ((0 : Int) ≤ q ∧ q < (List.length f : Int)) then
 bif decide (Int.toNat q < List.length f) then
 bif decide ((ByteArray.size (List.getD f (Int.toNat i0) (dflt .str)) : Int) < (ByteArray.size (List.getD f (Int.toNat q) (dflt .str)) : Int)) then
 inrO (inrO (inrO (some ((), false))))
 else
 some (.inl ((a, i0, (List.getD a (Int.toNat i0) (dflt (.int .u64))), a, q, (List.getD a (Int.toNat q) (dflt (.int .u64))), decide ((List.getD a (Int.toNat i0) (dflt (.int .u64))) ≥ (List.getD a (Int.toNat q) (dflt (.int .u64)))), true, decide ((ByteArray.size (List.getD f (Int.toNat i0) (dflt .str)) : Int) < (ByteArray.size (List.getD f (Int.toNat q) (dflt .str)) : Int)), ()), ()))
 else none
 else none
 else none
 else none
 else
 some (.inl ((a, i0, (List.getD a (Int.toNat i0) (dflt (.int .u64))), a, q, (List.getD a (Int.toNat q) (dflt (.int .u64))), decide ((List.getD a (Int.toNat i0) (dflt (.int .u64))) ≥ (List.getD a (Int.toNat q) (dflt (.int .u64)))), false, false, ()), ()))
 else none
 else none
 else none
 else none
 else none
 else none
 else none
 else none
 else
 bif decide ((0 : Int) ≤ i0 ∧ i0 < (List.length a : Int)) then
 bif decide (Int.toNat i0 < List.length a) then
 bif decide ((0 : Int) ≤ q ∧ q < (List.length a : Int)) then
 bif decide (Int.toNat q < List.length a) then
 bif decide ((List.getD a (Int.toNat i0) (dflt (.int .u64))) ≥ (List.getD a (Int.toNat q) (dflt (.int .u64)))) then
 bif decide ((0 : Int) ≤ i0 ∧ i0 < (List.length f : Int)) then
 bif decide (Int.toNat i0 < List.length f) then
 bif decide ((0 : Int) ≤ q ∧ q < (List.length f : Int)) then
 bif decide (Int.toNat q < List.length f) then
 bif decide ((ByteArray.size (List.getD f (Int.toNat i0) (dflt .str)) : Int) < (ByteArray.size (List.getD f (Int.toNat q) (dflt .str)) : Int)) then
 inrO (inrO (inrO (some ((), false))))
 else
 some (.inl ((a, i0, (List.getD a (Int.toNat i0) (dflt (.int .u64))), a, q, (List.getD a (Int.toNat q) (dflt (.int .u64))), decide ((List.getD a (Int.toNat i0) (dflt (.int .u64))) ≥ (List.getD a (Int.toNat q) (dflt (.int .u64)))), true, decide ((ByteArray.size (List.getD f (Int.toNat i0) (dflt .str)) : Int) < (ByteArray.size (List.getD f (Int.toNat q) (dflt .str)) : Int)), ()), ()))
 else none
 else none
 else none
 else none
 else
 some (.inl ((a, i0, (List.getD a (Int.toNat i0) (dflt (.int .u64))), a, q, (List.getD a (Int.toNat q) (dflt (.int .u64))), decide ((List.getD a (Int.toNat i0) (dflt (.int .u64))) ≥ (List.getD a (Int.toNat q) (dflt (.int .u64)))), false, false, ()), ()))
 else none
 else none
 else none
 else none
 else none
 else none
 else none
 else none)
 fun ⟨⟨_, _, _, _, _, _, _, _, _, _⟩, _⟩ =>
 bif decide ((0 : Int) ≤ i0 ∧ i0 < (List.length f : Int)) then
 bif decide (Int.toNat i0 < List.length f) then
 bif decide ((0 : Int) ≤ q ∧ q < (List.length f : Int)) then
 bif decide (Int.toNat q < List.length f) then
 bif decide ((0 : Int) ≤ i0 ∧ i0 < (List.length f : Int)) then
 bif decide (Int.toNat i0 < List.length f) then
 bif decide ((0 : Int) ≤ (if (ByteArray.size (List.getD f (Int.toNat q) (dflt .str)) : Int) < (ByteArray.size (List.getD f (Int.toNat i0) (dflt .str)) : Int) then (ByteArray.size (List.getD f (Int.toNat q) (dflt .str)) : Int) else (ByteArray.size (List.getD f (Int.toNat i0) (dflt .str)) : Int))) then
 bif decide (0 ≤ Int.toNat (if (ByteArray.size (List.getD f (Int.toNat q) (dflt .str)) : Int) < (ByteArray.size (List.getD f (Int.toNat i0) (dflt .str)) : Int) then (ByteArray.size (List.getD f (Int.toNat q) (dflt .str)) : Int) else (ByteArray.size (List.getD f (Int.toNat i0) (dflt .str)) : Int)) ∧ Int.toNat (if (ByteArray.size (List.getD f (Int.toNat q) (dflt .str)) : Int) < (ByteArray.size (List.getD f (Int.toNat i0) (dflt .str)) : Int) then (ByteArray.size (List.getD f (Int.toNat q) (dflt .str)) : Int) else (ByteArray.size (List.getD f (Int.toNat i0) (dflt .str)) : Int)) ≤ ByteArray.size (List.getD f (Int.toNat i0) (dflt .str))) then
 bif decide ((0 : Int) ≤ q ∧ q < (List.length f : Int)) then
 bif decide (Int.toNat q < List.length f) then
 bif decide ((0 : Int) ≤ (if (ByteArray.size (List.getD f (Int.toNat q) (dflt .str)) : Int) < (ByteArray.size (List.getD f (Int.toNat i0) (dflt .str)) : Int) then (ByteArray.size (List.getD f (Int.toNat q) (dflt .str)) : Int) else (ByteArray.size (List.getD f (Int.toNat i0) (dflt .str)) : Int))) then
 bif decide (0 ≤ Int.toNat (if (ByteArray.size (List.getD f (Int.toNat q) (dflt .str)) : Int) < (ByteArray.size (List.getD f (Int.toNat i0) (dflt .str)) : Int) then (ByteArray.size (List.getD f (Int.toNat q) (dflt .str)) : Int) else (ByteArray.size (List.getD f (Int.toNat i0) (dflt .str)) : Int)) ∧ Int.toNat (if (ByteArray.size (List.getD f (Int.toNat q) (dflt .str)) : Int) < (ByteArray.size (List.getD f (Int.toNat i0) (dflt .str)) : Int) then (ByteArray.size (List.getD f (Int.toNat q) (dflt .str)) : Int) else (ByteArray.size (List.getD f (Int.toNat i0) (dflt .str)) : Int)) ≤ ByteArray.size (List.getD f (Int.toNat q) (dflt .str))) then
 bif decide ((0 : Int) ≤ i0 ∧ i0 < (List.length a : Int)) then
 bif decide (Int.toNat i0 < List.length a) then
 bif decide ((0 : Int) ≤ q ∧ q < (List.length a : Int)) then
 bif decide (Int.toNat q < List.length a) then
 bif !((ByteArray.toList (ByteArray.extract (List.getD f (Int.toNat i0) (dflt .str)) 0 (Int.toNat (if (ByteArray.size (List.getD f (Int.toNat q) (dflt .str)) : Int) < (ByteArray.size (List.getD f (Int.toNat i0) (dflt .str)) : Int) then (ByteArray.size (List.getD f (Int.toNat q) (dflt .str)) : Int) else (ByteArray.size (List.getD f (Int.toNat i0) (dflt .str)) : Int)))) == ByteArray.toList (ByteArray.extract (List.getD f (Int.toNat q) (dflt .str)) 0 (Int.toNat (if (ByteArray.size (List.getD f (Int.toNat q) (dflt .str)) : Int) < (ByteArray.size (List.getD f (Int.toNat i0) (dflt .str)) : Int) then (ByteArray.size (List.getD f (Int.toNat q) (dflt .str)) : Int) else (ByteArray.size (List.getD f (Int.toNat i0) (dflt .str)) : Int))))) == ((List.getD a (Int.toNat i0) (dflt (.int .u64))) == (List.getD a (Int.toNat q) (dflt (.int .u64))))) then
 inrO (inrO (some ((), false)))
 else
 some (.inl ((IntKind.wrap .i64 (i0 + (1 : Int)), ()), ()))
 else none
 else none
 else none
 else none
 else none
 else none
 else none
 else none
 else none
 else none
 else none
 else none
 else none
 else none
 else none
 else none
 else
 inrO (bif decide (List.length l0 = List.length l0) then
 some (.inl ((IntKind.wrap .i64 (q + (1 : Int)), ()), ((l0, m0, (true, (o0, q0, ()), dflt .unit), ()), ())))
 else none))
 (((0 : Int), ()), ())
 else none
 else none
 else
 bif decide ((0 : Int) ≤ q ∧ q < (List.length a : Int)) then
 bif decide (Int.toNat q < List.length a) then
 bif (s0 != (List.getD a (Int.toNat q) (dflt (.int .u64)))) then
 inrO (some ((), false))
 else
 loopO (S := ((Int) × (Unit)) × (Unit)) fu (fun ⟨⟨i0, _⟩, _⟩ =>
 bif decide (i0 < q) then
 orK (E := (Z0) × (Unit))
 (bif decide ((0 : Int) ≤ i0 ∧ i0 < (List.length a : Int)) then
 bif decide (Int.toNat i0 < List.length a) then
 bif decide ((0 : Int) ≤ q ∧ q < (List.length a : Int)) then
 bif decide (Int.toNat q < List.length a) then
 bif decide ((List.getD a (Int.toNat i0) (dflt (.int .u64))) ≤ (List.getD a (Int.toNat q) (dflt (.int .u64)))) then
 bif decide ((0 : Int) ≤ i0 ∧ i0 < (List.length f : Int)) then
 bif decide (Int.toNat i0 < List.length f) then
 bif decide ((0 : Int) ≤ q ∧ q < (List.length f : Int)) then
 bif decide (Int.toNat q < List.length f) then
 bif decide ((ByteArray.size (List.getD f (Int.toNat i0) (dflt .str)) : Int) > (ByteArray.size (List.getD f (Int.toNat q) (dflt .str)) : Int)) then
 inrO (inrO (inrO (some ((), false))))
 else
 bif decide ((0 : Int) ≤ i0 ∧ i0 < (List.length a : Int)) then
 bif decide (Int.toNat i0 < List.length a) then
 bif decide ((0 : Int) ≤ q ∧ q < (List.length a : Int)) then
 bif decide (Int.toNat q < List.length a) then
 bif decide ((List.getD a (Int.toNat i0) (dflt (.int .u64))) ≥ (List.getD a (Int.toNat q) (dflt (.int .u64)))) then
 bif decide ((0 : Int) ≤ i0 ∧ i0 < (List.length f : Int)) then
 bif decide (Int.toNat i0 < List.length f) then
 bif decide ((0 : Int) ≤ q ∧ q < (List.length f : Int)) then
 bif decide (Int.toNat q < List.length f) then
 bif decide ((ByteArray.size (List.getD f (Int.toNat i0) (dflt .str)) : Int) < (ByteArray.size (List.getD f (Int.toNat q) (dflt .str)) : Int)) then
 inrO (inrO (inrO (some ((), false))))
 else
 some (.inl ((a, i0, (List.getD a (Int.toNat i0) (dflt (.int .u64))), a, q, (List.getD a (Int.toNat q) (dflt (.int .u64))), decide ((List.getD a (Int.toNat i0) (dflt (.int .u64))) ≥ (List.getD a (Int.toNat q) (dflt (.int .u64)))), true, decide ((ByteArray.size (List.getD f (Int.toNat i0) (dflt .str)) : Int) < (ByteArray.size (List.getD f (Int.toNat q) (dflt .str)) : Int)), ()), ()))
 else none
 else none
 else none
 else none
 else
 some (.inl ((a, i0, (List.getD a (Int.toNat i0) (dflt (.int .u64))), a, q, (List.getD a (Int.toNat q) (dflt (.int .u64))), decide ((List.getD a (Int.toNat i0) (dflt (.int .u64))) ≥ (List.getD a (Int.toNat q) (dflt (.int .u64)))), false, false, ()), ()))
 else none
 else none
 else none
 else none
 else none
 else none
 else none
 else none
 else
 bif decide ((0 : Int) ≤ i0 ∧ i0 < (List.length a : Int)) then
 bif decide (Int.toNat i0 < List.length a) then
 bif decide ((0 : Int) ≤ q ∧ q < (List.length a : Int)) then
 bif decide (Int.toNat q < List.length a) then
 bif decide ((List.getD a (Int.toNat i0) (dflt (.int .u64))) ≥ (List.getD a (Int.toNat q) (dflt (.int .u64)))) then
 bif decide ((0 : Int) ≤ i0 ∧ i0 < (List.length f : Int)) then
 bif decide (Int.toNat i0 < List.length f) then
 bif decide ((0 : Int) ≤ q ∧ q < (List.length f : Int)) then
 bif decide (Int.toNat q < List.length f) then
 bif decide ((ByteArray.size (List.getD f (Int.toNat i0) (dflt .str)) : Int) < (ByteArray.size (List.getD f (Int.toNat q) (dflt .str)) : Int)) then
 inrO (inrO (inrO (some ((), false))))
 else
 some (.inl ((a, i0, (List.getD a (Int.toNat i0) (dflt (.int .u64))), a, q, (List.getD a (Int.toNat q) (dflt (.int .u64))), decide ((List.getD a (Int.toNat i0) (dflt (.int .u64))) ≥ (List.getD a (Int.toNat q) (dflt (.int .u64)))), true, decide ((ByteArray.size (List.getD f (Int.toNat i0) (dflt .str)) : Int) < (ByteArray.size (List.getD f (Int.toNat q) (dflt .str)) : Int)), ()), ()))
 else none
 else none
 else none
 else none
 else
 some (.inl ((a, i0, (List.getD a (Int.toNat i0) (dflt (.int .u64))), a, q, (List.getD a (Int.toNat q) (dflt (.int .u64))), decide ((List.getD a (Int.toNat i0) (dflt (.int .u64))) ≥ (List.getD a (Int.toNat q) (dflt (.int .u64)))), false, false, ()), ()))
 else none
 else none
 else none
 else none
 else none
 else none
 else none
 else none)
 fun ⟨⟨_, _, _, _, _, _, _, _, _, _⟩, _⟩ =>
 bif decide ((0 : Int) ≤ i0 ∧ i0 < (List.length f : Int)) then
 bif decide (Int.toNat i0 < List.length f) then
 bif decide ((0 : Int) ≤ q ∧ q < (List.length f : Int)) then
 bif decide (Int.toNat q < List.length f) then
 bif decide ((0 : Int) ≤ i0 ∧ i0 < (List.length f : Int)) then
 bif decide (Int.toNat i0 < List.length f) then
 bif decide ((0 : Int) ≤ (if (ByteArray.size (List.getD f (Int.toNat q) (dflt .str)) : Int) < (ByteArray.size (List.getD f (Int.toNat i0) (dflt .str)) : Int) then (ByteArray.size (List.getD f (Int.toNat q) (dflt .str)) : Int) else (ByteArray.size (List.getD f (Int.toNat i0) (dflt .str)) : Int))) then
 bif decide (0 ≤ Int.toNat (if (ByteArray.size (List.getD f (Int.toNat q) (dflt .str)) : Int) < (ByteArray.size (List.getD f (Int.toNat i0) (dflt .str)) : Int) then (ByteArray.size (List.getD f (Int.toNat q) (dflt .str)) : Int) else (ByteArray.size (List.getD f (Int.toNat i0) (dflt .str)) : Int)) ∧ Int.toNat (if (ByteArray.size (List.getD f (Int.toNat q) (dflt .str)) : Int) < (ByteArray.size (List.getD f (Int.toNat i0) (dflt .str)) : Int) then (ByteArray.size (List.getD f (Int.toNat q) (dflt .str)) : Int) else (ByteArray.size (List.getD f (Int.toNat i0) (dflt .str)) : Int)) ≤ ByteArray.size (List.getD f (Int.toNat i0) (dflt .str))) then
 bif decide ((0 : Int) ≤ q ∧ q < (List.length f : Int)) then
 bif decide (Int.toNat q < List.length f) then
 bif decide ((0 : Int) ≤ (if (ByteArray.size (List.getD f (Int.toNat q) (dflt .str)) : Int) < (ByteArray.size (List.getD f (Int.toNat i0) (dflt .str)) : Int) then (ByteArray.size (List.getD f (Int.toNat q) (dflt .str)) : Int) else (ByteArray.size (List.getD f (Int.toNat i0) (dflt .str)) : Int))) then
 bif decide (0 ≤ Int.toNat (if (ByteArray.size (List.getD f (Int.toNat q) (dflt .str)) : Int) < (ByteArray.size (List.getD f (Int.toNat i0) (dflt .str)) : Int) then (ByteArray.size (List.getD f (Int.toNat q) (dflt .str)) : Int) else (ByteArray.size (List.getD f (Int.toNat i0) (dflt .str)) : Int)) ∧ Int.toNat (if (ByteArray.size (List.getD f (Int.toNat q) (dflt .str)) : Int) < (ByteArray.size (List.getD f (Int.toNat i0) (dflt .str)) : Int) then (ByteArray.size (List.getD f (Int.toNat q) (dflt .str)) : Int) else (ByteArray.size (List.getD f (Int.toNat i0) (dflt .str)) : Int)) ≤ ByteArray.size (List.getD f (Int.toNat q) (dflt .str))) then
 bif decide ((0 : Int) ≤ i0 ∧ i0 < (List.length a : Int)) then
 bif decide (Int.toNat i0 < List.length a) then
 bif decide ((0 : Int) ≤ q ∧ q < (List.length a : Int)) then
 bif decide (Int.toNat q < List.length a) then
 bif !((ByteArray.toList (ByteArray.extract (List.getD f (Int.toNat i0) (dflt .str)) 0 (Int.toNat (if (ByteArray.size (List.getD f (Int.toNat q) (dflt .str)) : Int) < (ByteArray.size (List.getD f (Int.toNat i0) (dflt .str)) : Int) then (ByteArray.size (List.getD f (Int.toNat q) (dflt .str)) : Int) else (ByteArray.size (List.getD f (Int.toNat i0) (dflt .str)) : Int)))) == ByteArray.toList (ByteArray.extract (List.getD f (Int.toNat q) (dflt .str)) 0 (Int.toNat (if (ByteArray.size (List.getD f (Int.toNat q) (dflt .str)) : Int) < (ByteArray.size (List.getD f (Int.toNat i0) (dflt .str)) : Int) then (ByteArray.size (List.getD f (Int.toNat q) (dflt .str)) : Int) else (ByteArray.size (List.getD f (Int.toNat i0) (dflt .str)) : Int))))) == ((List.getD a (Int.toNat i0) (dflt (.int .u64))) == (List.getD a (Int.toNat q) (dflt (.int .u64))))) then
 inrO (inrO (some ((), false)))
 else
 some (.inl ((IntKind.wrap .i64 (i0 + (1 : Int)), ()), ()))
 else none
 else none
 else none
 else none
 else none
 else none
 else none
 else none
 else none
 else none
 else none
 else none
 else none
 else none
 else none
 else none
 else
 inrO (bif decide (List.length l0 = List.length l0) then
 some (.inl ((IntKind.wrap .i64 (q + (1 : Int)), ()), ((l0, m0, (false, dflt (.pair (.int .i64) (.pair (.int .i64) .unit)), ()), ()), ())))
 else none))
 (((0 : Int), ()), ())
 else none
 else none
 else none
 else
 inrO (bif decide (List.length s = List.length s) then
 Option.bind (p19_2 fu ((s, t, (false, dflt (.pair (.int .i64) (.pair (.int .i64) .unit)), ()), ()), ())) fun ⟨⟨⟨_, _, ⟨t0, ⟨_, _, _⟩, _⟩, _⟩, _, _⟩, u0⟩ =>
 bif t0 then
 some ((), (u0 == (0 : Int)))
 else
 some ((), (u0 == (0 : Int)))
 else none))
 (((0 : Int), ()), ((n, o, (false, dflt (.pair (.int .i64) (.pair (.int .i64) .unit)), ()), ()), ()))
 else none
 else none
 else none))
 (([], (0 : Int), ()), (([], ()), ()))
def e10 (fu : Nat) : Ent := ⟨10, (.cons (.hole (.sl (.int .u64))) .nil), .nil, (.hole .bool), p10 fu⟩
def d10 (fu : Nat) : DC := (.seq (.region [opD 2 (.mov (.const vB))] [[]] false) (.seq (.region [oqD 12 (.call 11 []) (.ent (e11 fu)), mvD 3 12] [[], [0, 0, 0]] false) (.seq (.region [opD 13 (.build 1 [vS] []), opD 14 (.box 60 1 (tD 13)), mvD 4 14] [[], [0], [1, 0, 1]] false) (.seq (.region [opD 5 (.mov (.const vS))] [[]] false) (.seq (.seq (.region [opD 6 (.mov (cD 0))] [[]] false) (.block 0 (.loop ⟨[5, 6], (.cons (.own .own 9 .str) (.cons (.hole (.int .i64)) .nil)), [(64, 60, 1)], (.cons (.agg 1 (.cons (.own .own 5 (.int .u8)) .nil)) .nil), [0, 3, 4], []⟩
 (.seq (.seq (.region [mvD 15 6, mvD 16 0, opD 17 (.len false (tD 16)), opD 18 (.bin .lss (tD 15) (tD 17))] [[], [], [1], [0, 2]] false) (.cond (.tmp 18) .skip (.exit 0))) (.seq (.block 1 (.seq (.region [mvD 21 4, mvD 22 0, mvD 23 6, opD 24 (.iaddr 1 (tD 22) (tD 23)), opD 25 (.load false 1 (tD 24)), oqD 26 (.call 34 [(tD 21), (tD 25)]) (.ent (e34_1 fu))] [[], [], [], [1, 2], [3], [0, 4]] false) (.seq (.region [opD 27 (.build 1 [vS] []), opD 28 (.box 60 1 (tD 27)), mvD 7 28] [[], [0], [1, 0, 1]] false) (.seq (.region [mvD 29 7, mvD 30 0, mvD 31 6, opD 32 (.iaddr 1 (tD 30) (tD 31)), opD 33 (.load false 1 (tD 32)), oqD 34 (.call 34 [(tD 29), (tD 33)]) (.ent (e34 fu))] [[], [], [], [1, 2], [3], [0, 4]] false) (.region [mvD 35 5, mvD 36 7, oqD 37 (.call 27 [(tD 36)]) (.ent (e27 fu)), opD 38 (.b2s (tD 37)), oqD 39 (.bslice 9 1 1 [vT] [(0, (tD 38))]) (.ty .str), oqD 40 (.app 9 1 [vT] 16 (tD 35) (tD 39)) (.ty .str), mvD 5 40] [[], [], [1], [2], [3], [0, 4, 2], [5, 5, 0, 1, 2, 3, 4, 5]] false))))) (.region [mvD 19 6, opD 20 (.bin .add (tD 19) (cD 1)), mvD 6 20] [[], [0], [1, 0, 1]] false)))))) (.seq (.region [mvD 41 4, oqD 42 (.call 27 [(tD 41)]) (.ent (e27 fu)), oqD 43 (.call 14 [(tD 42)]) (.ent (e14 fu)), mvD 8 43] [[], [0], [1, 1], [2, 2, 0, 1, 2]] false) (.seq (.seq (.region [mvD 44 3, opD 45 (.not (tD 44)), mvD 46 45, ogD 47 46 false (.mov (tD 8)), ogD 48 46 false (.pure (.nilq 0 false) [(tD 47)]), opD 49 (.pick (tD 46) (.const (.bool true)) (tD 48))] [[], [0], [1], [2], [3, 2], [2, 4]] false) (.cond (.tmp 49) (.seq (.region [opD 2 (.mov (.const vB))] [[]] false) .ret) .skip)) (.seq (.seq (.region [opD 9 (.mov (cD 0))] [[]] false) (.block 2 (.loop ⟨[9], (.cons (.hole (.int .i64)) .nil), [(226, 95, 3)], (.cons Y1 .nil), [0, 5, 8], [128]⟩
 (.seq (.seq (.region [mvD 50 9, mvD 51 0, opD 52 (.len false (tD 51)), opD 53 (.bin .lss (tD 50) (tD 52))] [[], [], [1], [0, 2]] false) (.cond (.tmp 53) .skip (.exit 2))) (.seq (.block 3 (.seq (.seq (.region [mvD 56 8, oqD 57 (.call 15 [(tD 56)]) (.ent (e15_2 fu)), mvD 58 0, mvD 59 9, opD 60 (.iaddr 1 (tD 58) (tD 59)), opD 61 (.load false 1 (tD 60)), opD 62 (.bin .neq (tD 57) (tD 61))] [[], [0], [], [], [2, 3], [4], [1, 5]] true) (.cond (.tmp 62) (.seq (.region [opD 2 (.mov (.const vB))] [[]] false) .ret) .skip)) (.seq (.region [opD 10 (.mov (cD 0))] [[]] false) (.block 4 (.loop ⟨[10], (.cons (.hole (.int .i64)) .nil), [], .nil, [0, 5, 8, 9], [128, 226, 451]⟩
 (.seq (.seq (.region [mvD 63 10, mvD 64 9, opD 65 (.bin .lss (tD 63) (tD 64))] [[], [], [0, 1]] false) (.cond (.tmp 65) .skip (.exit 4))) (.seq (.block 5 (.join ⟨[91, 92, 94, 95, 96, 98, 99, 100, 112], (.cons (.hole (.sl (.int .u64))) (.cons (.hole (.int .i64)) (.cons (.hole (.int .u64)) (.cons (.hole (.sl (.int .u64))) (.cons (.hole (.int .i64)) (.cons (.hole (.int .u64)) (.cons (.hole .bool) (.cons (.hole .bool) (.cons (.hole .bool) .nil))))))))), [], .nil, [0, 5, 8, 9, 10], [128, 226, 451]⟩
 (.seq (.region [mvD 68 0, mvD 69 10, opD 70 (.iaddr 1 (tD 68) (tD 69)), opD 71 (.load false 1 (tD 70)), mvD 72 0, mvD 73 9, opD 74 (.iaddr 1 (tD 72) (tD 73)), opD 75 (.load false 1 (tD 74)), opD 76 (.bin .leq (tD 71) (tD 75)), mvD 77 76, ogD 78 77 true (.mov (tD 5)), ogD 79 77 true (.mov (tD 10)), ogD 80 77 true (.iaddr 1 (tD 78) (tD 79)), ogD 81 77 true (.load false 1 (tD 80)), ogD 82 77 true (.len true (tD 81)), ogD 83 77 true (.mov (tD 5)), ogD 84 77 true (.mov (tD 9)), ogD 85 77 true (.iaddr 1 (tD 83) (tD 84)), ogD 86 77 true (.load false 1 (tD 85)), ogD 87 77 true (.len true (tD 86)), ogD 88 77 true (.bin .gtr (tD 82) (tD 87)), opD 89 (.pick (tD 77) (tD 88) (.const vB)), mvD 90 89, ogD 91 90 false (.mov (tD 0)), ogD 92 90 false (.mov (tD 10)), ogD 93 90 false (.iaddr 1 (tD 91) (tD 92)), ogD 94 90 false (.load false 1 (tD 93)), ogD 95 90 false (.mov (tD 0)), ogD 96 90 false (.mov (tD 9)), ogD 97 90 false (.iaddr 1 (tD 95) (tD 96)), ogD 98 90 false (.load false 1 (tD 97)), ogD 99 90 false (.bin .geq (tD 94) (tD 98)), ogD 100 90 false (.mov (tD 99)), ogD 101 100 true (.mov (tD 5)), ogD 102 100 true (.mov (tD 10)), ogD 103 100 true (.iaddr 1 (tD 101) (tD 102)), ogD 104 100 true (.load false 1 (tD 103)), ogD 105 100 true (.len true (tD 104)), ogD 106 100 true (.mov (tD 5)), ogD 107 100 true (.mov (tD 9)), ogD 108 100 true (.iaddr 1 (tD 106) (tD 107)), ogD 109 100 true (.load false 1 (tD 108)), ogD 110 100 true (.len true (tD 109)), ogD 111 100 true (.bin .lss (tD 105) (tD 110)), ogD 112 90 false (.pick (tD 100) (tD 111) (.const vB)), opD 113 (.pick (tD 90) (.const (.bool true)) (tD 112))] [[], [], [0, 1], [2], [], [], [4, 5], [6], [3, 7], [8], [9], [9], [10, 11, 9], [12, 9], [13, 9], [9], [9], [15, 16, 9], [17, 9], [18, 9], [14, 19, 9], [9, 20], [21, 9], [22], [22], [23, 24, 22], [25, 22], [22], [22], [27, 28, 22], [29, 22], [26, 30, 22], [31, 22, 22], [32], [32], [33, 34, 32], [35, 32], [36, 32], [32], [32], [38, 39, 32], [40, 32], [41, 32], [37, 42, 32], [32, 43, 22], [22, 44]] true) (.cond (.tmp 113) (.seq (.region [opD 2 (.mov (.const vB))] [[]] false) .ret) .skip))
 (.seq (.region [mvD 114 5, mvD 115 10, opD 116 (.iaddr 1 (tD 114) (tD 115)), opD 117 (.load false 1 (tD 116)), opD 118 (.len true (tD 117)), mvD 119 5, mvD 120 9, opD 121 (.iaddr 1 (tD 119) (tD 120)), opD 122 (.load false 1 (tD 121)), opD 123 (.len true (tD 122)), opD 124 (.mm false (tD 118) (tD 123)), mvD 11 124] [[], [], [0, 1], [2], [3], [], [], [5, 6], [7], [8], [4, 9], [10, 0, 1, 2, 3, 4, 5, 6, 7, 8, 9, 10]] true) (.seq (.region [mvD 125 5, mvD 126 10, opD 127 (.iaddr 1 (tD 125) (tD 126)), opD 128 (.load false 1 (tD 127)), mvD 129 11, opD 130 (.slc 0 (tD 128) none (some (tD 129))), mvD 131 5, mvD 132 9, opD 133 (.iaddr 1 (tD 131) (tD 132)), opD 134 (.load false 1 (tD 133)), mvD 135 11, opD 136 (.slc 0 (tD 134) none (some (tD 135))), opD 137 (.bin .eql (tD 130) (tD 136)), mvD 138 0, mvD 139 10, opD 140 (.iaddr 1 (tD 138) (tD 139)), opD 141 (.load false 1 (tD 140)), mvD 142 0, mvD 143 9, opD 144 (.iaddr 1 (tD 142) (tD 143)), opD 145 (.load false 1 (tD 144)), opD 146 (.bin .eql (tD 141) (tD 145)), opD 147 (.beq true (tD 137) (tD 146))] [[], [], [0, 1], [2], [], [3, 4], [], [], [6, 7], [8], [], [9, 10], [5, 11], [], [], [13, 14], [15], [], [], [17, 18], [19], [16, 20], [12, 21]] true) (.cond (.tmp 147) (.seq (.region [opD 2 (.mov (.const vB))] [[]] false) .ret) .skip))))) (.region [mvD 66 10, opD 67 (.bin .add (tD 66) (cD 1)), mvD 10 67] [[], [0], [1, 0, 1]] false)))))))) (.region [mvD 54 9, opD 55 (.bin .add (tD 54) (cD 1)), mvD 9 55] [[], [0], [1, 0, 1]] false)))))) (.seq (.region [mvD 148 8, oqD 149 (.call 19 [(tD 148)]) (.ent (e19_2 fu)), opD 150 (.bin .eql (tD 149) (cD 0)), mvD 2 150] [[], [0], [1], [2, 1, 0, 1, 2]] false) .ret)))))))))
set_option maxRecDepth 1000000 in
theorem v10 (fu : Nat) : evF fu (d10 fu) rs10 151 (e10 fu).ash (e10 fu).osh (e10 fu).vsh = p10 fu := by kernel_rfl
set_option maxRecDepth 1000000 in
theorem b10 (fu : Nat) : BodyD Tryd.prog 10 151 (d10 fu).erase rs10 := bodyD_mk Tryd.func10 (by kernel_rfl) (by kernel_rfl) (by kernel_rfl) (by kernel_rfl)
theorem g10 (fu : Nat) : (e10 fu).Good Tryd.prog := good_by orders (b10 fu) (l := [e11 fu, e34_1 fu, e34 fu, e27 fu, e27 fu, e14 fu, e15_2 fu, e19_2 fu]) (by kernel_rfl) ⟨g11 fu, g34_1 fu, g34 fu, g27 fu, g27 fu, g14 fu, g15_2 fu, g19_2 fu, trivial⟩ (by kernel_rfl) (v10 fu)
end Go.Proofs.YtfhdpeceppafiaaDoor
