/-
  The functions, typed.
-/
import Derived.Test.YtfhdpeceppafiaaDoorDaL
import Derived.Test.YtfhdpeceppafiaaDoorRows
namespace Go.Proofs.YtfhdpeceppafiaaDoor
open Go.RowKit
abbrev T_runtime_errorAddressString : Tp := (.pair .str (.int .u64))
abbrev D_runtime_errorAddressString := (ByteArray) × (Int)
abbrev T_api_Range : Tp := (.pair .str .str)
abbrev D_api_Range := (ByteArray) × (ByteArray)
abbrev T_gazettelaw01_Step : Tp := (.pair (.int .i64) (.int .i64))
abbrev D_gazettelaw01_Step := (Int) × (Int)
abbrev T_reflectlite_ValueError : Tp := (.pair .str (.int .u8))
abbrev D_reflectlite_ValueError := (ByteArray) × (Int)
abbrev T_api_Conf : Tp := (.pair (.sl (.int .i64)) (.sl (.int .i64)))
abbrev D_api_Conf := (List (Int)) × (List (Int))
abbrev T_api_Hard : Tp := (.pair (.int .u64) (.pair (.int .i64) (.int .u64)))
abbrev D_api_Hard := (Int) × ((Int) × (Int))
abbrev T_runtime_boundsError : Tp := (.pair (.int .i64) (.pair (.int .i64) (.pair .bool (.int .u8))))
abbrev D_runtime_boundsError := (Int) × ((Int) × ((Bool) × (Int)))
abbrev T_gazetteref01_Reader : Tp := (.pair (.sl (.int .u8)) (.pair (.int .i64) T_gazettelaw01_Step))
abbrev D_gazetteref01_Reader := (List (Int)) × ((Int) × (D_gazettelaw01_Step))
abbrev T_abi_Method : Tp := (.pair (.int .i32) (.pair (.int .i32) (.pair (.int .i32) (.int .i32))))
abbrev D_abi_Method := (Int) × ((Int) × ((Int) × (Int)))
abbrev T_api_Record : Tp := (.pair (.int .u64) (.pair .str (.pair (.sl (.int .u8)) (.pair (.int .u64) (.int .u64)))))
abbrev D_api_Record := (Int) × ((ByteArray) × ((List (Int)) × ((Int) × (Int))))
abbrev T_abi_UncommonType : Tp := (.pair (.int .i32) (.pair (.int .u16) (.pair (.int .u16) (.pair (.int .u32) (.int .u32)))))
abbrev D_abi_UncommonType := (Int) × ((Int) × ((Int) × ((Int) × (Int))))
abbrev T_api_Snap : Tp := (.pair (.int .u64) (.pair (.int .u64) (.pair T_api_Conf (.sl (.int .u8)))))
abbrev D_api_Snap := (Int) × ((Int) × ((D_api_Conf) × (List (Int))))
abbrev T_api_Entry : Tp := (.pair (.int .u64) (.pair (.int .u64) (.pair (.int .i64) (.pair (.sl (.int .u8)) T_api_Conf))))
abbrev D_api_Entry := (Int) × ((Int) × ((Int) × ((List (Int)) × (D_api_Conf))))
abbrev T_api_Item : Tp := (.pair (.int .i64) (.pair (.int .u64) (.pair T_api_Entry (.pair T_api_Hard (.pair (.int .u64) T_api_Snap)))))
abbrev D_api_Item := (Int) × ((Int) × ((D_api_Entry) × ((D_api_Hard) × ((Int) × (D_api_Snap)))))
abbrev T_gazettelaw01_Thing : Tp := (.pair (.int .i64) (.pair (.int .u64) (.pair (.int .i64) (.pair .bool (.pair (.sl (.int .u8)) (.pair T_api_Conf (.pair T_api_Entry (.pair T_api_Snap (.pair T_api_Range T_api_Record)))))))))
abbrev D_gazettelaw01_Thing := (Int) × ((Int) × ((Int) × ((Bool) × ((List (Int)) × ((D_api_Conf) × ((D_api_Entry) × ((D_api_Snap) × ((D_api_Range) × (D_api_Record)))))))))
theorem orders : Tryd.prog.follows .mixedOrders = true := by kernel_rfl
abbrev Z0 : Type := (Int) × ((Int) × ((Int) × ((List (Int)) × ((List (Int)) × ((List (Int)) × (Unit))))))
abbrev Y1 : Sh := (.agg 6 (.cons (.hole (.int .u64)) (.cons (.hole (.int .u64)) (.cons (.hole (.int .i64)) (.cons (.hole (.sl (.int .u8))) (.cons (.hole (.sl (.int .i64))) (.cons (.hole (.sl (.int .i64))) .nil)))))))
abbrev Y2 : Sh := (.agg 5 (.cons (.hole (.int .u64)) (.cons (.hole (.int .u64)) (.cons (.hole (.sl (.int .i64))) (.cons (.hole (.sl (.int .i64))) (.cons (.hole (.sl (.int .u8))) .nil))))))
abbrev Y3 : Sh := (.agg 5 (.cons (.hole (.int .u64)) (.cons (.hole .str) (.cons (.hole (.sl (.int .u8))) (.cons (.hole (.int .u64)) (.cons (.hole (.int .u64)) .nil))))))
abbrev Z4 : Type := (Int) × ((Int) × ((Int) × ((Bool) × ((List (Int)) × ((List (Int)) × ((List (Int)) × ((Int) × ((Int) × ((Int) × ((List (Int)) × ((List (Int)) × ((List (Int)) × ((Int) × ((Int) × ((List (Int)) × ((List (Int)) × ((List (Int)) × ((ByteArray) × ((ByteArray) × ((Int) × ((ByteArray) × ((List (Int)) × ((Int) × ((Int) × (Unit)))))))))))))))))))))))))
abbrev Y5 : Sh := (.agg 25 (.cons (.hole (.int .i64)) (.cons (.hole (.int .u64)) (.cons (.hole (.int .i64)) (.cons (.hole .bool) (.cons (.hole (.sl (.int .u8))) (.cons (.hole (.sl (.int .i64))) (.cons (.hole (.sl (.int .i64))) (.cons (.hole (.int .u64)) (.cons (.hole (.int .u64)) (.cons (.hole (.int .i64)) (.cons (.hole (.sl (.int .u8))) (.cons (.hole (.sl (.int .i64))) (.cons (.hole (.sl (.int .i64))) (.cons (.hole (.int .u64)) (.cons (.hole (.int .u64)) (.cons (.hole (.sl (.int .i64))) (.cons (.hole (.sl (.int .i64))) (.cons (.hole (.sl (.int .u8))) (.cons (.hole .str) (.cons (.hole .str) (.cons (.hole (.int .u64)) (.cons (.hole .str) (.cons (.hole (.sl (.int .u8))) (.cons (.hole (.int .u64)) (.cons (.hole (.int .u64)) .nil))))))))))))))))))))))))))
def rs34 : List RVx := []
/-- (*gazette/codec.Writer).Uint -/
def p34 (fu : Nat) : ((Unit) × (Unit)) × ((Int) × (Unit)) → Option ((((List (Int)) × (Unit)) × (Unit)) × (Unit)) := fun ⟨⟨_, _⟩, a, _⟩ =>
loopO (S := ((Int) × (Unit)) × (((List (Int)) × (Unit)) × (Unit))) fu (fun ⟨⟨c, _⟩, ⟨⟨f, _⟩, _⟩⟩ =>
 bif decide (c ≥ (128 : Int)) then
 bif decide (List.length f = List.length f) then
 bif decide (List.length f + List.length ([IntKind.wrap .u8 ((BitVec.ofInt (IntKind.bits .u8) (IntKind.wrap .u8 c) ||| BitVec.ofInt (IntKind.bits .u8) (128 : Int)).toNat : Int)]) ≤ maxLen ∧ (List.length f + List.length ([IntKind.wrap .u8 ((BitVec.ofInt (IntKind.bits .u8) (IntKind.wrap .u8 c) ||| BitVec.ofInt (IntKind.bits .u8) (128 : Int)).toNat : Int)])) * 1 ≤ 140737488355328) then
 bif decide (List.length (f ++ [IntKind.wrap .u8 ((BitVec.ofInt (IntKind.bits .u8) (IntKind.wrap .u8 c) ||| BitVec.ofInt (IntKind.bits .u8) (128 : Int)).toNat : Int)]) = List.length (f ++ [IntKind.wrap .u8 ((BitVec.ofInt (IntKind.bits .u8) (IntKind.wrap .u8 c) ||| BitVec.ofInt (IntKind.bits .u8) (128 : Int)).toNat : Int)])) then
 some (.inl ((Int.fdiv c (2 ^ (min (Int.toNat (7 : Int)) (IntKind.bits .u64))), ()), (((f ++ [IntKind.wrap .u8 ((BitVec.ofInt (IntKind.bits .u8) (IntKind.wrap .u8 c) ||| BitVec.ofInt (IntKind.bits .u8) (128 : Int)).toNat : Int)]), ()), ())))
 else none
 else none
 else none
 else
 inrO (bif decide (List.length f = List.length f) then
 bif decide (List.length f + List.length ([IntKind.wrap .u8 c]) ≤ maxLen ∧ (List.length f + List.length ([IntKind.wrap .u8 c])) * 1 ≤ 140737488355328) then
 bif decide (List.length (f ++ [IntKind.wrap .u8 c]) = List.length (f ++ [IntKind.wrap .u8 c])) then
 some ((((f ++ [IntKind.wrap .u8 c]), ()), ()), ())
 else none
 else none
 else none))
 ((a, ()), (([], ()), ()))
def e34 (fu : Nat) : Ent := ⟨34, (.cons (.box 60 1 (.cons .nils .nil)) (.cons (.hole (.int .u64)) .nil)), (.cons (.agg 1 (.cons (.own .own 5 (.int .u8)) .nil)) .nil), (.tup 0 .nil), p34 fu⟩
def d34 (_ : Nat) : DC := (.seq (.block 0 (.loop ⟨[1], (.cons (.hole (.int .u64)) .nil), [(0, 60, 1)], (.cons (.agg 1 (.cons (.own .own 5 (.int .u8)) .nil)) .nil), [0], []⟩
 (.seq (.seq (.region [mvD 4 1, opD 5 (.bin .geq (tD 4) (.const (.int .u64 128)))] [[], [0]] false) (.cond (.tmp 5) .skip (.exit 0))) (.block 1 (.seq (.region [mvD 6 0, mvD 7 0, opD 8 (.pure .nilc [(tD 7)]), opD 9 (.faddr 0 (tD 8)), opD 10 (.load false 1 (tD 9)), mvD 11 1, opD 12 (.conv .u8 (tD 11)), opD 13 (.bin .or (tD 12) (.const (.int .u8 128))), oqD 14 (.bslice 5 1 1 [(.int .u8 0)] [(0, (tD 13))]) (.ty (.int .u8)), oqD 15 (.app 5 1 [(.int .u8 0)] 1 (tD 10) (tD 14)) (.ty (.int .u8)), opD 16 (.pure .nilc [(tD 6)]), opD 17 (.faddr 0 (tD 16)), onD (.store 1 (tD 17) (tD 15))] [[], [], [1], [2], [3], [], [5], [6], [7], [4, 8], [0, 0, 1, 2, 3, 4, 5, 6, 7, 8, 9], [10, 0, 1, 2, 3, 4, 5, 6, 7, 8, 9], [11, 9, 9, 0, 1, 2, 3, 4, 5, 6, 7, 8, 9]] false) (.region [mvD 18 1, opD 19 (.bin .shr (tD 18) (.const (.int .u64 7))), mvD 1 19] [[], [0], [1, 0, 1]] false)))))) (.region [mvD 20 0, mvD 21 0, opD 22 (.pure .nilc [(tD 21)]), opD 23 (.faddr 0 (tD 22)), opD 24 (.load false 1 (tD 23)), mvD 25 1, opD 26 (.conv .u8 (tD 25)), oqD 27 (.bslice 5 1 1 [(.int .u8 0)] [(0, (tD 26))]) (.ty (.int .u8)), oqD 28 (.app 5 1 [(.int .u8 0)] 1 (tD 24) (tD 27)) (.ty (.int .u8)), opD 29 (.pure .nilc [(tD 20)]), opD 30 (.faddr 0 (tD 29)), onD (.store 1 (tD 30) (tD 28))] [[], [], [1], [2], [3], [], [5], [6], [4, 7], [0, 0, 1, 2, 3, 4, 5, 6, 7, 8], [9, 0, 1, 2, 3, 4, 5, 6, 7, 8], [10, 8, 8, 0, 1, 2, 3, 4, 5, 6, 7, 8]] false))
set_option maxRecDepth 1000000 in
theorem v34 (fu : Nat) : evF fu (d34 fu) rs34 31 (e34 fu).ash (e34 fu).osh (e34 fu).vsh = p34 fu := by kernel_rfl
set_option maxRecDepth 1000000 in
theorem b34 (fu : Nat) : BodyD Tryd.prog 34 31 (d34 fu).erase rs34 := bodyD_mk Tryd.func34 (by kernel_rfl) (by kernel_rfl) (by kernel_rfl) (by kernel_rfl)
theorem g34 (fu : Nat) : (e34 fu).Good Tryd.prog := good_by orders (b34 fu) (l := []) (by kernel_rfl) trivial (by kernel_rfl) (v34 fu)
/-- (*gazette/codec.Writer).Uint -/
def p34_1 (fu : Nat) : ((List (Int)) × (Unit)) × ((Int) × (Unit)) → Option ((((List (Int)) × (Unit)) × ((Unit) × (Unit))) × (Unit)) := fun ⟨⟨a, _⟩, c, _⟩ =>
bif decide (List.length a = List.length a) then
 loopO (S := ((Int) × (Unit)) × (((List (Int)) × (Unit)) × (Unit))) fu (fun ⟨⟨f, _⟩, ⟨⟨h, _⟩, _⟩⟩ =>
 bif decide (f ≥ (128 : Int)) then
 bif decide (List.length h = List.length h) then
 bif decide (List.length h + List.length ([IntKind.wrap .u8 ((BitVec.ofInt (IntKind.bits .u8) (IntKind.wrap .u8 f) ||| BitVec.ofInt (IntKind.bits .u8) (128 : Int)).toNat : Int)]) ≤ maxLen ∧ (List.length h + List.length ([IntKind.wrap .u8 ((BitVec.ofInt (IntKind.bits .u8) (IntKind.wrap .u8 f) ||| BitVec.ofInt (IntKind.bits .u8) (128 : Int)).toNat : Int)])) * 1 ≤ 140737488355328) then
 bif decide (List.length (h ++ [IntKind.wrap .u8 ((BitVec.ofInt (IntKind.bits .u8) (IntKind.wrap .u8 f) ||| BitVec.ofInt (IntKind.bits .u8) (128 : Int)).toNat : Int)]) = List.length (h ++ [IntKind.wrap .u8 ((BitVec.ofInt (IntKind.bits .u8) (IntKind.wrap .u8 f) ||| BitVec.ofInt (IntKind.bits .u8) (128 : Int)).toNat : Int)])) then
 some (.inl ((Int.fdiv f (2 ^ (min (Int.toNat (7 : Int)) (IntKind.bits .u64))), ()), (((h ++ [IntKind.wrap .u8 ((BitVec.ofInt (IntKind.bits .u8) (IntKind.wrap .u8 f) ||| BitVec.ofInt (IntKind.bits .u8) (128 : Int)).toNat : Int)]), ()), ())))
 else none
 else none
 else none
 else
 inrO (bif decide (List.length h = List.length h) then
 bif decide (List.length h + List.length ([IntKind.wrap .u8 f]) ≤ maxLen ∧ (List.length h + List.length ([IntKind.wrap .u8 f])) * 1 ≤ 140737488355328) then
 bif decide (List.length (h ++ [IntKind.wrap .u8 f]) = List.length (h ++ [IntKind.wrap .u8 f])) then
 some ((((h ++ [IntKind.wrap .u8 f]), ()), (), ()), ())
 else none
 else none
 else none))
 ((c, ()), ((a, ()), ()))
else none
def e34_1 (fu : Nat) : Ent := ⟨34, (.cons (.box 60 1 (.cons (.own .own 5 (.int .u8)) .nil)) (.cons (.hole (.int .u64)) .nil)), (.cons (.agg 1 (.cons (.own .own 5 (.int .u8)) .nil)) (.cons .dead .nil)), (.tup 0 .nil), p34_1 fu⟩
def d34_1 (_ : Nat) : DC := (.seq (.block 0 (.loop ⟨[1], (.cons (.hole (.int .u64)) .nil), [(0, 60, 1)], (.cons (.agg 1 (.cons (.own .own 5 (.int .u8)) .nil)) .nil), [0], [1]⟩
 (.seq (.seq (.region [mvD 4 1, opD 5 (.bin .geq (tD 4) (.const (.int .u64 128)))] [[], [0]] false) (.cond (.tmp 5) .skip (.exit 0))) (.block 1 (.seq (.region [mvD 6 0, mvD 7 0, opD 8 (.pure .nilc [(tD 7)]), opD 9 (.faddr 0 (tD 8)), opD 10 (.load false 1 (tD 9)), mvD 11 1, opD 12 (.conv .u8 (tD 11)), opD 13 (.bin .or (tD 12) (.const (.int .u8 128))), oqD 14 (.bslice 5 1 1 [(.int .u8 0)] [(0, (tD 13))]) (.ty (.int .u8)), oqD 15 (.app 5 1 [(.int .u8 0)] 1 (tD 10) (tD 14)) (.ty (.int .u8)), opD 16 (.pure .nilc [(tD 6)]), opD 17 (.faddr 0 (tD 16)), onD (.store 1 (tD 17) (tD 15))] [[], [], [1], [2], [3], [], [5], [6], [7], [4, 8], [0, 0, 1, 2, 3, 4, 5, 6, 7, 8, 9], [10, 0, 1, 2, 3, 4, 5, 6, 7, 8, 9], [11, 9, 9, 0, 1, 2, 3, 4, 5, 6, 7, 8, 9]] false) (.region [mvD 18 1, opD 19 (.bin .shr (tD 18) (.const (.int .u64 7))), mvD 1 19] [[], [0], [1, 0, 1]] false)))))) (.region [mvD 20 0, mvD 21 0, opD 22 (.pure .nilc [(tD 21)]), opD 23 (.faddr 0 (tD 22)), opD 24 (.load false 1 (tD 23)), mvD 25 1, opD 26 (.conv .u8 (tD 25)), oqD 27 (.bslice 5 1 1 [(.int .u8 0)] [(0, (tD 26))]) (.ty (.int .u8)), oqD 28 (.app 5 1 [(.int .u8 0)] 1 (tD 24) (tD 27)) (.ty (.int .u8)), opD 29 (.pure .nilc [(tD 20)]), opD 30 (.faddr 0 (tD 29)), onD (.store 1 (tD 30) (tD 28))] [[], [], [1], [2], [3], [], [5], [6], [4, 7], [0, 0, 1, 2, 3, 4, 5, 6, 7, 8], [9, 0, 1, 2, 3, 4, 5, 6, 7, 8], [10, 8, 8, 0, 1, 2, 3, 4, 5, 6, 7, 8]] false))
set_option maxRecDepth 1000000 in
theorem v34_1 (fu : Nat) : evF fu (d34_1 fu) rs34 31 (e34_1 fu).ash (e34_1 fu).osh (e34_1 fu).vsh = p34_1 fu := by kernel_rfl
set_option maxRecDepth 1000000 in
theorem b34_1 (fu : Nat) : BodyD Tryd.prog 34 31 (d34_1 fu).erase rs34 := bodyD_mk Tryd.func34 (by kernel_rfl) (by kernel_rfl) (by kernel_rfl) (by kernel_rfl)
theorem g34_1 (fu : Nat) : (e34_1 fu).Good Tryd.prog := good_by orders (b34_1 fu) (l := []) (by kernel_rfl) trivial (by kernel_rfl) (v34_1 fu)
def rs35 : List RVx := []
/-- (*gazette/codec.Writer).String -/
def p35 (fu : Nat) : ((List (Int)) × (Unit)) × ((ByteArray) × (Unit)) → Option ((((List (Int)) × (Unit)) × ((Unit) × (Unit))) × (Unit)) := fun ⟨⟨a, _⟩, c, _⟩ =>
bif decide (List.length a = List.length a) then
 Option.bind (p34_1 fu ((a, ()), IntKind.wrap .u64 (ByteArray.size c : Int), ())) fun ⟨⟨⟨f, _⟩, _, _⟩, _⟩ =>
 bif decide (List.length f = List.length f) then
 bif decide (List.length f + ByteArray.size c ≤ maxLen ∧ List.length f + ByteArray.size c ≤ 140737488355328) then
 bif decide (List.length (f ++ numsOf c) = List.length (f ++ numsOf c)) then
 some ((((f ++ numsOf c), ()), (), ()), ())
 else none
 else none
 else none
else none
def e35 (fu : Nat) : Ent := ⟨35, (.cons (.box 60 1 (.cons (.own .own 5 (.int .u8)) .nil)) (.cons (.hole .str) .nil)), (.cons (.agg 1 (.cons (.own .own 5 (.int .u8)) .nil)) (.cons .dead .nil)), (.tup 0 .nil), p35 fu⟩
def d35 (fu : Nat) : DC := (.seq (.region [mvD 4 0, mvD 5 1, opD 6 (.len true (tD 5)), opD 7 (.conv .u64 (tD 6)), oqD 8 (.call 34 [(tD 4), (tD 7)]) (.ent (e34_1 fu))] [[], [], [1], [2], [0, 3]] false) (.region [mvD 9 0, mvD 10 0, opD 11 (.pure .nilc [(tD 10)]), opD 12 (.faddr 0 (tD 11)), opD 13 (.load false 1 (tD 12)), mvD 14 1, opD 15 (.apps 5 (tD 13) (tD 14)), opD 16 (.pure .nilc [(tD 9)]), opD 17 (.faddr 0 (tD 16)), onD (.store 1 (tD 17) (tD 15))] [[], [], [1], [2], [3], [], [4, 5], [0, 0, 1, 2, 3, 4, 5, 6], [7, 0, 1, 2, 3, 4, 5, 6], [8, 6, 6, 0, 1, 2, 3, 4, 5, 6]] false))
set_option maxRecDepth 1000000 in
theorem v35 (fu : Nat) : evF fu (d35 fu) rs35 18 (e35 fu).ash (e35 fu).osh (e35 fu).vsh = p35 fu := by kernel_rfl
set_option maxRecDepth 1000000 in
theorem b35 (fu : Nat) : BodyD Tryd.prog 35 18 (d35 fu).erase rs35 := bodyD_mk Tryd.func35 (by kernel_rfl) (by kernel_rfl) (by kernel_rfl) (by kernel_rfl)
theorem g35 (fu : Nat) : (e35 fu).Good Tryd.prog := good_by orders (b35 fu) (l := [e34_1 fu]) (by kernel_rfl) ⟨g34_1 fu, trivial⟩ (by kernel_rfl) (v35 fu)
def rs27 : List RVx := [(.tmp 2)]
/-- (*gazette/codec.Writer).Done -/
def p27 (_ : Nat) : ((List (Int)) × (Unit)) × (Unit) → Option ((Unit) × (List (Int))) := fun ⟨⟨a, _⟩, _⟩ =>
bif decide (List.length a ≤ maxLen ∧ List.length a * 1 ≤ 140737488355328) then
 bif decide (List.length a = List.length a) then
 some ((), a)
 else none
else none
def e27 (fu : Nat) : Ent := ⟨27, (.cons (.look (.cons (.hole (.sl (.int .u8))) .nil)) .nil), .nil, (.own .own 5 (.int .u8)), p27 fu⟩
def d27 (_ : Nat) : DC := (.seq (.region [opD 2 (.mov (.const vS))] [[]] false) (.seq (.region [mvD 3 0, opD 4 (.pure .nilc [(tD 3)]), opD 5 (.faddr 0 (tD 4)), opD 6 (.load false 1 (tD 5)), oqD 7 (.app 5 1 [(.int .u8 0)] 1 (.const vS) (tD 6)) (.ty (.int .u8)), mvD 2 7] [[], [0], [1], [2], [3], [4, 4, 0, 1, 2, 3, 4]] false) .ret))
set_option maxRecDepth 1000000 in
theorem v27 (fu : Nat) : evF fu (d27 fu) rs27 8 (e27 fu).ash (e27 fu).osh (e27 fu).vsh = p27 fu := by kernel_rfl
set_option maxRecDepth 1000000 in
theorem b27 (fu : Nat) : BodyD Tryd.prog 27 8 (d27 fu).erase rs27 := bodyD_mk Tryd.func27 (by kernel_rfl) (by kernel_rfl) (by kernel_rfl) (by kernel_rfl)
theorem g27 (fu : Nat) : (e27 fu).Good Tryd.prog := good_by orders (b27 fu) (l := []) (by kernel_rfl) trivial (by kernel_rfl) (v27 fu)
def rs24 : List RVx := [(.tmp 2)]
/-- gazette/codec.Sum -/
def p24 (fu : Nat) : (List (Int)) × (Unit) → Option ((Unit) × (Int)) := fun ⟨a, _⟩ =>
loopO (S := ((Int) × ((Int) × (Unit))) × (Unit)) fu (fun ⟨⟨c, f, _⟩, _⟩ =>
 bif decide (f < (List.length a : Int)) then
 bif decide ((0 : Int) ≤ f ∧ f < (List.length a : Int)) then
 bif decide (Int.toNat f < List.length a) then
 bif decide ((0 : Int) ≤ IntKind.wrap .u32 ((BitVec.ofInt (IntKind.bits .u32) (IntKind.wrap .u32 ((BitVec.ofInt (IntKind.bits .u32) c ^^^ BitVec.ofInt (IntKind.bits .u32) (IntKind.wrap .u32 (List.getD a (Int.toNat f) (dflt (.int .u8))))).toNat : Int)) &&& BitVec.ofInt (IntKind.bits .u32) (15 : Int)).toNat : Int) ∧ IntKind.wrap .u32 ((BitVec.ofInt (IntKind.bits .u32) (IntKind.wrap .u32 ((BitVec.ofInt (IntKind.bits .u32) c ^^^ BitVec.ofInt (IntKind.bits .u32) (IntKind.wrap .u32 (List.getD a (Int.toNat f) (dflt (.int .u8))))).toNat : Int)) &&& BitVec.ofInt (IntKind.bits .u32) (15 : Int)).toNat : Int) < (16 : Int) ∧ List.length gl0 = 16) then
 bif decide (Int.toNat (IntKind.wrap .u32 ((BitVec.ofInt (IntKind.bits .u32) (IntKind.wrap .u32 ((BitVec.ofInt (IntKind.bits .u32) c ^^^ BitVec.ofInt (IntKind.bits .u32) (IntKind.wrap .u32 (List.getD a (Int.toNat f) (dflt (.int .u8))))).toNat : Int)) &&& BitVec.ofInt (IntKind.bits .u32) (15 : Int)).toNat : Int)) < List.length gl0) then
 bif decide ((0 : Int) ≤ IntKind.wrap .u32 ((BitVec.ofInt (IntKind.bits .u32) (IntKind.wrap .u32 ((BitVec.ofInt (IntKind.bits .u32) (Int.fdiv (IntKind.wrap .u32 ((BitVec.ofInt (IntKind.bits .u32) c ^^^ BitVec.ofInt (IntKind.bits .u32) (IntKind.wrap .u32 (List.getD a (Int.toNat f) (dflt (.int .u8))))).toNat : Int)) (2 ^ (min (Int.toNat (4 : Int)) (IntKind.bits .u32)))) ^^^ BitVec.ofInt (IntKind.bits .u32) (List.getD gl0 (Int.toNat (IntKind.wrap .u32 ((BitVec.ofInt (IntKind.bits .u32) (IntKind.wrap .u32 ((BitVec.ofInt (IntKind.bits .u32) c ^^^ BitVec.ofInt (IntKind.bits .u32) (IntKind.wrap .u32 (List.getD a (Int.toNat f) (dflt (.int .u8))))).toNat : Int)) &&& BitVec.ofInt (IntKind.bits .u32) (15 : Int)).toNat : Int))) (dflt (.int .u32)))).toNat : Int)) &&& BitVec.ofInt (IntKind.bits .u32) (15 : Int)).toNat : Int) ∧ IntKind.wrap .u32 ((BitVec.ofInt (IntKind.bits .u32) (IntKind.wrap .u32 ((BitVec.ofInt (IntKind.bits .u32) (Int.fdiv (IntKind.wrap .u32 ((BitVec.ofInt (IntKind.bits .u32) c ^^^ BitVec.ofInt (IntKind.bits .u32) (IntKind.wrap .u32 (List.getD a (Int.toNat f) (dflt (.int .u8))))).toNat : Int)) (2 ^ (min (Int.toNat (4 : Int)) (IntKind.bits .u32)))) ^^^ BitVec.ofInt (IntKind.bits .u32) (List.getD gl0 (Int.toNat (IntKind.wrap .u32 ((BitVec.ofInt (IntKind.bits .u32) (IntKind.wrap .u32 ((BitVec.ofInt (IntKind.bits .u32) c ^^^ BitVec.ofInt (IntKind.bits .u32) (IntKind.wrap .u32 (List.getD a (Int.toNat f) (dflt (.int .u8))))).toNat : Int)) &&& BitVec.ofInt (IntKind.bits .u32) (15 : Int)).toNat : Int))) (dflt (.int .u32)))).toNat : Int)) &&& BitVec.ofInt (IntKind.bits .u32) (15 : Int)).toNat : Int) < (16 : Int) ∧ List.length gl0 = 16) then
 bif decide (Int.toNat (IntKind.wrap .u32 ((BitVec.ofInt (IntKind.bits .u32) (IntKind.wrap .u32 ((BitVec.ofInt (IntKind.bits .u32) (Int.fdiv (IntKind.wrap .u32 ((BitVec.ofInt (IntKind.bits .u32) c ^^^ BitVec.ofInt (IntKind.bits .u32) (IntKind.wrap .u32 (List.getD a (Int.toNat f) (dflt (.int .u8))))).toNat : Int)) (2 ^ (min (Int.toNat (4 : Int)) (IntKind.bits .u32)))) ^^^ BitVec.ofInt (IntKind.bits .u32) (List.getD gl0 (Int.toNat (IntKind.wrap .u32 ((BitVec.ofInt (IntKind.bits .u32) (IntKind.wrap .u32 ((BitVec.ofInt (IntKind.bits .u32) c ^^^ BitVec.ofInt (IntKind.bits .u32) (IntKind.wrap .u32 (List.getD a (Int.toNat f) (dflt (.int .u8))))).toNat : Int)) &&& BitVec.ofInt (IntKind.bits .u32) (15 : Int)).toNat : Int))) (dflt (.int .u32)))).toNat : Int)) &&& BitVec.ofInt (IntKind.bits .u32) (15 : Int)).toNat : Int)) < List.length gl0) then
 some (.inl ((IntKind.wrap .u32 ((BitVec.ofInt (IntKind.bits .u32) (Int.fdiv (IntKind.wrap .u32 ((BitVec.ofInt (IntKind.bits .u32) (Int.fdiv (IntKind.wrap .u32 ((BitVec.ofInt (IntKind.bits .u32) c ^^^ BitVec.ofInt (IntKind.bits .u32) (IntKind.wrap .u32 (List.getD a (Int.toNat f) (dflt (.int .u8))))).toNat : Int)) (2 ^ (min (Int.toNat (4 : Int)) (IntKind.bits .u32)))) ^^^ BitVec.ofInt (IntKind.bits .u32) (List.getD gl0 (Int.toNat (IntKind.wrap .u32 ((BitVec.ofInt (IntKind.bits .u32) (IntKind.wrap .u32 ((BitVec.ofInt (IntKind.bits .u32) c ^^^ BitVec.ofInt (IntKind.bits .u32) (IntKind.wrap .u32 (List.getD a (Int.toNat f) (dflt (.int .u8))))).toNat : Int)) &&& BitVec.ofInt (IntKind.bits .u32) (15 : Int)).toNat : Int))) (dflt (.int .u32)))).toNat : Int)) (2 ^ (min (Int.toNat (4 : Int)) (IntKind.bits .u32)))) ^^^ BitVec.ofInt (IntKind.bits .u32) (List.getD gl0 (Int.toNat (IntKind.wrap .u32 ((BitVec.ofInt (IntKind.bits .u32) (IntKind.wrap .u32 ((BitVec.ofInt (IntKind.bits .u32) (Int.fdiv (IntKind.wrap .u32 ((BitVec.ofInt (IntKind.bits .u32) c ^^^ BitVec.ofInt (IntKind.bits .u32) (IntKind.wrap .u32 (List.getD a (Int.toNat f) (dflt (.int .u8))))).toNat : Int)) (2 ^ (min (Int.toNat (4 : Int)) (IntKind.bits .u32)))) ^^^ BitVec.ofInt (IntKind.bits .u32) (List.getD gl0 (Int.toNat (IntKind.wrap .u32 ((BitVec.ofInt (IntKind.bits .u32) (IntKind.wrap .u32 ((BitVec.ofInt (IntKind.bits .u32) c ^^^ BitVec.ofInt (IntKind.bits .u32) (IntKind.wrap .u32 (List.getD a (Int.toNat f) (dflt (.int .u8))))).toNat : Int)) &&& BitVec.ofInt (IntKind.bits .u32) (15 : Int)).toNat : Int))) (dflt (.int .u32)))).toNat : Int)) &&& BitVec.ofInt (IntKind.bits .u32) (15 : Int)).toNat : Int))) (dflt (.int .u32)))).toNat : Int), IntKind.wrap .i64 (f + (1 : Int)), ()), ()))
 else none
 else none
 else none
 else none
 else none
 else none
 else
 inrO (some ((), IntKind.wrap .u32 ((BitVec.ofInt (IntKind.bits .u32) 4294967295 ^^^ BitVec.ofInt (IntKind.bits .u32) c).toNat : Int))))
 (((4294967295 : Int), (0 : Int), ()), ())
def e24 (fu : Nat) : Ent := ⟨24, (.cons (.hole (.sl (.int .u8))) .nil), .nil, (.hole (.int .u32)), p24 fu⟩
def d24 (_ : Nat) : DC := (.seq (.region [opD 2 (.mov (.const (.int .u32 0)))] [[]] false) (.seq (.region [opD 3 (.mov (.const (.int .u32 4294967295)))] [[]] false) (.seq (.seq (.region [mvD 6 0, opD 7 (.len false (tD 6)), opD 8 (.mov (cD 0))] [[], [0], []] false) (.block 0 (.loop ⟨[3, 8], (.cons (.hole (.int .u32)) (.cons (.hole (.int .i64)) .nil)), [], .nil, [6, 7], []⟩
 (.seq (.region [opD 9 (.bin .lss (tD 8) (tD 7))] [[]] false) (.seq (.cond (.tmp 9) .skip (.exit 0)) (.seq (.block 1 (.seq (.region [opD 10 (.iaddr 1 (tD 6) (tD 8)), opD 11 (.load false 1 (tD 10)), mvD 5 11] [[], [0], [1, 0, 1]] false) (.seq (.region [mvD 12 3, mvD 13 5, opD 14 (.conv .u32 (tD 13)), opD 15 (.bin .xor (tD 12) (tD 14)), mvD 3 15] [[], [], [1], [0, 2], [3, 0, 1, 2, 3]] false) (.seq (.region [mvD 16 3, opD 17 (.bin .shr (tD 16) (.const (.int .u64 4))), mvD 18 3, opD 19 (.bin .and (tD 18) (.const (.int .u32 15))), opD 20 (.pure (.gidx 16) [(.global 0), (tD 19)]), opD 21 (.load false 1 (tD 20)), opD 22 (.bin .xor (tD 17) (tD 21)), mvD 3 22] [[], [0], [], [2], [3], [4], [1, 5], [6, 0, 1, 2, 3, 4, 5, 6]] false) (.region [mvD 23 3, opD 24 (.bin .shr (tD 23) (.const (.int .u64 4))), mvD 25 3, opD 26 (.bin .and (tD 25) (.const (.int .u32 15))), opD 27 (.pure (.gidx 16) [(.global 0), (tD 26)]), opD 28 (.load false 1 (tD 27)), opD 29 (.bin .xor (tD 24) (tD 28)), mvD 3 29] [[], [0], [], [2], [3], [4], [1, 5], [6, 0, 1, 2, 3, 4, 5, 6]] false))))) (.region [opD 30 (.bin .add (tD 8) (cD 1)), mvD 8 30] [[], [0]] false))))))) (.seq (.region [mvD 31 3, opD 32 (.pure .com [(tD 31)]), mvD 2 32] [[], [0], [1, 0, 1]] false) .ret))))
set_option maxRecDepth 1000000 in
theorem v24 (fu : Nat) : evF fu (d24 fu) rs24 33 (e24 fu).ash (e24 fu).osh (e24 fu).vsh = p24 fu := by kernel_rfl
set_option maxRecDepth 1000000 in
theorem b24 (fu : Nat) : BodyD Tryd.prog 24 33 (d24 fu).erase rs24 := bodyD_mk Tryd.func24 (by kernel_rfl) (by kernel_rfl) (by kernel_rfl) (by kernel_rfl)
theorem g24 (fu : Nat) : (e24 fu).Good Tryd.prog := good_by orders (b24 fu) (l := []) (by kernel_rfl) trivial (by kernel_rfl) (v24 fu)
def rs11 : List RVx := [(.tmp 0)]
/-- gazette/gazettelaw01.lives -/
def p11 (fu : Nat) : Unit → Option ((Unit) × (Bool)) := fun _ =>
Option.bind (p34 fu (((), ()), (300 : Int), ())) fun ⟨⟨⟨a, _⟩, _⟩, _⟩ =>
bif decide (List.length a = List.length a) then
 Option.bind (p35 fu ((a, ()), (⟨#[97, 98]⟩ : ByteArray), ())) fun ⟨⟨⟨c, _⟩, _, _⟩, _⟩ =>
 bif decide (List.length c = List.length c) then
 Option.bind (p27 fu ((c, ()), ())) fun ⟨_, f⟩ =>
 bif decide (List.length f = List.length f) then
 bif ByteArray.toList (strOfNums f) == ByteArray.toList (⟨#[172, 2, 2, 97, 98]⟩ : ByteArray) then
 bif decide (9 = List.length ([(49 : Int), (50 : Int), (51 : Int), (52 : Int), (53 : Int), (54 : Int), (55 : Int), (56 : Int), (57 : Int)]) ∧ 0 < 9) then
 Option.bind (p24 fu ([(49 : Int), (50 : Int), (51 : Int), (52 : Int), (53 : Int), (54 : Int), (55 : Int), (56 : Int), (57 : Int)], ())) fun ⟨_, h⟩ =>
 some ((), (h == (3808858755 : Int)))
 else none
 else
 some ((), false)
 else none
 else none
else none
def e11 (fu : Nat) : Ent := ⟨11, .nil, .nil, (.hole .bool), p11 fu⟩
def d11 (fu : Nat) : DC := (.seq (.region [opD 0 (.mov (.const vB))] [[]] false) (.seq (.region [opD 2 (.build 1 [vS] []), opD 3 (.box 60 1 (tD 2)), mvD 1 3] [[], [0], [1, 0, 1]] false) (.seq (.region [mvD 4 1, oqD 5 (.call 34 [(tD 4), (.const (.int .u64 300))]) (.ent (e34 fu))] [[], [0]] false) (.seq (.region [mvD 6 1, oqD 7 (.call 35 [(tD 6), (.const (.string ⟨#[97, 98]⟩))]) (.ent (e35 fu))] [[], [0]] false) (.seq (.region [mvD 8 1, oqD 9 (.call 27 [(tD 8)]) (.ent (e27 fu)), opD 10 (.b2s (tD 9)), opD 11 (.bin .eql (tD 10) (.const (.string ⟨#[172, 2, 2, 97, 98]⟩))), mvD 12 11, (⟨(some 13), (some (12, true)), (.bslice 5 1 9 [(.int .u8 0)] [(0, (.const (.int .u8 49))), (1, (.const (.int .u8 50))), (2, (.const (.int .u8 51))), (3, (.const (.int .u8 52))), (4, (.const (.int .u8 53))), (5, (.const (.int .u8 54))), (6, (.const (.int .u8 55))), (7, (.const (.int .u8 56))), (8, (.const (.int .u8 57)))])⟩, (.ty (.int .u8))), ogD 14 12 true (.b2b (tD 13)), (⟨(some 15), (some (12, true)), (.call 24 [(tD 14)])⟩, (.ent (e24 fu))), ogD 16 12 true (.bin .eql (tD 15) (.const (.int .u32 3808858755))), opD 17 (.pick (tD 12) (tD 16) (.const vB)), mvD 0 17] [[], [0], [1], [2], [3, 1], [4], [5, 4], [6, 4, 4], [7, 4], [4, 8], [9, 7, 0, 1, 2, 3, 4, 5, 6, 7, 8, 9]] false) .ret)))))
set_option maxRecDepth 1000000 in
theorem v11 (fu : Nat) : evF fu (d11 fu) rs11 18 (e11 fu).ash (e11 fu).osh (e11 fu).vsh = p11 fu := by kernel_rfl
set_option maxRecDepth 1000000 in
theorem b11 (fu : Nat) : BodyD Tryd.prog 11 18 (d11 fu).erase rs11 := bodyD_mk Tryd.func11 (by kernel_rfl) (by kernel_rfl) (by kernel_rfl) (by kernel_rfl)
theorem g11 (fu : Nat) : (e11 fu).Good Tryd.prog := good_by orders (b11 fu) (l := [e34 fu, e35 fu, e27 fu, e24 fu]) (by kernel_rfl) ⟨g34 fu, g35 fu, g27 fu, g24 fu, trivial⟩ (by kernel_rfl) (v11 fu)
def rs52 : List RVx := [(.tmp 2)]
/-- gazette/gazetteref01.Uint -/
def p52 (fu : Nat) : (Int) × (Unit) → Option ((Unit) × (List (Int))) := fun ⟨a, _⟩ =>
loopO (S := ((Int) × ((List (Int)) × (Unit))) × (Unit)) fu (fun ⟨⟨c, f, _⟩, _⟩ =>
 bif decide (c ≥ (128 : Int)) then
 bif decide (List.length f = List.length f) then
 bif decide (List.length f + List.length ([IntKind.wrap .u8 ((IntKind.wrap .u8 (IntKind.wrap .u64 ((BitVec.ofInt (IntKind.bits .u64) c &&& BitVec.ofInt (IntKind.bits .u64) (127 : Int)).toNat : Int))) + (128 : Int))]) ≤ maxLen ∧ (List.length f + List.length ([IntKind.wrap .u8 ((IntKind.wrap .u8 (IntKind.wrap .u64 ((BitVec.ofInt (IntKind.bits .u64) c &&& BitVec.ofInt (IntKind.bits .u64) (127 : Int)).toNat : Int))) + (128 : Int))])) * 1 ≤ 140737488355328) then
 bif decide (List.length (f ++ [IntKind.wrap .u8 ((IntKind.wrap .u8 (IntKind.wrap .u64 ((BitVec.ofInt (IntKind.bits .u64) c &&& BitVec.ofInt (IntKind.bits .u64) (127 : Int)).toNat : Int))) + (128 : Int))]) = List.length (f ++ [IntKind.wrap .u8 ((IntKind.wrap .u8 (IntKind.wrap .u64 ((BitVec.ofInt (IntKind.bits .u64) c &&& BitVec.ofInt (IntKind.bits .u64) (127 : Int)).toNat : Int))) + (128 : Int))])) then
 some (.inl ((Int.fdiv c (2 ^ (min (Int.toNat (7 : Int)) (IntKind.bits .u64))), (f ++ [IntKind.wrap .u8 ((IntKind.wrap .u8 (IntKind.wrap .u64 ((BitVec.ofInt (IntKind.bits .u64) c &&& BitVec.ofInt (IntKind.bits .u64) (127 : Int)).toNat : Int))) + (128 : Int))]), ()), ()))
 else none
 else none
 else none
 else
 inrO (bif decide (List.length f = List.length f) then
 bif decide (List.length f + List.length ([IntKind.wrap .u8 c]) ≤ maxLen ∧ (List.length f + List.length ([IntKind.wrap .u8 c])) * 1 ≤ 140737488355328) then
 bif decide (List.length (f ++ [IntKind.wrap .u8 c]) = List.length (f ++ [IntKind.wrap .u8 c])) then
 some ((), (f ++ [IntKind.wrap .u8 c]))
 else none
 else none
 else none))
 ((a, [], ()), ())
def e52 (fu : Nat) : Ent := ⟨52, (.cons (.hole (.int .u64)) .nil), .nil, (.own .own 5 (.int .u8)), p52 fu⟩
def d52 (_ : Nat) : DC := (.seq (.region [opD 2 (.mov (.const vS))] [[]] false) (.seq (.region [opD 3 (.mov (.const vS))] [[]] false) (.seq (.block 0 (.loop ⟨[0, 3], (.cons (.hole (.int .u64)) (.cons (.own .own 5 (.int .u8)) .nil)), [], .nil, [], []⟩
 (.seq (.seq (.region [mvD 4 0, opD 5 (.bin .geq (tD 4) (.const (.int .u64 128)))] [[], [0]] false) (.cond (.tmp 5) .skip (.exit 0))) (.block 1 (.seq (.region [mvD 6 3, mvD 7 0, opD 8 (.bin .and (tD 7) (.const (.int .u64 127))), opD 9 (.conv .u8 (tD 8)), opD 10 (.bin .add (tD 9) (.const (.int .u8 128))), oqD 11 (.bslice 5 1 1 [(.int .u8 0)] [(0, (tD 10))]) (.ty (.int .u8)), oqD 12 (.app 5 1 [(.int .u8 0)] 1 (tD 6) (tD 11)) (.ty (.int .u8)), mvD 3 12] [[], [], [1], [2], [3], [4], [0, 5], [6, 6, 0, 1, 2, 3, 4, 5, 6]] false) (.region [mvD 13 0, opD 14 (.bin .shr (tD 13) (.const (.int .u64 7))), mvD 0 14] [[], [0], [1, 0, 1]] false)))))) (.seq (.region [mvD 15 3, mvD 16 0, opD 17 (.conv .u8 (tD 16)), oqD 18 (.bslice 5 1 1 [(.int .u8 0)] [(0, (tD 17))]) (.ty (.int .u8)), oqD 19 (.app 5 1 [(.int .u8 0)] 1 (tD 15) (tD 18)) (.ty (.int .u8)), mvD 2 19] [[], [], [1], [2], [0, 3], [4, 4, 0, 1, 2, 3, 4]] false) .ret))))
set_option maxRecDepth 1000000 in
theorem v52 (fu : Nat) : evF fu (d52 fu) rs52 20 (e52 fu).ash (e52 fu).osh (e52 fu).vsh = p52 fu := by kernel_rfl
set_option maxRecDepth 1000000 in
theorem b52 (fu : Nat) : BodyD Tryd.prog 52 20 (d52 fu).erase rs52 := bodyD_mk Tryd.func52 (by kernel_rfl) (by kernel_rfl) (by kernel_rfl) (by kernel_rfl)
theorem g52 (fu : Nat) : (e52 fu).Good Tryd.prog := good_by orders (b52 fu) (l := []) (by kernel_rfl) trivial (by kernel_rfl) (v52 fu)
def rs53 : List RVx := [(.tmp 2)]
/-- gazette/gazetteref01.Int -/
def p53 (fu : Nat) : (Int) × (Unit) → Option ((Unit) × (List (Int))) := fun ⟨a, _⟩ =>
bif decide (a < (0 : Int)) then
 Option.bind (p52 fu (IntKind.wrap .u64 ((IntKind.wrap .u64 ((2 : Int) * (IntKind.wrap .u64 (IntKind.wrap .i64 (0 - (IntKind.wrap .i64 (a + (1 : Int)))))))) + (1 : Int)), ())) fun ⟨_, c⟩ =>
 bif decide (List.length c = List.length c) then
 some ((), c)
 else none
else
 Option.bind (p52 fu (IntKind.wrap .u64 ((2 : Int) * (IntKind.wrap .u64 a)), ())) fun ⟨_, f⟩ =>
 bif decide (List.length f = List.length f) then
 some ((), f)
 else none
def e53 (fu : Nat) : Ent := ⟨53, (.cons (.hole (.int .i64)) .nil), .nil, (.own .own 5 (.int .u8)), p53 fu⟩
def d53 (fu : Nat) : DC := (.seq (.region [opD 2 (.mov (.const vS))] [[]] false) (.seq (.seq (.region [mvD 3 0, opD 4 (.bin .lss (tD 3) (cD 0))] [[], [0]] false) (.cond (.tmp 4) (.seq (.region [mvD 5 0, opD 6 (.bin .add (tD 5) (cD 1)), opD 7 (.pure .neg [(tD 6)]), opD 8 (.conv .u64 (tD 7)), opD 9 (.bin .mul (.const (.int .u64 2)) (tD 8)), opD 10 (.bin .add (tD 9) (.const (.int .u64 1))), oqD 11 (.call 52 [(tD 10)]) (.ent (e52 fu)), mvD 2 11] [[], [0], [1], [2], [3], [4], [5], [6, 6, 0, 1, 2, 3, 4, 5, 6]] false) .ret) .skip)) (.seq (.region [mvD 12 0, opD 13 (.conv .u64 (tD 12)), opD 14 (.bin .mul (.const (.int .u64 2)) (tD 13)), oqD 15 (.call 52 [(tD 14)]) (.ent (e52 fu)), mvD 2 15] [[], [0], [1], [2], [3, 3, 0, 1, 2, 3]] false) .ret)))
set_option maxRecDepth 1000000 in
theorem v53 (fu : Nat) : evF fu (d53 fu) rs53 16 (e53 fu).ash (e53 fu).osh (e53 fu).vsh = p53 fu := by kernel_rfl
set_option maxRecDepth 1000000 in
theorem b53 (fu : Nat) : BodyD Tryd.prog 53 16 (d53 fu).erase rs53 := bodyD_mk Tryd.func53 (by kernel_rfl) (by kernel_rfl) (by kernel_rfl) (by kernel_rfl)
theorem g53 (fu : Nat) : (e53 fu).Good Tryd.prog := good_by orders (b53 fu) (l := [e52 fu, e52 fu]) (by kernel_rfl) ⟨g52 fu, g52 fu, trivial⟩ (by kernel_rfl) (v53 fu)
def rs55 : List RVx := [(.tmp 2)]
/-- gazette/gazetteref01.Bool -/
def p55 (_ : Nat) : (Bool) × (Unit) → Option ((Unit) × (List (Int))) := fun ⟨a, _⟩ =>
bif a then
 some ((), [(1 : Int)])
else
 some ((), [(0 : Int)])
def e55 (fu : Nat) : Ent := ⟨55, (.cons (.hole .bool) .nil), .nil, (.own .own 5 (.int .u8)), p55 fu⟩
def d55 (_ : Nat) : DC := (.seq (.region [opD 2 (.mov (.const vS))] [[]] false) (.seq (.seq (.region [mvD 3 0] [[]] false) (.cond (.tmp 3) (.seq (.region [oqD 4 (.bslice 5 1 1 [(.int .u8 0)] [(0, (.const (.int .u8 1)))]) (.ty (.int .u8)), mvD 2 4] [[], [0, 0]] false) .ret) .skip)) (.seq (.region [oqD 5 (.bslice 5 1 1 [(.int .u8 0)] [(0, (.const (.int .u8 0)))]) (.ty (.int .u8)), mvD 2 5] [[], [0, 0]] false) .ret)))
set_option maxRecDepth 1000000 in
theorem v55 (fu : Nat) : evF fu (d55 fu) rs55 6 (e55 fu).ash (e55 fu).osh (e55 fu).vsh = p55 fu := by kernel_rfl
set_option maxRecDepth 1000000 in
theorem b55 (fu : Nat) : BodyD Tryd.prog 55 6 (d55 fu).erase rs55 := bodyD_mk Tryd.func55 (by kernel_rfl) (by kernel_rfl) (by kernel_rfl) (by kernel_rfl)
theorem g55 (fu : Nat) : (e55 fu).Good Tryd.prog := good_by orders (b55 fu) (l := []) (by kernel_rfl) trivial (by kernel_rfl) (v55 fu)
def rs56 : List RVx := [(.tmp 2)]
/-- gazette/gazetteref01.Text -/
def p56 (fu : Nat) : (List (Int)) × (Unit) → Option ((Unit) × (List (Int))) := fun ⟨a, _⟩ =>
Option.bind (p52 fu (IntKind.wrap .u64 (List.length a : Int), ())) fun ⟨_, c⟩ =>
bif decide (List.length c = List.length c) then
 bif decide (List.length c + List.length a ≤ maxLen ∧ (List.length c + List.length a) * 1 ≤ 140737488355328) then
 bif decide (List.length (c ++ a) = List.length (c ++ a)) then
 some ((), (c ++ a))
 else none
 else none
else none
def e56 (fu : Nat) : Ent := ⟨56, (.cons (.hole (.sl (.int .u8))) .nil), .nil, (.own .own 5 (.int .u8)), p56 fu⟩
def d56 (fu : Nat) : DC := (.seq (.region [opD 2 (.mov (.const vS))] [[]] false) (.seq (.region [mvD 3 0, opD 4 (.len false (tD 3)), opD 5 (.conv .u64 (tD 4)), oqD 6 (.call 52 [(tD 5)]) (.ent (e52 fu)), mvD 7 0, oqD 8 (.app 5 1 [(.int .u8 0)] 1 (tD 6) (tD 7)) (.ty (.int .u8)), mvD 2 8] [[], [0], [1], [2], [], [3, 4, 3], [5, 5, 0, 1, 2, 3, 4, 5]] false) .ret))
set_option maxRecDepth 1000000 in
theorem v56 (fu : Nat) : evF fu (d56 fu) rs56 9 (e56 fu).ash (e56 fu).osh (e56 fu).vsh = p56 fu := by kernel_rfl
set_option maxRecDepth 1000000 in
theorem b56 (fu : Nat) : BodyD Tryd.prog 56 9 (d56 fu).erase rs56 := bodyD_mk Tryd.func56 (by kernel_rfl) (by kernel_rfl) (by kernel_rfl) (by kernel_rfl)
theorem g56 (fu : Nat) : (e56 fu).Good Tryd.prog := good_by orders (b56 fu) (l := [e52 fu]) (by kernel_rfl) ⟨g52 fu, trivial⟩ (by kernel_rfl) (v56 fu)
def rs37 : List RVx := []
/-- (*gazette/codec.Writer).Int -/
def p37_1 (fu : Nat) : ((List (Int)) × (Unit)) × ((Int) × (Unit)) → Option ((((List (Int)) × (Unit)) × ((Unit) × (Unit))) × (Unit)) := fun ⟨⟨a, _⟩, c, _⟩ =>
bif decide (List.length a = List.length a) then
 Option.bind (p34_1 fu ((a, ()), IntKind.wrap .u64 ((BitVec.ofInt (IntKind.bits .u64) (IntKind.wrap .u64 ((IntKind.wrap .u64 c) * 2 ^ (min (Int.toNat (1 : Int)) (IntKind.bits .u64)))) ^^^ BitVec.ofInt (IntKind.bits .u64) (IntKind.wrap .u64 (Int.fdiv c (2 ^ (min (Int.toNat (63 : Int)) (IntKind.bits .i64)))))).toNat : Int), ())) fun ⟨⟨⟨f, _⟩, _, _⟩, _⟩ =>
 bif decide (List.length f = List.length f) then
 some (((f, ()), (), ()), ())
 else none
else none
def e37_1 (fu : Nat) : Ent := ⟨37, (.cons (.box 60 1 (.cons (.own .own 5 (.int .u8)) .nil)) (.cons (.hole (.int .i64)) .nil)), (.cons (.agg 1 (.cons (.own .own 5 (.int .u8)) .nil)) (.cons .dead .nil)), (.tup 0 .nil), p37_1 fu⟩
def d37_1 (fu : Nat) : DC := (.region [mvD 4 0, mvD 5 1, opD 6 (.conv .u64 (tD 5)), opD 7 (.bin .shl (tD 6) (.const (.int .u64 1))), mvD 8 1, opD 9 (.bin .shr (tD 8) (.const (.int .u64 63))), opD 10 (.conv .u64 (tD 9)), opD 11 (.bin .xor (tD 7) (tD 10)), oqD 12 (.call 34 [(tD 4), (tD 11)]) (.ent (e34_1 fu))] [[], [], [1], [2], [], [4], [5], [3, 6], [0, 7]] false)
set_option maxRecDepth 1000000 in
theorem v37_1 (fu : Nat) : evF fu (d37_1 fu) rs37 13 (e37_1 fu).ash (e37_1 fu).osh (e37_1 fu).vsh = p37_1 fu := by kernel_rfl
set_option maxRecDepth 1000000 in
theorem b37_1 (fu : Nat) : BodyD Tryd.prog 37 13 (d37_1 fu).erase rs37 := bodyD_mk Tryd.func37 (by kernel_rfl) (by kernel_rfl) (by kernel_rfl) (by kernel_rfl)
theorem g37_1 (fu : Nat) : (e37_1 fu).Good Tryd.prog := good_by orders (b37_1 fu) (l := [e34_1 fu]) (by kernel_rfl) ⟨g34_1 fu, trivial⟩ (by kernel_rfl) (v37_1 fu)
def rs92 : List RVx := []
/-- (*gazette/codec.Writer).nodes -/
def p92_1 (fu : Nat) : ((List (Int)) × (Unit)) × ((List (Int)) × (Unit)) → Option ((((List (Int)) × (Unit)) × ((Unit) × (Unit))) × (Unit)) := fun ⟨⟨a, _⟩, c, _⟩ =>
bif decide (List.length a = List.length a) then
 Option.bind (p34_1 fu ((a, ()), IntKind.wrap .u64 (List.length c : Int), ())) fun ⟨⟨⟨f, _⟩, _, _⟩, _⟩ =>
 bif decide (List.length f = List.length f) then
 loopO (S := ((Int) × (Unit)) × (((List (Int)) × (Unit)) × (Unit))) fu (fun ⟨⟨h, _⟩, ⟨⟨i, _⟩, _⟩⟩ =>
 bif decide (h < (List.length c : Int)) then
 bif decide ((0 : Int) ≤ h ∧ h < (List.length c : Int)) then
 bif decide (Int.toNat h < List.length c) then
 bif decide (List.length i = List.length i) then
 Option.bind (p37_1 fu ((i, ()), (List.getD c (Int.toNat h) (dflt (.int .i64))), ())) fun ⟨⟨⟨j, _⟩, _, _⟩, _⟩ =>
 bif decide (List.length j = List.length j) then
 some (.inl ((IntKind.wrap .i64 (h + (1 : Int)), ()), ((j, ()), ())))
 else none
 else none
 else none
 else none
 else
 inrO (bif decide (List.length i = List.length i) then
 some (((i, ()), (), ()), ())
 else none))
 (((0 : Int), ()), ((f, ()), ()))
 else none
else none
def e92_1 (fu : Nat) : Ent := ⟨92, (.cons (.box 60 1 (.cons (.own .own 5 (.int .u8)) .nil)) (.cons (.hole (.sl (.int .i64))) .nil)), (.cons (.agg 1 (.cons (.own .own 5 (.int .u8)) .nil)) (.cons .dead .nil)), (.tup 0 .nil), p92_1 fu⟩
def d92_1 (fu : Nat) : DC := (.seq (.region [mvD 6 0, mvD 7 1, opD 8 (.len false (tD 7)), opD 9 (.conv .u64 (tD 8)), oqD 10 (.call 34 [(tD 6), (tD 9)]) (.ent (e34_1 fu))] [[], [], [1], [2], [0, 3]] false) (.seq (.region [mvD 11 1, opD 12 (.len false (tD 11)), opD 13 (.mov (cD 0))] [[], [0], []] false) (.block 0 (.loop ⟨[13], (.cons (.hole (.int .i64)) .nil), [(0, 60, 1)], (.cons (.agg 1 (.cons (.own .own 5 (.int .u8)) .nil)) .nil), [0, 11, 12], [1]⟩
 (.seq (.region [opD 14 (.bin .lss (tD 13) (tD 12))] [[]] false) (.seq (.cond (.tmp 14) .skip (.exit 0)) (.seq (.block 1 (.seq (.region [opD 15 (.iaddr 1 (tD 11) (tD 13)), opD 16 (.load false 1 (tD 15)), mvD 5 16] [[], [0], [1, 0, 1]] false) (.region [mvD 17 0, mvD 18 5, oqD 19 (.call 37 [(tD 17), (tD 18)]) (.ent (e37_1 fu))] [[], [], [0, 1]] false))) (.region [opD 20 (.bin .add (tD 13) (cD 1)), mvD 13 20] [[], [0]] false))))))))
set_option maxRecDepth 1000000 in
theorem v92_1 (fu : Nat) : evF fu (d92_1 fu) rs92 21 (e92_1 fu).ash (e92_1 fu).osh (e92_1 fu).vsh = p92_1 fu := by kernel_rfl
set_option maxRecDepth 1000000 in
theorem b92_1 (fu : Nat) : BodyD Tryd.prog 92 21 (d92_1 fu).erase rs92 := bodyD_mk Tryd.func92 (by kernel_rfl) (by kernel_rfl) (by kernel_rfl) (by kernel_rfl)
theorem g92_1 (fu : Nat) : (e92_1 fu).Good Tryd.prog := good_by orders (b92_1 fu) (l := [e34_1 fu, e37_1 fu]) (by kernel_rfl) ⟨g34_1 fu, g37_1 fu, trivial⟩ (by kernel_rfl) (v92_1 fu)
def rs93 : List RVx := [(.tmp 2)]
/-- gazette/gazetteref01.ints -/
def p93 (fu : Nat) : (List (Int)) × (Unit) → Option ((Unit) × (List (Int))) := fun ⟨a, _⟩ =>
Option.bind (p52 fu (IntKind.wrap .u64 (List.length a : Int), ())) fun ⟨_, c⟩ =>
bif decide (List.length c = List.length c) then
 loopO (S := ((List (Int)) × ((Int) × (Unit))) × (Unit)) fu (fun ⟨⟨f, h, _⟩, _⟩ =>
 bif decide (h < (List.length a : Int)) then
 bif decide ((0 : Int) ≤ h ∧ h < (List.length a : Int)) then
 bif decide (Int.toNat h < List.length a) then
 Option.bind (p53 fu ((List.getD a (Int.toNat h) (dflt (.int .i64))), ())) fun ⟨_, i⟩ =>
 bif decide (List.length f = List.length f) then
 bif decide (List.length i = List.length i) then
 bif decide (List.length f + List.length i ≤ maxLen ∧ (List.length f + List.length i) * 1 ≤ 140737488355328) then
 bif decide (List.length (f ++ i) = List.length (f ++ i)) then
 some (.inl (((f ++ i), IntKind.wrap .i64 (h + (1 : Int)), ()), ()))
 else none
 else none
 else none
 else none
 else none
 else none
 else
 inrO (bif decide (List.length f = List.length f) then
 some ((), f)
 else none))
 ((c, (0 : Int), ()), ())
else none
def e93 (fu : Nat) : Ent := ⟨93, (.cons (.hole (.sl (.int .i64))) .nil), .nil, (.own .own 5 (.int .u8)), p93 fu⟩
def d93 (fu : Nat) : DC := (.seq (.region [opD 2 (.mov (.const vS))] [[]] false) (.seq (.region [mvD 5 0, opD 6 (.len false (tD 5)), opD 7 (.conv .u64 (tD 6)), oqD 8 (.call 52 [(tD 7)]) (.ent (e52 fu)), mvD 3 8] [[], [0], [1], [2], [3, 3, 0, 1, 2, 3]] false) (.seq (.seq (.region [opD 4 (.mov (cD 0))] [[]] false) (.block 0 (.loop ⟨[3, 4], (.cons (.own .own 5 (.int .u8)) (.cons (.hole (.int .i64)) .nil)), [], .nil, [0], []⟩
 (.seq (.seq (.region [mvD 9 4, mvD 10 0, opD 11 (.len false (tD 10)), opD 12 (.bin .lss (tD 9) (tD 11))] [[], [], [1], [0, 2]] false) (.cond (.tmp 12) .skip (.exit 0))) (.seq (.block 1 (.region [mvD 15 3, mvD 16 0, mvD 17 4, opD 18 (.iaddr 1 (tD 16) (tD 17)), opD 19 (.load false 1 (tD 18)), oqD 20 (.call 53 [(tD 19)]) (.ent (e53 fu)), oqD 21 (.app 5 1 [(.int .u8 0)] 1 (tD 15) (tD 20)) (.ty (.int .u8)), mvD 3 21] [[], [], [], [1, 2], [3], [4], [0, 5, 5], [6, 6, 0, 1, 2, 3, 4, 5, 6]] false)) (.region [mvD 13 4, opD 14 (.bin .add (tD 13) (cD 1)), mvD 4 14] [[], [0], [1, 0, 1]] false)))))) (.seq (.region [mvD 22 3, mvD 2 22] [[], [0, 0]] false) .ret))))
set_option maxRecDepth 1000000 in
theorem v93 (fu : Nat) : evF fu (d93 fu) rs93 23 (e93 fu).ash (e93 fu).osh (e93 fu).vsh = p93 fu := by kernel_rfl
set_option maxRecDepth 1000000 in
theorem b93 (fu : Nat) : BodyD Tryd.prog 93 23 (d93 fu).erase rs93 := bodyD_mk Tryd.func93 (by kernel_rfl) (by kernel_rfl) (by kernel_rfl) (by kernel_rfl)
theorem g93 (fu : Nat) : (e93 fu).Good Tryd.prog := good_by orders (b93 fu) (l := [e52 fu, e53 fu]) (by kernel_rfl) ⟨g52 fu, g53 fu, trivial⟩ (by kernel_rfl) (v93 fu)
def rs58 : List RVx := [(.tmp 2)]
/-- gazette/gazetteref01.Conf -/
def p58 (fu : Nat) : ((List (Int)) × ((List (Int)) × (Unit))) × (Unit) → Option ((Unit) × (List (Int))) := fun ⟨⟨a, c, _⟩, _⟩ =>
Option.bind (p93 fu (a, ())) fun ⟨_, f⟩ =>
Option.bind (p93 fu (c, ())) fun ⟨_, h⟩ =>
bif decide (List.length f = List.length f) then
 bif decide (List.length h = List.length h) then
 bif decide (List.length f + List.length h ≤ maxLen ∧ (List.length f + List.length h) * 1 ≤ 140737488355328) then
 bif decide (List.length (f ++ h) = List.length (f ++ h)) then
 some ((), (f ++ h))
 else none
 else none
 else none
else none
def e58 (fu : Nat) : Ent := ⟨58, (.cons (.agg 2 (.cons (.hole (.sl (.int .i64))) (.cons (.hole (.sl (.int .i64))) .nil))) .nil), .nil, (.own .own 5 (.int .u8)), p58 fu⟩
def d58 (fu : Nat) : DC := (.seq (.region [opD 1 (.box 31 2 (tD 0)), opD 2 (.mov (.const vS))] [[], []] false) (.seq (.region [opD 3 (.faddr 0 (tD 1)), opD 4 (.load false 1 (tD 3)), oqD 5 (.call 93 [(tD 4)]) (.ent (e93 fu)), opD 6 (.faddr 1 (tD 1)), opD 7 (.load false 1 (tD 6)), oqD 8 (.call 93 [(tD 7)]) (.ent (e93 fu)), oqD 9 (.app 5 1 [(.int .u8 0)] 1 (tD 5) (tD 8)) (.ty (.int .u8)), mvD 2 9] [[], [0], [1], [], [3], [4, 2], [2, 5, 5], [6, 6, 0, 1, 2, 3, 4, 5, 6]] true) .ret))
set_option maxRecDepth 1000000 in
theorem v58 (fu : Nat) : evF fu (d58 fu) rs58 10 (e58 fu).ash (e58 fu).osh (e58 fu).vsh = p58 fu := by kernel_rfl
set_option maxRecDepth 1000000 in
theorem b58 (fu : Nat) : BodyD Tryd.prog 58 10 (d58 fu).erase rs58 := bodyD_mk Tryd.func58 (by kernel_rfl) (by kernel_rfl) (by kernel_rfl) (by kernel_rfl)
theorem g58 (fu : Nat) : (e58 fu).Good Tryd.prog := good_by orders (b58 fu) (l := [e93 fu, e93 fu]) (by kernel_rfl) ⟨g93 fu, g93 fu, trivial⟩ (by kernel_rfl) (v58 fu)
def rs36 : List RVx := []
/-- (*gazette/codec.Writer).Bytes -/
def p36_1 (fu : Nat) : ((List (Int)) × (Unit)) × ((List (Int)) × (Unit)) → Option ((((List (Int)) × (Unit)) × ((Unit) × (Unit))) × (Unit)) := fun ⟨⟨a, _⟩, c, _⟩ =>
bif decide (List.length a = List.length a) then
 Option.bind (p34_1 fu ((a, ()), IntKind.wrap .u64 (List.length c : Int), ())) fun ⟨⟨⟨f, _⟩, _, _⟩, _⟩ =>
 bif decide (List.length f = List.length f) then
 bif decide (List.length f + List.length c ≤ maxLen ∧ (List.length f + List.length c) * 1 ≤ 140737488355328) then
 bif decide (List.length (f ++ c) = List.length (f ++ c)) then
 some ((((f ++ c), ()), (), ()), ())
 else none
 else none
 else none
else none
def e36_1 (fu : Nat) : Ent := ⟨36, (.cons (.box 60 1 (.cons (.own .own 5 (.int .u8)) .nil)) (.cons (.hole (.sl (.int .u8))) .nil)), (.cons (.agg 1 (.cons (.own .own 5 (.int .u8)) .nil)) (.cons .dead .nil)), (.tup 0 .nil), p36_1 fu⟩
def d36_1 (fu : Nat) : DC := (.seq (.region [mvD 4 0, mvD 5 1, opD 6 (.len false (tD 5)), opD 7 (.conv .u64 (tD 6)), oqD 8 (.call 34 [(tD 4), (tD 7)]) (.ent (e34_1 fu))] [[], [], [1], [2], [0, 3]] false) (.region [mvD 9 0, mvD 10 0, opD 11 (.pure .nilc [(tD 10)]), opD 12 (.faddr 0 (tD 11)), opD 13 (.load false 1 (tD 12)), mvD 14 1, oqD 15 (.app 5 1 [(.int .u8 0)] 1 (tD 13) (tD 14)) (.ty (.int .u8)), opD 16 (.pure .nilc [(tD 9)]), opD 17 (.faddr 0 (tD 16)), onD (.store 1 (tD 17) (tD 15))] [[], [], [1], [2], [3], [], [4, 5], [0, 0, 1, 2, 3, 4, 5, 6], [7, 0, 1, 2, 3, 4, 5, 6], [8, 6, 6, 0, 1, 2, 3, 4, 5, 6]] false))
set_option maxRecDepth 1000000 in
theorem v36_1 (fu : Nat) : evF fu (d36_1 fu) rs36 18 (e36_1 fu).ash (e36_1 fu).osh (e36_1 fu).vsh = p36_1 fu := by kernel_rfl
set_option maxRecDepth 1000000 in
theorem b36_1 (fu : Nat) : BodyD Tryd.prog 36 18 (d36_1 fu).erase rs36 := bodyD_mk Tryd.func36 (by kernel_rfl) (by kernel_rfl) (by kernel_rfl) (by kernel_rfl)
theorem g36_1 (fu : Nat) : (e36_1 fu).Good Tryd.prog := good_by orders (b36_1 fu) (l := [e34_1 fu]) (by kernel_rfl) ⟨g34_1 fu, trivial⟩ (by kernel_rfl) (v36_1 fu)
def rs57 : List RVx := []
/-- (*gazette/codec.Writer).Conf -/
def p57_1 (fu : Nat) : ((List (Int)) × (Unit)) × (((List (Int)) × ((List (Int)) × (Unit))) × (Unit)) → Option ((((List (Int)) × (Unit)) × ((Unit) × (Unit))) × (Unit)) := fun ⟨⟨a, _⟩, ⟨c, f, _⟩, _⟩ =>
bif decide (List.length a = List.length a) then
 Option.bind (p92_1 fu ((a, ()), c, ())) fun ⟨⟨⟨h, _⟩, _, _⟩, _⟩ =>
 bif decide (List.length h = List.length h) then
 Option.bind (p92_1 fu ((h, ()), f, ())) fun ⟨⟨⟨i, _⟩, _, _⟩, _⟩ =>
 bif decide (List.length i = List.length i) then
 some (((i, ()), (), ()), ())
 else none
 else none
else none
def e57_1 (fu : Nat) : Ent := ⟨57, (.cons (.box 60 1 (.cons (.own .own 5 (.int .u8)) .nil)) (.cons (.agg 2 (.cons (.hole (.sl (.int .i64))) (.cons (.hole (.sl (.int .i64))) .nil))) .nil)), (.cons (.agg 1 (.cons (.own .own 5 (.int .u8)) .nil)) (.cons .dead .nil)), (.tup 0 .nil), p57_1 fu⟩
def d57_1 (fu : Nat) : DC := (.seq (.region [opD 3 (.box 31 2 (tD 1))] [[]] false) (.seq (.region [mvD 4 0, opD 5 (.faddr 0 (tD 3)), opD 6 (.load false 1 (tD 5)), oqD 7 (.call 92 [(tD 4), (tD 6)]) (.ent (e92_1 fu))] [[], [], [1], [0, 2]] false) (.region [mvD 8 0, opD 9 (.faddr 1 (tD 3)), opD 10 (.load false 1 (tD 9)), oqD 11 (.call 92 [(tD 8), (tD 10)]) (.ent (e92_1 fu))] [[], [], [1], [0, 2]] false)))
set_option maxRecDepth 1000000 in
theorem v57_1 (fu : Nat) : evF fu (d57_1 fu) rs57 12 (e57_1 fu).ash (e57_1 fu).osh (e57_1 fu).vsh = p57_1 fu := by kernel_rfl
set_option maxRecDepth 1000000 in
theorem b57_1 (fu : Nat) : BodyD Tryd.prog 57 12 (d57_1 fu).erase rs57 := bodyD_mk Tryd.func57 (by kernel_rfl) (by kernel_rfl) (by kernel_rfl) (by kernel_rfl)
theorem g57_1 (fu : Nat) : (e57_1 fu).Good Tryd.prog := good_by orders (b57_1 fu) (l := [e92_1 fu, e92_1 fu]) (by kernel_rfl) ⟨g92_1 fu, g92_1 fu, trivial⟩ (by kernel_rfl) (v57_1 fu)
def rs59 : List RVx := [(.tmp 2)]
/-- gazette/gazetteref01.Entry -/
def p59 (fu : Nat) : (Z0) × (Unit) → Option ((Unit) × (List (Int))) := fun ⟨⟨a, c, f, h, i, j, _⟩, _⟩ =>
Option.bind (p52 fu (a, ())) fun ⟨_, k⟩ =>
Option.bind (p52 fu (c, ())) fun ⟨_, l⟩ =>
bif decide (List.length k = List.length k) then
 bif decide (List.length l = List.length l) then
 bif decide (List.length k + List.length l ≤ maxLen ∧ (List.length k + List.length l) * 1 ≤ 140737488355328) then
 Option.bind (p53 fu (f, ())) fun ⟨_, m⟩ =>
 bif decide (List.length (k ++ l) = List.length (k ++ l)) then
 bif decide (List.length m = List.length m) then
 bif decide (List.length (k ++ l) + List.length m ≤ maxLen ∧ (List.length (k ++ l) + List.length m) * 1 ≤ 140737488355328) then
 Option.bind (p56 fu (h, ())) fun ⟨_, n⟩ =>
 bif decide (List.length ((k ++ l) ++ m) = List.length ((k ++ l) ++ m)) then
 bif decide (List.length n = List.length n) then
 bif decide (List.length ((k ++ l) ++ m) + List.length n ≤ maxLen ∧ (List.length ((k ++ l) ++ m) + List.length n) * 1 ≤ 140737488355328) then
 Option.bind (p58 fu ((i, j, ()), ())) fun ⟨_, o⟩ =>
 bif decide (List.length (((k ++ l) ++ m) ++ n) = List.length (((k ++ l) ++ m) ++ n)) then
 bif decide (List.length o = List.length o) then
 bif decide (List.length (((k ++ l) ++ m) ++ n) + List.length o ≤ maxLen ∧ (List.length (((k ++ l) ++ m) ++ n) + List.length o) * 1 ≤ 140737488355328) then
 bif decide (List.length ((((k ++ l) ++ m) ++ n) ++ o) = List.length ((((k ++ l) ++ m) ++ n) ++ o)) then
 some ((), ((((k ++ l) ++ m) ++ n) ++ o))
 else none
 else none
 else none
 else none
 else none
 else none
 else none
 else none
 else none
 else none
 else none
 else none
else none
def e59 (fu : Nat) : Ent := ⟨59, (.cons Y1 .nil), .nil, (.own .own 5 (.int .u8)), p59 fu⟩
def d59 (fu : Nat) : DC := (.seq (.region [opD 1 (.box 33 6 (tD 0)), opD 2 (.mov (.const vS))] [[], []] false) (.seq (.region [opD 4 (.faddr 0 (tD 1)), opD 5 (.load false 1 (tD 4)), oqD 6 (.call 52 [(tD 5)]) (.ent (e52 fu)), opD 7 (.faddr 1 (tD 1)), opD 8 (.load false 1 (tD 7)), oqD 9 (.call 52 [(tD 8)]) (.ent (e52 fu)), oqD 10 (.app 5 1 [(.int .u8 0)] 1 (tD 6) (tD 9)) (.ty (.int .u8)), mvD 3 10] [[], [0], [1], [], [3], [4, 2], [2, 5, 5], [6, 6, 0, 1, 2, 3, 4, 5, 6]] true) (.seq (.region [mvD 11 3, opD 12 (.faddr 2 (tD 1)), opD 13 (.load false 1 (tD 12)), oqD 14 (.call 53 [(tD 13)]) (.ent (e53 fu)), oqD 15 (.app 5 1 [(.int .u8 0)] 1 (tD 11) (tD 14)) (.ty (.int .u8)), mvD 3 15] [[], [], [1], [2], [0, 3, 3], [4, 4, 0, 1, 2, 3, 4]] false) (.seq (.region [mvD 16 3, opD 17 (.faddr 3 (tD 1)), opD 18 (.load false 1 (tD 17)), oqD 19 (.call 56 [(tD 18)]) (.ent (e56 fu)), oqD 20 (.app 5 1 [(.int .u8 0)] 1 (tD 16) (tD 19)) (.ty (.int .u8)), mvD 3 20] [[], [], [1], [2], [0, 3, 3], [4, 4, 0, 1, 2, 3, 4]] false) (.seq (.region [mvD 21 3, opD 22 (.faddr 4 (tD 1)), opD 23 (.load true 2 (tD 22)), oqD 24 (.call 58 [(tD 23)]) (.ent (e58 fu)), oqD 25 (.app 5 1 [(.int .u8 0)] 1 (tD 21) (tD 24)) (.ty (.int .u8)), mvD 2 25] [[], [], [1], [2], [0, 3, 3], [4, 4, 0, 1, 2, 3, 4]] false) .ret)))))
set_option maxRecDepth 1000000 in
theorem v59 (fu : Nat) : evF fu (d59 fu) rs59 26 (e59 fu).ash (e59 fu).osh (e59 fu).vsh = p59 fu := by kernel_rfl
set_option maxRecDepth 1000000 in
theorem b59 (fu : Nat) : BodyD Tryd.prog 59 26 (d59 fu).erase rs59 := bodyD_mk Tryd.func59 (by kernel_rfl) (by kernel_rfl) (by kernel_rfl) (by kernel_rfl)
theorem g59 (fu : Nat) : (e59 fu).Good Tryd.prog := good_by orders (b59 fu) (l := [e52 fu, e52 fu, e53 fu, e56 fu, e58 fu]) (by kernel_rfl) ⟨g52 fu, g52 fu, g53 fu, g56 fu, g58 fu, trivial⟩ (by kernel_rfl) (v59 fu)
def rs60 : List RVx := [(.tmp 2)]
/-- gazette/gazetteref01.Snap -/
def p60 (fu : Nat) : ((Int) × ((Int) × ((List (Int)) × ((List (Int)) × ((List (Int)) × (Unit)))))) × (Unit) → Option ((Unit) × (List (Int))) := fun ⟨⟨a, c, f, h, i, _⟩, _⟩ =>
Option.bind (p52 fu (a, ())) fun ⟨_, j⟩ =>
Option.bind (p52 fu (c, ())) fun ⟨_, k⟩ =>
bif decide (List.length j = List.length j) then
 bif decide (List.length k = List.length k) then
 bif decide (List.length j + List.length k ≤ maxLen ∧ (List.length j + List.length k) * 1 ≤ 140737488355328) then
 Option.bind (p58 fu ((f, h, ()), ())) fun ⟨_, l⟩ =>
 bif decide (List.length (j ++ k) = List.length (j ++ k)) then
 bif decide (List.length l = List.length l) then
 bif decide (List.length (j ++ k) + List.length l ≤ maxLen ∧ (List.length (j ++ k) + List.length l) * 1 ≤ 140737488355328) then
 Option.bind (p56 fu (i, ())) fun ⟨_, m⟩ =>
 bif decide (List.length ((j ++ k) ++ l) = List.length ((j ++ k) ++ l)) then
 bif decide (List.length m = List.length m) then
 bif decide (List.length ((j ++ k) ++ l) + List.length m ≤ maxLen ∧ (List.length ((j ++ k) ++ l) + List.length m) * 1 ≤ 140737488355328) then
 bif decide (List.length (((j ++ k) ++ l) ++ m) = List.length (((j ++ k) ++ l) ++ m)) then
 some ((), (((j ++ k) ++ l) ++ m))
 else none
 else none
 else none
 else none
 else none
 else none
 else none
 else none
 else none
else none
def e60 (fu : Nat) : Ent := ⟨60, (.cons Y2 .nil), .nil, (.own .own 5 (.int .u8)), p60 fu⟩
def d60 (fu : Nat) : DC := (.seq (.region [opD 1 (.box 37 5 (tD 0)), opD 2 (.mov (.const vS))] [[], []] false) (.seq (.region [opD 4 (.faddr 0 (tD 1)), opD 5 (.load false 1 (tD 4)), oqD 6 (.call 52 [(tD 5)]) (.ent (e52 fu)), opD 7 (.faddr 1 (tD 1)), opD 8 (.load false 1 (tD 7)), oqD 9 (.call 52 [(tD 8)]) (.ent (e52 fu)), oqD 10 (.app 5 1 [(.int .u8 0)] 1 (tD 6) (tD 9)) (.ty (.int .u8)), mvD 3 10] [[], [0], [1], [], [3], [4, 2], [2, 5, 5], [6, 6, 0, 1, 2, 3, 4, 5, 6]] true) (.seq (.region [mvD 11 3, opD 12 (.faddr 2 (tD 1)), opD 13 (.load true 2 (tD 12)), oqD 14 (.call 58 [(tD 13)]) (.ent (e58 fu)), oqD 15 (.app 5 1 [(.int .u8 0)] 1 (tD 11) (tD 14)) (.ty (.int .u8)), mvD 3 15] [[], [], [1], [2], [0, 3, 3], [4, 4, 0, 1, 2, 3, 4]] false) (.seq (.region [mvD 16 3, opD 17 (.faddr 4 (tD 1)), opD 18 (.load false 1 (tD 17)), oqD 19 (.call 56 [(tD 18)]) (.ent (e56 fu)), oqD 20 (.app 5 1 [(.int .u8 0)] 1 (tD 16) (tD 19)) (.ty (.int .u8)), mvD 2 20] [[], [], [1], [2], [0, 3, 3], [4, 4, 0, 1, 2, 3, 4]] false) .ret))))
set_option maxRecDepth 1000000 in
theorem v60 (fu : Nat) : evF fu (d60 fu) rs60 21 (e60 fu).ash (e60 fu).osh (e60 fu).vsh = p60 fu := by kernel_rfl
set_option maxRecDepth 1000000 in
theorem b60 (fu : Nat) : BodyD Tryd.prog 60 21 (d60 fu).erase rs60 := bodyD_mk Tryd.func60 (by kernel_rfl) (by kernel_rfl) (by kernel_rfl) (by kernel_rfl)
theorem g60 (fu : Nat) : (e60 fu).Good Tryd.prog := good_by orders (b60 fu) (l := [e52 fu, e52 fu, e58 fu, e56 fu]) (by kernel_rfl) ⟨g52 fu, g52 fu, g58 fu, g56 fu, trivial⟩ (by kernel_rfl) (v60 fu)
def rs62 : List RVx := [(.tmp 2)]
/-- gazette/gazetteref01.Range -/
def p62 (fu : Nat) : ((ByteArray) × ((ByteArray) × (Unit))) × (Unit) → Option ((Unit) × (List (Int))) := fun ⟨⟨a, c, _⟩, _⟩ =>
Option.bind (p56 fu (numsOf a, ())) fun ⟨_, f⟩ =>
Option.bind (p56 fu (numsOf c, ())) fun ⟨_, h⟩ =>
bif decide (List.length f = List.length f) then
 bif decide (List.length h = List.length h) then
 bif decide (List.length f + List.length h ≤ maxLen ∧ (List.length f + List.length h) * 1 ≤ 140737488355328) then
 bif decide (List.length (f ++ h) = List.length (f ++ h)) then
 some ((), (f ++ h))
 else none
 else none
 else none
else none
def e62 (fu : Nat) : Ent := ⟨62, (.cons (.agg 2 (.cons (.hole .str) (.cons (.hole .str) .nil))) .nil), .nil, (.own .own 5 (.int .u8)), p62 fu⟩
def d62 (fu : Nat) : DC := (.seq (.region [opD 1 (.box 63 2 (tD 0)), opD 2 (.mov (.const vS))] [[], []] false) (.seq (.region [opD 3 (.faddr 0 (tD 1)), opD 4 (.load false 1 (tD 3)), opD 5 (.s2b 5 (tD 4)), oqD 6 (.call 56 [(tD 5)]) (.ent (e56 fu)), opD 7 (.faddr 1 (tD 1)), opD 8 (.load false 1 (tD 7)), opD 9 (.s2b 5 (tD 8)), oqD 10 (.call 56 [(tD 9)]) (.ent (e56 fu)), oqD 11 (.app 5 1 [(.int .u8 0)] 1 (tD 6) (tD 10)) (.ty (.int .u8)), mvD 2 11] [[], [0], [1], [2], [], [4], [5], [6, 3], [3, 7, 7], [8, 8, 0, 1, 2, 3, 4, 5, 6, 7, 8]] true) .ret))
set_option maxRecDepth 1000000 in
theorem v62 (fu : Nat) : evF fu (d62 fu) rs62 12 (e62 fu).ash (e62 fu).osh (e62 fu).vsh = p62 fu := by kernel_rfl
set_option maxRecDepth 1000000 in
theorem b62 (fu : Nat) : BodyD Tryd.prog 62 12 (d62 fu).erase rs62 := bodyD_mk Tryd.func62 (by kernel_rfl) (by kernel_rfl) (by kernel_rfl) (by kernel_rfl)
theorem g62 (fu : Nat) : (e62 fu).Good Tryd.prog := good_by orders (b62 fu) (l := [e56 fu, e56 fu]) (by kernel_rfl) ⟨g56 fu, g56 fu, trivial⟩ (by kernel_rfl) (v62 fu)
def rs64 : List RVx := [(.tmp 2)]
/-- gazette/gazetteref01.Record -/
def p64 (fu : Nat) : ((Int) × ((ByteArray) × ((List (Int)) × ((Int) × ((Int) × (Unit)))))) × (Unit) → Option ((Unit) × (List (Int))) := fun ⟨⟨a, c, f, h, i, _⟩, _⟩ =>
Option.bind (p52 fu (a, ())) fun ⟨_, j⟩ =>
Option.bind (p56 fu (numsOf c, ())) fun ⟨_, k⟩ =>
bif decide (List.length j = List.length j) then
 bif decide (List.length k = List.length k) then
 bif decide (List.length j + List.length k ≤ maxLen ∧ (List.length j + List.length k) * 1 ≤ 140737488355328) then
 Option.bind (p56 fu (f, ())) fun ⟨_, l⟩ =>
 bif decide (List.length (j ++ k) = List.length (j ++ k)) then
 bif decide (List.length l = List.length l) then
 bif decide (List.length (j ++ k) + List.length l ≤ maxLen ∧ (List.length (j ++ k) + List.length l) * 1 ≤ 140737488355328) then
 Option.bind (p52 fu (h, ())) fun ⟨_, m⟩ =>
 bif decide (List.length ((j ++ k) ++ l) = List.length ((j ++ k) ++ l)) then
 bif decide (List.length m = List.length m) then
 bif decide (List.length ((j ++ k) ++ l) + List.length m ≤ maxLen ∧ (List.length ((j ++ k) ++ l) + List.length m) * 1 ≤ 140737488355328) then
 Option.bind (p52 fu (i, ())) fun ⟨_, n⟩ =>
 bif decide (List.length (((j ++ k) ++ l) ++ m) = List.length (((j ++ k) ++ l) ++ m)) then
 bif decide (List.length n = List.length n) then
 bif decide (List.length (((j ++ k) ++ l) ++ m) + List.length n ≤ maxLen ∧ (List.length (((j ++ k) ++ l) ++ m) + List.length n) * 1 ≤ 140737488355328) then
 bif decide (List.length ((((j ++ k) ++ l) ++ m) ++ n) = List.length ((((j ++ k) ++ l) ++ m) ++ n)) then
 some ((), ((((j ++ k) ++ l) ++ m) ++ n))
 else none
 else none
 else none
 else none
 else none
 else none
 else none
 else none
 else none
 else none
 else none
 else none
else none
def e64 (fu : Nat) : Ent := ⟨64, (.cons Y3 .nil), .nil, (.own .own 5 (.int .u8)), p64 fu⟩
def d64 (fu : Nat) : DC := (.seq (.region [opD 1 (.box 65 5 (tD 0)), opD 2 (.mov (.const vS))] [[], []] false) (.seq (.region [opD 4 (.faddr 0 (tD 1)), opD 5 (.load false 1 (tD 4)), oqD 6 (.call 52 [(tD 5)]) (.ent (e52 fu)), opD 7 (.faddr 1 (tD 1)), opD 8 (.load false 1 (tD 7)), opD 9 (.s2b 5 (tD 8)), oqD 10 (.call 56 [(tD 9)]) (.ent (e56 fu)), oqD 11 (.app 5 1 [(.int .u8 0)] 1 (tD 6) (tD 10)) (.ty (.int .u8)), mvD 3 11] [[], [0], [1], [], [3], [4], [5, 2], [2, 6, 6], [7, 7, 0, 1, 2, 3, 4, 5, 6, 7]] true) (.seq (.region [mvD 12 3, opD 13 (.faddr 2 (tD 1)), opD 14 (.load false 1 (tD 13)), oqD 15 (.call 56 [(tD 14)]) (.ent (e56 fu)), oqD 16 (.app 5 1 [(.int .u8 0)] 1 (tD 12) (tD 15)) (.ty (.int .u8)), mvD 3 16] [[], [], [1], [2], [0, 3, 3], [4, 4, 0, 1, 2, 3, 4]] false) (.seq (.region [mvD 17 3, opD 18 (.faddr 3 (tD 1)), opD 19 (.load false 1 (tD 18)), oqD 20 (.call 52 [(tD 19)]) (.ent (e52 fu)), oqD 21 (.app 5 1 [(.int .u8 0)] 1 (tD 17) (tD 20)) (.ty (.int .u8)), mvD 3 21] [[], [], [1], [2], [0, 3, 3], [4, 4, 0, 1, 2, 3, 4]] false) (.seq (.region [mvD 22 3, opD 23 (.faddr 4 (tD 1)), opD 24 (.load false 1 (tD 23)), oqD 25 (.call 52 [(tD 24)]) (.ent (e52 fu)), oqD 26 (.app 5 1 [(.int .u8 0)] 1 (tD 22) (tD 25)) (.ty (.int .u8)), mvD 2 26] [[], [], [1], [2], [0, 3, 3], [4, 4, 0, 1, 2, 3, 4]] false) .ret)))))
set_option maxRecDepth 1000000 in
theorem v64 (fu : Nat) : evF fu (d64 fu) rs64 27 (e64 fu).ash (e64 fu).osh (e64 fu).vsh = p64 fu := by kernel_rfl
set_option maxRecDepth 1000000 in
theorem b64 (fu : Nat) : BodyD Tryd.prog 64 27 (d64 fu).erase rs64 := bodyD_mk Tryd.func64 (by kernel_rfl) (by kernel_rfl) (by kernel_rfl) (by kernel_rfl)
theorem g64 (fu : Nat) : (e64 fu).Good Tryd.prog := good_by orders (b64 fu) (l := [e52 fu, e56 fu, e56 fu, e52 fu, e52 fu]) (by kernel_rfl) ⟨g52 fu, g56 fu, g56 fu, g52 fu, g52 fu, trivial⟩ (by kernel_rfl) (v64 fu)
def rs54 : List RVx := []
/-- (*gazette/codec.Writer).Bool -/
def p54_1 (_ : Nat) : ((List (Int)) × (Unit)) × ((Bool) × (Unit)) → Option ((((List (Int)) × (Unit)) × ((Unit) × (Unit))) × (Unit)) := fun ⟨⟨a, _⟩, c, _⟩ =>
bif c then
 bif decide (List.length a = List.length a) then
 bif decide (List.length a + List.length ([(1 : Int)]) ≤ maxLen ∧ (List.length a + List.length ([(1 : Int)])) * 1 ≤ 140737488355328) then
 bif decide (List.length (a ++ [(1 : Int)]) = List.length (a ++ [(1 : Int)])) then
 some ((((a ++ [(1 : Int)]), ()), (), ()), ())
 else none
 else none
 else none
else
 bif decide (List.length a = List.length a) then
 bif decide (List.length a + List.length ([(0 : Int)]) ≤ maxLen ∧ (List.length a + List.length ([(0 : Int)])) * 1 ≤ 140737488355328) then
 bif decide (List.length (a ++ [(0 : Int)]) = List.length (a ++ [(0 : Int)])) then
 some ((((a ++ [(0 : Int)]), ()), (), ()), ())
 else none
 else none
 else none
def e54_1 (fu : Nat) : Ent := ⟨54, (.cons (.box 60 1 (.cons (.own .own 5 (.int .u8)) .nil)) (.cons (.hole .bool) .nil)), (.cons (.agg 1 (.cons (.own .own 5 (.int .u8)) .nil)) (.cons .dead .nil)), (.tup 0 .nil), p54_1 fu⟩
def d54_1 (_ : Nat) : DC := (.seq (.region [mvD 4 1] [[]] false) (.cond (.tmp 4) (.region [mvD 5 0, mvD 6 0, opD 7 (.pure .nilc [(tD 6)]), opD 8 (.faddr 0 (tD 7)), opD 9 (.load false 1 (tD 8)), oqD 10 (.bslice 5 1 1 [(.int .u8 0)] [(0, (.const (.int .u8 1)))]) (.ty (.int .u8)), oqD 11 (.app 5 1 [(.int .u8 0)] 1 (tD 9) (tD 10)) (.ty (.int .u8)), opD 12 (.pure .nilc [(tD 5)]), opD 13 (.faddr 0 (tD 12)), onD (.store 1 (tD 13) (tD 11))] [[], [], [1], [2], [3], [], [4, 5], [0, 0, 1, 2, 3, 4, 5, 6], [7, 0, 1, 2, 3, 4, 5, 6], [8, 6, 6, 0, 1, 2, 3, 4, 5, 6]] false) (.region [mvD 14 0, mvD 15 0, opD 16 (.pure .nilc [(tD 15)]), opD 17 (.faddr 0 (tD 16)), opD 18 (.load false 1 (tD 17)), oqD 19 (.bslice 5 1 1 [(.int .u8 0)] [(0, (.const (.int .u8 0)))]) (.ty (.int .u8)), oqD 20 (.app 5 1 [(.int .u8 0)] 1 (tD 18) (tD 19)) (.ty (.int .u8)), opD 21 (.pure .nilc [(tD 14)]), opD 22 (.faddr 0 (tD 21)), onD (.store 1 (tD 22) (tD 20))] [[], [], [1], [2], [3], [], [4, 5], [0, 0, 1, 2, 3, 4, 5, 6], [7, 0, 1, 2, 3, 4, 5, 6], [8, 6, 6, 0, 1, 2, 3, 4, 5, 6]] false)))
set_option maxRecDepth 1000000 in
theorem v54_1 (fu : Nat) : evF fu (d54_1 fu) rs54 23 (e54_1 fu).ash (e54_1 fu).osh (e54_1 fu).vsh = p54_1 fu := by kernel_rfl
set_option maxRecDepth 1000000 in
theorem b54_1 (fu : Nat) : BodyD Tryd.prog 54 23 (d54_1 fu).erase rs54 := bodyD_mk Tryd.func54 (by kernel_rfl) (by kernel_rfl) (by kernel_rfl) (by kernel_rfl)
theorem g54_1 (fu : Nat) : (e54_1 fu).Good Tryd.prog := good_by orders (b54_1 fu) (l := []) (by kernel_rfl) trivial (by kernel_rfl) (v54_1 fu)
def rs38 : List RVx := []
/-- (*gazette/codec.Writer).Entry -/
def p38_1 (fu : Nat) : ((List (Int)) × (Unit)) × ((Z0) × (Unit)) → Option ((((List (Int)) × (Unit)) × ((Unit) × (Unit))) × (Unit)) := fun ⟨⟨a, _⟩, ⟨c, f, h, i, j, k, _⟩, _⟩ =>
bif decide (List.length a = List.length a) then
 Option.bind (p34_1 fu ((a, ()), c, ())) fun ⟨⟨⟨l, _⟩, _, _⟩, _⟩ =>
 bif decide (List.length l = List.length l) then
 Option.bind (p34_1 fu ((l, ()), f, ())) fun ⟨⟨⟨m, _⟩, _, _⟩, _⟩ =>
 bif decide (List.length m = List.length m) then
 Option.bind (p37_1 fu ((m, ()), h, ())) fun ⟨⟨⟨n, _⟩, _, _⟩, _⟩ =>
 bif decide (List.length n = List.length n) then
 Option.bind (p36_1 fu ((n, ()), i, ())) fun ⟨⟨⟨o, _⟩, _, _⟩, _⟩ =>
 bif decide (List.length o = List.length o) then
 Option.bind (p57_1 fu ((o, ()), (j, k, ()), ())) fun ⟨⟨⟨q, _⟩, _, _⟩, _⟩ =>
 bif decide (List.length q = List.length q) then
 some (((q, ()), (), ()), ())
 else none
 else none
 else none
 else none
 else none
else none
def e38_1 (fu : Nat) : Ent := ⟨38, (.cons (.box 60 1 (.cons (.own .own 5 (.int .u8)) .nil)) (.cons Y1 .nil)), (.cons (.agg 1 (.cons (.own .own 5 (.int .u8)) .nil)) (.cons .dead .nil)), (.tup 0 .nil), p38_1 fu⟩
def d38_1 (fu : Nat) : DC := (.seq (.region [opD 3 (.box 33 6 (tD 1))] [[]] false) (.seq (.region [mvD 4 0, opD 5 (.faddr 0 (tD 3)), opD 6 (.load false 1 (tD 5)), oqD 7 (.call 34 [(tD 4), (tD 6)]) (.ent (e34_1 fu))] [[], [], [1], [0, 2]] false) (.seq (.region [mvD 8 0, opD 9 (.faddr 1 (tD 3)), opD 10 (.load false 1 (tD 9)), oqD 11 (.call 34 [(tD 8), (tD 10)]) (.ent (e34_1 fu))] [[], [], [1], [0, 2]] false) (.seq (.region [mvD 12 0, opD 13 (.faddr 2 (tD 3)), opD 14 (.load false 1 (tD 13)), oqD 15 (.call 37 [(tD 12), (tD 14)]) (.ent (e37_1 fu))] [[], [], [1], [0, 2]] false) (.seq (.region [mvD 16 0, opD 17 (.faddr 3 (tD 3)), opD 18 (.load false 1 (tD 17)), oqD 19 (.call 36 [(tD 16), (tD 18)]) (.ent (e36_1 fu))] [[], [], [1], [0, 2]] false) (.region [mvD 20 0, opD 21 (.faddr 4 (tD 3)), opD 22 (.load true 2 (tD 21)), oqD 23 (.call 57 [(tD 20), (tD 22)]) (.ent (e57_1 fu))] [[], [], [1], [0, 2]] false))))))
set_option maxRecDepth 1000000 in
theorem v38_1 (fu : Nat) : evF fu (d38_1 fu) rs38 24 (e38_1 fu).ash (e38_1 fu).osh (e38_1 fu).vsh = p38_1 fu := by kernel_rfl
set_option maxRecDepth 1000000 in
theorem b38_1 (fu : Nat) : BodyD Tryd.prog 38 24 (d38_1 fu).erase rs38 := bodyD_mk Tryd.func38 (by kernel_rfl) (by kernel_rfl) (by kernel_rfl) (by kernel_rfl)
theorem g38_1 (fu : Nat) : (e38_1 fu).Good Tryd.prog := good_by orders (b38_1 fu) (l := [e34_1 fu, e34_1 fu, e37_1 fu, e36_1 fu, e57_1 fu]) (by kernel_rfl) ⟨g34_1 fu, g34_1 fu, g37_1 fu, g36_1 fu, g57_1 fu, trivial⟩ (by kernel_rfl) (v38_1 fu)
def rs39 : List RVx := []
/-- (*gazette/codec.Writer).Snap -/
def p39_1 (fu : Nat) : ((List (Int)) × (Unit)) × (((Int) × ((Int) × ((List (Int)) × ((List (Int)) × ((List (Int)) × (Unit)))))) × (Unit)) → Option ((((List (Int)) × (Unit)) × ((Unit) × (Unit))) × (Unit)) := fun ⟨⟨a, _⟩, ⟨c, f, h, i, j, _⟩, _⟩ =>
bif decide (List.length a = List.length a) then
 Option.bind (p34_1 fu ((a, ()), c, ())) fun ⟨⟨⟨k, _⟩, _, _⟩, _⟩ =>
 bif decide (List.length k = List.length k) then
 Option.bind (p34_1 fu ((k, ()), f, ())) fun ⟨⟨⟨l, _⟩, _, _⟩, _⟩ =>
 bif decide (List.length l = List.length l) then
 Option.bind (p57_1 fu ((l, ()), (h, i, ()), ())) fun ⟨⟨⟨m, _⟩, _, _⟩, _⟩ =>
 bif decide (List.length m = List.length m) then
 Option.bind (p36_1 fu ((m, ()), j, ())) fun ⟨⟨⟨n, _⟩, _, _⟩, _⟩ =>
 bif decide (List.length n = List.length n) then
 some (((n, ()), (), ()), ())
 else none
 else none
 else none
 else none
else none
def e39_1 (fu : Nat) : Ent := ⟨39, (.cons (.box 60 1 (.cons (.own .own 5 (.int .u8)) .nil)) (.cons Y2 .nil)), (.cons (.agg 1 (.cons (.own .own 5 (.int .u8)) .nil)) (.cons .dead .nil)), (.tup 0 .nil), p39_1 fu⟩
def d39_1 (fu : Nat) : DC := (.seq (.region [opD 3 (.box 37 5 (tD 1))] [[]] false) (.seq (.region [mvD 4 0, opD 5 (.faddr 0 (tD 3)), opD 6 (.load false 1 (tD 5)), oqD 7 (.call 34 [(tD 4), (tD 6)]) (.ent (e34_1 fu))] [[], [], [1], [0, 2]] false) (.seq (.region [mvD 8 0, opD 9 (.faddr 1 (tD 3)), opD 10 (.load false 1 (tD 9)), oqD 11 (.call 34 [(tD 8), (tD 10)]) (.ent (e34_1 fu))] [[], [], [1], [0, 2]] false) (.seq (.region [mvD 12 0, opD 13 (.faddr 2 (tD 3)), opD 14 (.load true 2 (tD 13)), oqD 15 (.call 57 [(tD 12), (tD 14)]) (.ent (e57_1 fu))] [[], [], [1], [0, 2]] false) (.region [mvD 16 0, opD 17 (.faddr 4 (tD 3)), opD 18 (.load false 1 (tD 17)), oqD 19 (.call 36 [(tD 16), (tD 18)]) (.ent (e36_1 fu))] [[], [], [1], [0, 2]] false)))))
set_option maxRecDepth 1000000 in
theorem v39_1 (fu : Nat) : evF fu (d39_1 fu) rs39 20 (e39_1 fu).ash (e39_1 fu).osh (e39_1 fu).vsh = p39_1 fu := by kernel_rfl
set_option maxRecDepth 1000000 in
theorem b39_1 (fu : Nat) : BodyD Tryd.prog 39 20 (d39_1 fu).erase rs39 := bodyD_mk Tryd.func39 (by kernel_rfl) (by kernel_rfl) (by kernel_rfl) (by kernel_rfl)
theorem g39_1 (fu : Nat) : (e39_1 fu).Good Tryd.prog := good_by orders (b39_1 fu) (l := [e34_1 fu, e34_1 fu, e57_1 fu, e36_1 fu]) (by kernel_rfl) ⟨g34_1 fu, g34_1 fu, g57_1 fu, g36_1 fu, trivial⟩ (by kernel_rfl) (v39_1 fu)
def rs61 : List RVx := []
/-- (*gazette/codec.Writer).Range -/
def p61_1 (fu : Nat) : ((List (Int)) × (Unit)) × (((ByteArray) × ((ByteArray) × (Unit))) × (Unit)) → Option ((((List (Int)) × (Unit)) × ((Unit) × (Unit))) × (Unit)) := fun ⟨⟨a, _⟩, ⟨c, f, _⟩, _⟩ =>
bif decide (List.length a = List.length a) then
 Option.bind (p35 fu ((a, ()), c, ())) fun ⟨⟨⟨h, _⟩, _, _⟩, _⟩ =>
 bif decide (List.length h = List.length h) then
 Option.bind (p35 fu ((h, ()), f, ())) fun ⟨⟨⟨i, _⟩, _, _⟩, _⟩ =>
 bif decide (List.length i = List.length i) then
 some (((i, ()), (), ()), ())
 else none
 else none
else none
def e61_1 (fu : Nat) : Ent := ⟨61, (.cons (.box 60 1 (.cons (.own .own 5 (.int .u8)) .nil)) (.cons (.agg 2 (.cons (.hole .str) (.cons (.hole .str) .nil))) .nil)), (.cons (.agg 1 (.cons (.own .own 5 (.int .u8)) .nil)) (.cons .dead .nil)), (.tup 0 .nil), p61_1 fu⟩
def d61_1 (fu : Nat) : DC := (.seq (.region [opD 3 (.box 63 2 (tD 1))] [[]] false) (.seq (.region [mvD 4 0, opD 5 (.faddr 0 (tD 3)), opD 6 (.load false 1 (tD 5)), oqD 7 (.call 35 [(tD 4), (tD 6)]) (.ent (e35 fu))] [[], [], [1], [0, 2]] false) (.region [mvD 8 0, opD 9 (.faddr 1 (tD 3)), opD 10 (.load false 1 (tD 9)), oqD 11 (.call 35 [(tD 8), (tD 10)]) (.ent (e35 fu))] [[], [], [1], [0, 2]] false)))
set_option maxRecDepth 1000000 in
theorem v61_1 (fu : Nat) : evF fu (d61_1 fu) rs61 12 (e61_1 fu).ash (e61_1 fu).osh (e61_1 fu).vsh = p61_1 fu := by kernel_rfl
set_option maxRecDepth 1000000 in
theorem b61_1 (fu : Nat) : BodyD Tryd.prog 61 12 (d61_1 fu).erase rs61 := bodyD_mk Tryd.func61 (by kernel_rfl) (by kernel_rfl) (by kernel_rfl) (by kernel_rfl)
theorem g61_1 (fu : Nat) : (e61_1 fu).Good Tryd.prog := good_by orders (b61_1 fu) (l := [e35 fu, e35 fu]) (by kernel_rfl) ⟨g35 fu, g35 fu, trivial⟩ (by kernel_rfl) (v61_1 fu)
def rs63 : List RVx := []
/-- (*gazette/codec.Writer).Record -/
def p63_1 (fu : Nat) : ((List (Int)) × (Unit)) × (((Int) × ((ByteArray) × ((List (Int)) × ((Int) × ((Int) × (Unit)))))) × (Unit)) → Option ((((List (Int)) × (Unit)) × ((Unit) × (Unit))) × (Unit)) := fun ⟨⟨a, _⟩, ⟨c, f, h, i, j, _⟩, _⟩ =>
bif decide (List.length a = List.length a) then
 Option.bind (p34_1 fu ((a, ()), c, ())) fun ⟨⟨⟨k, _⟩, _, _⟩, _⟩ =>
 bif decide (List.length k = List.length k) then
 Option.bind (p35 fu ((k, ()), f, ())) fun ⟨⟨⟨l, _⟩, _, _⟩, _⟩ =>
 bif decide (List.length l = List.length l) then
 Option.bind (p36_1 fu ((l, ()), h, ())) fun ⟨⟨⟨m, _⟩, _, _⟩, _⟩ =>
 bif decide (List.length m = List.length m) then
 Option.bind (p34_1 fu ((m, ()), i, ())) fun ⟨⟨⟨n, _⟩, _, _⟩, _⟩ =>
 bif decide (List.length n = List.length n) then
 Option.bind (p34_1 fu ((n, ()), j, ())) fun ⟨⟨⟨o, _⟩, _, _⟩, _⟩ =>
 bif decide (List.length o = List.length o) then
 some (((o, ()), (), ()), ())
 else none
 else none
 else none
 else none
 else none
else none
def e63_1 (fu : Nat) : Ent := ⟨63, (.cons (.box 60 1 (.cons (.own .own 5 (.int .u8)) .nil)) (.cons Y3 .nil)), (.cons (.agg 1 (.cons (.own .own 5 (.int .u8)) .nil)) (.cons .dead .nil)), (.tup 0 .nil), p63_1 fu⟩
def d63_1 (fu : Nat) : DC := (.seq (.region [opD 3 (.box 65 5 (tD 1))] [[]] false) (.seq (.region [mvD 4 0, opD 5 (.faddr 0 (tD 3)), opD 6 (.load false 1 (tD 5)), oqD 7 (.call 34 [(tD 4), (tD 6)]) (.ent (e34_1 fu))] [[], [], [1], [0, 2]] false) (.seq (.region [mvD 8 0, opD 9 (.faddr 1 (tD 3)), opD 10 (.load false 1 (tD 9)), oqD 11 (.call 35 [(tD 8), (tD 10)]) (.ent (e35 fu))] [[], [], [1], [0, 2]] false) (.seq (.region [mvD 12 0, opD 13 (.faddr 2 (tD 3)), opD 14 (.load false 1 (tD 13)), oqD 15 (.call 36 [(tD 12), (tD 14)]) (.ent (e36_1 fu))] [[], [], [1], [0, 2]] false) (.seq (.region [mvD 16 0, opD 17 (.faddr 3 (tD 3)), opD 18 (.load false 1 (tD 17)), oqD 19 (.call 34 [(tD 16), (tD 18)]) (.ent (e34_1 fu))] [[], [], [1], [0, 2]] false) (.region [mvD 20 0, opD 21 (.faddr 4 (tD 3)), opD 22 (.load false 1 (tD 21)), oqD 23 (.call 34 [(tD 20), (tD 22)]) (.ent (e34_1 fu))] [[], [], [1], [0, 2]] false))))))
set_option maxRecDepth 1000000 in
theorem v63_1 (fu : Nat) : evF fu (d63_1 fu) rs63 24 (e63_1 fu).ash (e63_1 fu).osh (e63_1 fu).vsh = p63_1 fu := by kernel_rfl
set_option maxRecDepth 1000000 in
theorem b63_1 (fu : Nat) : BodyD Tryd.prog 63 24 (d63_1 fu).erase rs63 := bodyD_mk Tryd.func63 (by kernel_rfl) (by kernel_rfl) (by kernel_rfl) (by kernel_rfl)
theorem g63_1 (fu : Nat) : (e63_1 fu).Good Tryd.prog := good_by orders (b63_1 fu) (l := [e34_1 fu, e35 fu, e36_1 fu, e34_1 fu, e34_1 fu]) (by kernel_rfl) ⟨g34_1 fu, g35 fu, g36_1 fu, g34_1 fu, g34_1 fu, trivial⟩ (by kernel_rfl) (v63_1 fu)
def rs26 : List RVx := [(.tmp 4)]
/-- gazette/gazettelaw01.writes -/
def p26_1 (fu : Nat) : ((List (Int)) × (Unit)) × ((Z4) × (Unit)) → Option ((((List (Int)) × (Unit)) × ((Unit) × (Unit))) × (List (Int))) := fun ⟨⟨a, _⟩, ⟨c, f, h, i, j, k, l, m, n, o, q, s, t, u, w, x, y, z, a0, c0, f0, h0, i0, j0, k0, _⟩, _⟩ =>
bif (c == (0 : Int)) then
 bif decide (List.length a = List.length a) then
 Option.bind (p34_1 fu ((a, ()), f, ())) fun ⟨⟨⟨l0, _⟩, _, _⟩, _⟩ =>
 Option.bind (p52 fu (f, ())) fun ⟨_, m0⟩ =>
 bif decide (List.length l0 = List.length l0) then
 bif decide (List.length m0 = List.length m0) then
 some (((l0, ()), (), ()), m0)
 else none
 else none
 else none
else
 bif (c == (1 : Int)) then
 bif decide (List.length a = List.length a) then
 Option.bind (p37_1 fu ((a, ()), h, ())) fun ⟨⟨⟨n0, _⟩, _, _⟩, _⟩ =>
 Option.bind (p53 fu (h, ())) fun ⟨_, o0⟩ =>
 bif decide (List.length n0 = List.length n0) then
 bif decide (List.length o0 = List.length o0) then
 some (((n0, ()), (), ()), o0)
 else none
 else none
 else none
 else
 bif (c == (2 : Int)) then
 bif decide (List.length a = List.length a) then
 Option.bind (p54_1 fu ((a, ()), i, ())) fun ⟨⟨⟨q0, _⟩, _, _⟩, _⟩ =>
 Option.bind (p55 fu (i, ())) fun ⟨_, s0⟩ =>
 bif decide (List.length q0 = List.length q0) then
 bif decide (List.length s0 = List.length s0) then
 some (((q0, ()), (), ()), s0)
 else none
 else none
 else none
 else
 bif (c == (3 : Int)) then
 bif decide (List.length a = List.length a) then
 Option.bind (p36_1 fu ((a, ()), j, ())) fun ⟨⟨⟨t0, _⟩, _, _⟩, _⟩ =>
 Option.bind (p56 fu (j, ())) fun ⟨_, u0⟩ =>
 bif decide (List.length t0 = List.length t0) then
 bif decide (List.length u0 = List.length u0) then
 some (((t0, ()), (), ()), u0)
 else none
 else none
 else none
 else
 bif (c == (4 : Int)) then
 bif decide (List.length a = List.length a) then
 Option.bind (p35 fu ((a, ()), strOfNums j, ())) fun ⟨⟨⟨w0, _⟩, _, _⟩, _⟩ =>
 Option.bind (p56 fu (j, ())) fun ⟨_, x0⟩ =>
 bif decide (List.length w0 = List.length w0) then
 bif decide (List.length x0 = List.length x0) then
 some (((w0, ()), (), ()), x0)
 else none
 else none
 else none
 else
 bif (c == (5 : Int)) then
 bif decide (List.length a = List.length a) then
 Option.bind (p57_1 fu ((a, ()), (k, l, ()), ())) fun ⟨⟨⟨y0, _⟩, _, _⟩, _⟩ =>
 Option.bind (p58 fu ((k, l, ()), ())) fun ⟨_, z0⟩ =>
 bif decide (List.length y0 = List.length y0) then
 bif decide (List.length z0 = List.length z0) then
 some (((y0, ()), (), ()), z0)
 else none
 else none
 else none
 else
 bif (c == (6 : Int)) then
 bif decide (List.length a = List.length a) then
 Option.bind (p38_1 fu ((a, ()), (m, n, o, q, s, t, ()), ())) fun ⟨⟨⟨a1, _⟩, _, _⟩, _⟩ =>
 Option.bind (p59 fu ((m, n, o, q, s, t, ()), ())) fun ⟨_, c1⟩ =>
 bif decide (List.length a1 = List.length a1) then
 bif decide (List.length c1 = List.length c1) then
 some (((a1, ()), (), ()), c1)
 else none
 else none
 else none
 else
 bif (c == (7 : Int)) then
 bif decide (List.length a = List.length a) then
 Option.bind (p39_1 fu ((a, ()), (u, w, x, y, z, ()), ())) fun ⟨⟨⟨f1, _⟩, _, _⟩, _⟩ =>
 Option.bind (p60 fu ((u, w, x, y, z, ()), ())) fun ⟨_, h1⟩ =>
 bif decide (List.length f1 = List.length f1) then
 bif decide (List.length h1 = List.length h1) then
 some (((f1, ()), (), ()), h1)
 else none
 else none
 else none
 else
 bif (c == (8 : Int)) then
 bif decide (List.length a = List.length a) then
 Option.bind (p61_1 fu ((a, ()), (a0, c0, ()), ())) fun ⟨⟨⟨i1, _⟩, _, _⟩, _⟩ =>
 Option.bind (p62 fu ((a0, c0, ()), ())) fun ⟨_, j1⟩ =>
 bif decide (List.length i1 = List.length i1) then
 bif decide (List.length j1 = List.length j1) then
 some (((i1, ()), (), ()), j1)
 else none
 else none
 else none
 else
 bif decide (List.length a = List.length a) then
 Option.bind (p63_1 fu ((a, ()), (f0, h0, i0, j0, k0, ()), ())) fun ⟨⟨⟨k1, _⟩, _, _⟩, _⟩ =>
 Option.bind (p64 fu ((f0, h0, i0, j0, k0, ()), ())) fun ⟨_, l1⟩ =>
 bif decide (List.length k1 = List.length k1) then
 bif decide (List.length l1 = List.length l1) then
 some (((k1, ()), (), ()), l1)
 else none
 else none
 else none
def e26_1 (fu : Nat) : Ent := ⟨26, (.cons (.box 60 1 (.cons (.own .own 5 (.int .u8)) .nil)) (.cons Y5 .nil)), (.cons (.agg 1 (.cons (.own .own 5 (.int .u8)) .nil)) (.cons .dead .nil)), (.own .own 5 (.int .u8)), p26_1 fu⟩
def d26_1 (fu : Nat) : DC := (.seq (.region [opD 3 (.box 67 25 (tD 1)), opD 4 (.mov (.const vS))] [[], []] false) (.seq (.seq (.region [opD 5 (.faddr 0 (tD 3)), opD 6 (.load false 1 (tD 5))] [[], [0]] false) (.block 0 (.seq (.region [opD 8 (.bin .eql (tD 6) (cD 0)), mvD 7 8] [[], [0]] false) (.cond (.tmp 7) (.seq (.region [mvD 9 0, opD 10 (.faddr 1 (tD 3)), opD 11 (.load false 1 (tD 10)), oqD 12 (.call 34 [(tD 9), (tD 11)]) (.ent (e34_1 fu))] [[], [], [1], [0, 2]] false) (.seq (.region [opD 13 (.faddr 1 (tD 3)), opD 14 (.load false 1 (tD 13)), oqD 15 (.call 52 [(tD 14)]) (.ent (e52 fu)), mvD 4 15] [[], [0], [1], [2, 2, 0, 1, 2]] false) .ret)) (.seq (.region [opD 17 (.bin .eql (tD 6) (cD 1)), mvD 16 17] [[], [0]] false) (.cond (.tmp 16) (.seq (.region [mvD 18 0, opD 19 (.faddr 2 (tD 3)), opD 20 (.load false 1 (tD 19)), oqD 21 (.call 37 [(tD 18), (tD 20)]) (.ent (e37_1 fu))] [[], [], [1], [0, 2]] false) (.seq (.region [opD 22 (.faddr 2 (tD 3)), opD 23 (.load false 1 (tD 22)), oqD 24 (.call 53 [(tD 23)]) (.ent (e53 fu)), mvD 4 24] [[], [0], [1], [2, 2, 0, 1, 2]] false) .ret)) (.seq (.region [opD 26 (.bin .eql (tD 6) (cD 2)), mvD 25 26] [[], [0]] false) (.cond (.tmp 25) (.seq (.region [mvD 27 0, opD 28 (.faddr 3 (tD 3)), opD 29 (.load false 1 (tD 28)), oqD 30 (.call 54 [(tD 27), (tD 29)]) (.ent (e54_1 fu))] [[], [], [1], [0, 2]] false) (.seq (.region [opD 31 (.faddr 3 (tD 3)), opD 32 (.load false 1 (tD 31)), oqD 33 (.call 55 [(tD 32)]) (.ent (e55 fu)), mvD 4 33] [[], [0], [1], [2, 2, 0, 1, 2]] false) .ret)) (.seq (.region [opD 35 (.bin .eql (tD 6) (cD 3)), mvD 34 35] [[], [0]] false) (.cond (.tmp 34) (.seq (.region [mvD 36 0, opD 37 (.faddr 4 (tD 3)), opD 38 (.load false 1 (tD 37)), oqD 39 (.call 36 [(tD 36), (tD 38)]) (.ent (e36_1 fu))] [[], [], [1], [0, 2]] false) (.seq (.region [opD 40 (.faddr 4 (tD 3)), opD 41 (.load false 1 (tD 40)), oqD 42 (.call 56 [(tD 41)]) (.ent (e56 fu)), mvD 4 42] [[], [0], [1], [2, 2, 0, 1, 2]] false) .ret)) (.seq (.region [opD 44 (.bin .eql (tD 6) (cD 4)), mvD 43 44] [[], [0]] false) (.cond (.tmp 43) (.seq (.region [mvD 45 0, opD 46 (.faddr 4 (tD 3)), opD 47 (.load false 1 (tD 46)), opD 48 (.b2s (tD 47)), oqD 49 (.call 35 [(tD 45), (tD 48)]) (.ent (e35 fu))] [[], [], [1], [2], [0, 3]] false) (.seq (.region [opD 50 (.faddr 4 (tD 3)), opD 51 (.load false 1 (tD 50)), oqD 52 (.call 56 [(tD 51)]) (.ent (e56 fu)), mvD 4 52] [[], [0], [1], [2, 2, 0, 1, 2]] false) .ret)) (.seq (.region [opD 54 (.bin .eql (tD 6) (cD 5)), mvD 53 54] [[], [0]] false) (.cond (.tmp 53) (.seq (.region [mvD 55 0, opD 56 (.faddr 5 (tD 3)), opD 57 (.load true 2 (tD 56)), oqD 58 (.call 57 [(tD 55), (tD 57)]) (.ent (e57_1 fu))] [[], [], [1], [0, 2]] false) (.seq (.region [opD 59 (.faddr 5 (tD 3)), opD 60 (.load true 2 (tD 59)), oqD 61 (.call 58 [(tD 60)]) (.ent (e58 fu)), mvD 4 61] [[], [0], [1], [2, 2, 0, 1, 2]] false) .ret)) (.seq (.region [opD 63 (.bin .eql (tD 6) (cD 6)), mvD 62 63] [[], [0]] false) (.cond (.tmp 62) (.seq (.region [mvD 64 0, opD 65 (.faddr 7 (tD 3)), opD 66 (.load true 6 (tD 65)), oqD 67 (.call 38 [(tD 64), (tD 66)]) (.ent (e38_1 fu))] [[], [], [1], [0, 2]] false) (.seq (.region [opD 68 (.faddr 7 (tD 3)), opD 69 (.load true 6 (tD 68)), oqD 70 (.call 59 [(tD 69)]) (.ent (e59 fu)), mvD 4 70] [[], [0], [1], [2, 2, 0, 1, 2]] false) .ret)) (.seq (.region [opD 72 (.bin .eql (tD 6) (cD 7)), mvD 71 72] [[], [0]] false) (.cond (.tmp 71) (.seq (.region [mvD 73 0, opD 74 (.faddr 13 (tD 3)), opD 75 (.load true 5 (tD 74)), oqD 76 (.call 39 [(tD 73), (tD 75)]) (.ent (e39_1 fu))] [[], [], [1], [0, 2]] false) (.seq (.region [opD 77 (.faddr 13 (tD 3)), opD 78 (.load true 5 (tD 77)), oqD 79 (.call 60 [(tD 78)]) (.ent (e60 fu)), mvD 4 79] [[], [0], [1], [2, 2, 0, 1, 2]] false) .ret)) (.seq (.region [opD 81 (.bin .eql (tD 6) (cD 8)), mvD 80 81] [[], [0]] false) (.cond (.tmp 80) (.seq (.region [mvD 82 0, opD 83 (.faddr 18 (tD 3)), opD 84 (.load true 2 (tD 83)), oqD 85 (.call 61 [(tD 82), (tD 84)]) (.ent (e61_1 fu))] [[], [], [1], [0, 2]] false) (.seq (.region [opD 86 (.faddr 18 (tD 3)), opD 87 (.load true 2 (tD 86)), oqD 88 (.call 62 [(tD 87)]) (.ent (e62 fu)), mvD 4 88] [[], [0], [1], [2, 2, 0, 1, 2]] false) .ret)) .skip)))))))))))))))))))) (.seq (.region [mvD 89 0, opD 90 (.faddr 20 (tD 3)), opD 91 (.load true 5 (tD 90)), oqD 92 (.call 63 [(tD 89), (tD 91)]) (.ent (e63_1 fu))] [[], [], [1], [0, 2]] false) (.seq (.region [opD 93 (.faddr 20 (tD 3)), opD 94 (.load true 5 (tD 93)), oqD 95 (.call 64 [(tD 94)]) (.ent (e64 fu)), mvD 4 95] [[], [0], [1], [2, 2, 0, 1, 2]] false) .ret))))
set_option maxRecDepth 1000000 in
theorem v26_1 (fu : Nat) : evF fu (d26_1 fu) rs26 96 (e26_1 fu).ash (e26_1 fu).osh (e26_1 fu).vsh = p26_1 fu := by kernel_rfl
set_option maxRecDepth 1000000 in
theorem b26_1 (fu : Nat) : BodyD Tryd.prog 26 96 (d26_1 fu).erase rs26 := bodyD_mk Tryd.func26 (by kernel_rfl) (by kernel_rfl) (by kernel_rfl) (by kernel_rfl)
theorem g26_1 (fu : Nat) : (e26_1 fu).Good Tryd.prog := good_by orders (b26_1 fu) (l := [e34_1 fu, e52 fu, e37_1 fu, e53 fu, e54_1 fu, e55 fu, e36_1 fu, e56 fu, e35 fu, e56 fu, e57_1 fu, e58 fu, e38_1 fu, e59 fu, e39_1 fu, e60 fu, e61_1 fu, e62 fu, e63_1 fu, e64 fu]) (by kernel_rfl) ⟨g34_1 fu, g52 fu, g37_1 fu, g53 fu, g54_1 fu, g55 fu, g36_1 fu, g56 fu, g35 fu, g56 fu, g57_1 fu, g58 fu, g38_1 fu, g59 fu, g39_1 fu, g60 fu, g61_1 fu, g62 fu, g63_1 fu, g64 fu, trivial⟩ (by kernel_rfl) (v26_1 fu)
def rs5 : List RVx := [(.tmp 2)]
/-- gazette/gazettelaw01.CodecWrites -/
def p5 (fu : Nat) : (List (D_gazettelaw01_Thing)) × (Unit) → Option ((Unit) × (Bool)) := fun ⟨a, _⟩ =>
Option.bind (p11 fu ()) fun ⟨_, c⟩ =>
loopO (S := ((ByteArray) × ((Int) × (Unit))) × (((List (Int)) × (Unit)) × (Unit))) fu (fun ⟨⟨f, h, _⟩, ⟨⟨i, _⟩, _⟩⟩ =>
 bif decide (h < (List.length a : Int)) then
 bif decide ((0 : Int) ≤ h ∧ h < (List.length a : Int)) then
 bif decide (Int.toNat h < List.length a) then
 bif decide (List.length i = List.length i) then
 Option.bind (p26_1 fu ((i, ()), ((List.getD a (Int.toNat h) (dflt T_gazettelaw01_Thing)).1, ((List.getD a (Int.toNat h) (dflt T_gazettelaw01_Thing)).2).1, (((List.getD a (Int.toNat h) (dflt T_gazettelaw01_Thing)).2).2).1, ((((List.getD a (Int.toNat h) (dflt T_gazettelaw01_Thing)).2).2).2).1, (((((List.getD a (Int.toNat h) (dflt T_gazettelaw01_Thing)).2).2).2).2).1, (((((((List.getD a (Int.toNat h) (dflt T_gazettelaw01_Thing)).2).2).2).2).2).1).1, (((((((List.getD a (Int.toNat h) (dflt T_gazettelaw01_Thing)).2).2).2).2).2).1).2, ((((((((List.getD a (Int.toNat h) (dflt T_gazettelaw01_Thing)).2).2).2).2).2).2).1).1, (((((((((List.getD a (Int.toNat h) (dflt T_gazettelaw01_Thing)).2).2).2).2).2).2).1).2).1, ((((((((((List.getD a (Int.toNat h) (dflt T_gazettelaw01_Thing)).2).2).2).2).2).2).1).2).2).1, (((((((((((List.getD a (Int.toNat h) (dflt T_gazettelaw01_Thing)).2).2).2).2).2).2).1).2).2).2).1, ((((((((((((List.getD a (Int.toNat h) (dflt T_gazettelaw01_Thing)).2).2).2).2).2).2).1).2).2).2).2).1, ((((((((((((List.getD a (Int.toNat h) (dflt T_gazettelaw01_Thing)).2).2).2).2).2).2).1).2).2).2).2).2, (((((((((List.getD a (Int.toNat h) (dflt T_gazettelaw01_Thing)).2).2).2).2).2).2).2).1).1, ((((((((((List.getD a (Int.toNat h) (dflt T_gazettelaw01_Thing)).2).2).2).2).2).2).2).1).2).1, ((((((((((((List.getD a (Int.toNat h) (dflt T_gazettelaw01_Thing)).2).2).2).2).2).2).2).1).2).2).1).1, ((((((((((((List.getD a (Int.toNat h) (dflt T_gazettelaw01_Thing)).2).2).2).2).2).2).2).1).2).2).1).2, (((((((((((List.getD a (Int.toNat h) (dflt T_gazettelaw01_Thing)).2).2).2).2).2).2).2).1).2).2).2, ((((((((((List.getD a (Int.toNat h) (dflt T_gazettelaw01_Thing)).2).2).2).2).2).2).2).2).1).1, ((((((((((List.getD a (Int.toNat h) (dflt T_gazettelaw01_Thing)).2).2).2).2).2).2).2).2).1).2, ((((((((((List.getD a (Int.toNat h) (dflt T_gazettelaw01_Thing)).2).2).2).2).2).2).2).2).2).1, (((((((((((List.getD a (Int.toNat h) (dflt T_gazettelaw01_Thing)).2).2).2).2).2).2).2).2).2).2).1, ((((((((((((List.getD a (Int.toNat h) (dflt T_gazettelaw01_Thing)).2).2).2).2).2).2).2).2).2).2).2).1, (((((((((((((List.getD a (Int.toNat h) (dflt T_gazettelaw01_Thing)).2).2).2).2).2).2).2).2).2).2).2).2).1, (((((((((((((List.getD a (Int.toNat h) (dflt T_gazettelaw01_Thing)).2).2).2).2).2).2).2).2).2).2).2).2).2, ()), ())) fun ⟨⟨⟨j, _⟩, _, _⟩, k⟩ =>
 bif decide (List.length k = List.length k) then
 bif decide (ByteArray.size f + ByteArray.size (strOfNums k) ≤ 9223372036854775807) then
 bif decide (List.length j = List.length j) then
 Option.bind (p27 fu ((j, ()), ())) fun ⟨_, l⟩ =>
 bif decide (List.length l = List.length l) then
 bif !(ByteArray.toList (strOfNums l) == ByteArray.toList (f ++ (strOfNums k))) then
 inrO (some ((), false))
 else
 bif decide (List.length l = List.length l) then
 loopO (S := ((List (Int)) × ((Int) × (Unit))) × (Unit)) fu (fun ⟨⟨m, n, _⟩, _⟩ =>
 bif decide (n < ((List.length m) : Int)) then
 bif decide ((0 : Int) ≤ n ∧ n < (List.length m : Int)) then
 bif decide (Int.toNat n < List.length m) then
 bif decide ((0 : Int) ≤ n ∧ n < (List.length m : Int)) then
 bif decide (Int.toNat n < List.length m) then
 bif decide (List.length m = List.length (List.set m (Int.toNat n) (IntKind.wrap .u8 ((List.getD m (Int.toNat n) (dflt (.int .u8))) + (1 : Int))))) then
 some (.inl (((List.set m (Int.toNat n) (IntKind.wrap .u8 ((List.getD m (Int.toNat n) (dflt (.int .u8))) + (1 : Int)))), IntKind.wrap .i64 (n + (1 : Int)), ()), ()))
 else none
 else none
 else none
 else none
 else none
 else
 inrO (bif decide (List.length j = List.length j) then
 some (.inl ((f ++ (strOfNums k), IntKind.wrap .i64 (h + (1 : Int)), ()), ((j, ()), ())))
 else none))
 ((l, (0 : Int), ()), ())
 else none
 else none
 else none
 else none
 else none
 else none
 else none
 else none
 else
 inrO (bif c then
 bif decide (List.length i = List.length i) then
 Option.bind (p27 fu ((i, ()), ())) fun ⟨_, o⟩ =>
 bif decide (List.length o = List.length o) then
 some ((), ByteArray.toList (strOfNums o) == ByteArray.toList f)
 else none
 else none
 else
 some ((), false)))
 (((⟨#[]⟩ : ByteArray), (0 : Int), ()), (([], ()), ()))
def e5 (fu : Nat) : Ent := ⟨5, (.cons (.hole (.sl T_gazettelaw01_Thing)) .nil), .nil, (.hole .bool), p5 fu⟩
def d5 (fu : Nat) : DC := (.seq (.region [opD 2 (.mov (.const vB))] [[]] false) (.seq (.region [oqD 9 (.call 11 []) (.ent (e11 fu)), mvD 3 9] [[], [0, 0, 0]] false) (.seq (.region [opD 10 (.build 1 [vS] []), opD 11 (.box 60 1 (tD 10)), mvD 4 11] [[], [0], [1, 0, 1]] false) (.seq (.region [opD 5 (.mov (.const vT))] [[]] false) (.seq (.seq (.region [opD 6 (.mov (cD 0))] [[]] false) (.block 0 (.loop ⟨[5, 6], (.cons (.hole .str) (.cons (.hole (.int .i64)) .nil)), [(64, 60, 1)], (.cons (.agg 1 (.cons (.own .own 5 (.int .u8)) .nil)) .nil), [0, 3, 4], []⟩
 (.seq (.seq (.region [mvD 12 6, mvD 13 0, opD 14 (.len false (tD 13)), opD 15 (.bin .lss (tD 12) (tD 14))] [[], [], [1], [0, 2]] false) (.cond (.tmp 15) .skip (.exit 0))) (.seq (.block 1 (.seq (.region [mvD 18 5, mvD 19 4, mvD 20 0, mvD 21 6, opD 22 (.iaddr 25 (tD 20) (tD 21)), opD 23 (.load true 25 (tD 22)), oqD 24 (.call 26 [(tD 19), (tD 23)]) (.ent (e26_1 fu)), opD 25 (.b2s (tD 24)), opD 26 (.bin .add (tD 18) (tD 25)), mvD 5 26] [[], [], [], [], [2, 3], [4], [1, 5], [6], [0, 7], [8, 6, 0, 1, 2, 3, 4, 5, 6, 7, 8]] false) (.seq (.region [mvD 27 4, oqD 28 (.call 27 [(tD 27)]) (.ent (e27 fu)), mvD 7 28] [[], [0], [1, 1, 0, 1]] false) (.seq (.seq (.region [mvD 29 7, opD 30 (.b2s (tD 29)), mvD 31 5, opD 32 (.bin .neq (tD 30) (tD 31))] [[], [0], [], [1, 2]] false) (.cond (.tmp 32) (.seq (.region [opD 2 (.mov (.const vB))] [[]] false) .ret) .skip)) (.seq (.region [opD 8 (.mov (cD 0))] [[]] false) (.block 2 (.loop ⟨[7, 8], (.cons (.own .own 5 (.int .u8)) (.cons (.hole (.int .i64)) .nil)), [], .nil, [0, 3, 4, 5, 6], [64, 289]⟩
 (.seq (.seq (.region [mvD 33 8, mvD 34 7, opD 35 (.len false (tD 34)), opD 36 (.bin .lss (tD 33) (tD 35))] [[], [], [1], [0, 2]] false) (.cond (.tmp 36) .skip (.exit 2))) (.seq (.block 3 (.region [mvD 39 7, mvD 40 8, opD 41 (.iaddr 1 (tD 39) (tD 40)), opD 42 (.load false 1 (tD 41)), opD 43 (.bin .add (tD 42) (.const (.int .u8 1))), opD 44 (.iaddr 1 (tD 39) (tD 40)), onD (.store 1 (tD 44) (tD 43))] [[], [], [0, 1], [2], [3], [0, 1, 0, 1, 2, 3, 4], [5, 4, 0, 1, 2, 3, 4]] false)) (.region [mvD 37 8, opD 38 (.bin .add (tD 37) (cD 1)), mvD 8 38] [[], [0], [1, 0, 1]] false)))))))))) (.region [mvD 16 6, opD 17 (.bin .add (tD 16) (cD 1)), mvD 6 17] [[], [0], [1, 0, 1]] false)))))) (.seq (.region [mvD 45 3, mvD 46 45, ogD 47 46 true (.mov (tD 4)), (⟨(some 48), (some (46, true)), (.call 27 [(tD 47)])⟩, (.ent (e27 fu))), ogD 49 46 true (.b2s (tD 48)), ogD 50 46 true (.mov (tD 5)), ogD 51 46 true (.bin .eql (tD 49) (tD 50)), opD 52 (.pick (tD 46) (tD 51) (.const vB)), mvD 2 52] [[], [0], [1], [2, 1, 1], [3, 1], [1], [4, 5, 1], [1, 6], [7, 3, 0, 1, 2, 3, 4, 5, 6, 7]] false) .ret))))))
set_option maxRecDepth 1000000 in
theorem v5 (fu : Nat) : evF fu (d5 fu) rs5 53 (e5 fu).ash (e5 fu).osh (e5 fu).vsh = p5 fu := by kernel_rfl
set_option maxRecDepth 1000000 in
theorem b5 (fu : Nat) : BodyD Tryd.prog 5 53 (d5 fu).erase rs5 := bodyD_mk Tryd.func5 (by kernel_rfl) (by kernel_rfl) (by kernel_rfl) (by kernel_rfl)
theorem g5 (fu : Nat) : (e5 fu).Good Tryd.prog := good_by orders (b5 fu) (l := [e11 fu, e26_1 fu, e27 fu, e27 fu]) (by kernel_rfl) ⟨g11 fu, g26_1 fu, g27 fu, g27 fu, trivial⟩ (by kernel_rfl) (v5 fu)
end Go.Proofs.YtfhdpeceppafiaaDoor
