/-
  The functions, typed.
-/
import Derived.Test.YtgneanhmjkdkaaaInC
import Derived.Test.YtgneanhmjkdkaaaCpE
import Derived.Test.YtgneanhmjkdkaaaDaL
import Derived.Test.YtgneanhmjkdkaaaRows
namespace Go.Proofs.Ytgneanhmjkdkaaa
open Go.RowKit
abbrev T_runtime_errorAddressString : Tp := (.pair .str (.int .u64))
abbrev D_runtime_errorAddressString := (ByteArray) × (Int)
abbrev T_api_Range : Tp := (.pair .str .str)
abbrev D_api_Range := (ByteArray) × (ByteArray)
abbrev T_keyrange_bound : Tp := (.pair .str .bool)
abbrev D_keyrange_bound := (ByteArray) × (Bool)
abbrev T_runtime_boundsError : Tp := (.pair (.int .i64) (.pair (.int .i64) (.pair .bool (.int .u8))))
abbrev D_runtime_boundsError := (Int) × ((Int) × ((Bool) × (Int)))
abbrev T_api_Record : Tp := (.pair (.int .u64) (.pair .str (.pair (.sl (.int .u8)) (.pair (.int .u64) (.int .u64)))))
abbrev D_api_Record := (Int) × ((ByteArray) × ((List (Int)) × ((Int) × (Int))))
abbrev T_gazettelaw14_Readers : Tp := (.pair (.sl T_runtime_errorAddressString) (.pair (.sl T_runtime_errorAddressString) (.pair T_runtime_errorAddressString (.pair (.int .u64) (.pair (.sl (.int .u64)) (.sl (.int .u64)))))))
abbrev D_gazettelaw14_Readers := (List (D_runtime_errorAddressString)) × ((List (D_runtime_errorAddressString)) × ((D_runtime_errorAddressString) × ((Int) × ((List (Int)) × (List (Int))))))
abbrev T_gazettelaw14_Logs : Tp := (.pair (.sl T_api_Record) (.pair (.int .u16) (.pair T_api_Record (.pair (.int .u64) (.int .i64)))))
abbrev D_gazettelaw14_Logs := (List (D_api_Record)) × ((Int) × ((D_api_Record) × ((Int) × (Int))))
abbrev T_gazettelaw14_Unread : Tp := (.pair (.sl T_api_Record) (.pair (.sl T_api_Record) (.pair T_api_Range (.pair (.int .u16) (.int .u16)))))
abbrev D_gazettelaw14_Unread := (List (D_api_Record)) × ((List (D_api_Record)) × ((D_api_Range) × ((Int) × (Int))))
theorem orders : Try.prog.follows .mixedOrders = true := by kernel_rfl
abbrev Y0 : Sh := (.agg 5 (.cons (.hole (.int .u64)) (.cons (.hole .str) (.cons (.hole (.sl (.int .u8))) (.cons (.hole (.int .u64)) (.cons (.hole (.int .u64)) .nil))))))
abbrev Y1 : Sh := (.agg 5 (.cons (.hole (.int .u64)) (.cons (.hole .str) (.cons (.own .own 5 (.int .u8)) (.cons (.hole (.int .u64)) (.cons (.hole (.int .u64)) .nil))))))
abbrev Z2 : Type := (List (D_runtime_errorAddressString)) × ((List (D_runtime_errorAddressString)) × ((ByteArray) × ((Int) × ((Int) × ((List (Int)) × ((List (Int)) × (Unit)))))))
abbrev Y3 : Sh := (.agg 7 (.cons (.hole (.sl T_runtime_errorAddressString)) (.cons (.hole (.sl T_runtime_errorAddressString)) (.cons (.hole .str) (.cons (.hole (.int .u64)) (.cons (.hole (.int .u64)) (.cons (.hole (.sl (.int .u64))) (.cons (.hole (.sl (.int .u64))) .nil))))))))
def rs56 : List RVx := [(.tmp 2)]
/-- gazette/records.refuses -/
def p56 (_ : Nat) : ((Int) × ((ByteArray) × ((List (Int)) × ((Int) × ((Int) × (Unit)))))) × (Unit) → Option ((Unit) × (Int)) := fun ⟨⟨_, a, c, _, _, _⟩, _⟩ =>
bif decide ((ByteArray.size a : Int) > (32 : Int)) then
 some ((), (131 : Int))
else
 bif decide ((List.length c : Int) > (256 : Int)) then
 some ((), (144 : Int))
 else
 some ((), (0 : Int))
def e56 (fu : Nat) : Ent := ⟨56, (.cons Y0 .nil), .nil, (.hole (.int .i64)), p56 fu⟩
def d56 (_ : Nat) : DC := (.seq (.region [opD 1 (.box 30 5 (tD 0)), opD 2 (.mov (cD 0))] [[], []] false) (.seq (.block 0 (.seq (.region [opD 4 (.faddr 1 (tD 1)), opD 5 (.load false 1 (tD 4)), opD 6 (.len true (tD 5)), opD 7 (.bin .gtr (tD 6) (cD 32)), mvD 3 7] [[], [0], [1], [2], [3]] false) (.cond (.tmp 3) (.seq (.region [opD 2 (.mov (cD 131))] [[]] false) .ret) (.seq (.region [opD 9 (.faddr 2 (tD 1)), opD 10 (.load false 1 (tD 9)), opD 11 (.len false (tD 10)), opD 12 (.bin .gtr (tD 11) (cD 256)), mvD 8 12] [[], [0], [1], [2], [3]] false) (.cond (.tmp 8) (.seq (.region [opD 2 (.mov (cD 144))] [[]] false) .ret) .skip))))) (.seq (.region [opD 2 (.mov (cD 0))] [[]] false) .ret)))
set_option maxRecDepth 1000000 in
theorem v56 (fu : Nat) : evF fu (d56 fu) rs56 13 (e56 fu).ash (e56 fu).osh (e56 fu).vsh = p56 fu := by kernel_rfl
set_option maxRecDepth 1000000 in
theorem b56 (fu : Nat) : BodyD Try.prog 56 13 (d56 fu).erase rs56 := bodyD_mk Try.func56 (by kernel_rfl) (by kernel_rfl) (by kernel_rfl) (by kernel_rfl)
theorem g56 (fu : Nat) : (e56 fu).Good Try.prog := good_by orders (b56 fu) (l := []) (by kernel_rfl) trivial (by kernel_rfl) (v56 fu)
def rs27 : List RVx := [(.tmp 2)]
/-- gazette/records.Log -/
def p27 (fu : Nat) : (List (D_api_Record)) × (Unit) → Option ((Unit) × (Bool)) := fun ⟨a, _⟩ =>
loopO (S := ((Int) × (Unit)) × (Unit)) fu (fun ⟨⟨c, _⟩, _⟩ =>
 bif decide (c < (List.length a : Int)) then
 bif decide ((0 : Int) ≤ c ∧ c < (List.length a : Int)) then
 bif decide (Int.toNat c < List.length a) then
 bif (((List.getD a (Int.toNat c) (dflt T_api_Record)).1) != (IntKind.wrap .u64 c)) then
 inrO (some ((), false))
 else
 Option.bind (p56 fu (((List.getD a (Int.toNat c) (dflt T_api_Record)).1, ((List.getD a (Int.toNat c) (dflt T_api_Record)).2).1, (((List.getD a (Int.toNat c) (dflt T_api_Record)).2).2).1, ((((List.getD a (Int.toNat c) (dflt T_api_Record)).2).2).2).1, ((((List.getD a (Int.toNat c) (dflt T_api_Record)).2).2).2).2, ()), ())) fun ⟨_, f⟩ =>
 bif (f != (0 : Int)) then
 inrO (some ((), false))
 else
 some (.inl ((IntKind.wrap .i64 (c + (1 : Int)), ()), ()))
 else none
 else none
 else
 inrO (some ((), decide ((List.length a : Int) ≤ (4096 : Int)))))
 (((0 : Int), ()), ())
def e27 (fu : Nat) : Ent := ⟨27, (.cons (.hole (.sl T_api_Record)) .nil), .nil, (.hole .bool), p27 fu⟩
def d27 (fu : Nat) : DC := (.seq (.region [opD 2 (.mov (.const vB))] [[]] false) (.seq (.seq (.region [mvD 5 0, opD 6 (.len false (tD 5)), opD 7 (.mov (cD 0))] [[], [0], []] false) (.block 0 (.loop ⟨[7], (.cons (.hole (.int .i64)) .nil), [], .nil, [0, 5, 6], []⟩
 (.seq (.region [opD 8 (.bin .lss (tD 7) (tD 6))] [[]] false) (.seq (.cond (.tmp 8) .skip (.exit 0)) (.seq (.block 1 (.seq (.region [mvD 9 7, opD 10 (.iaddr 5 (tD 5) (tD 7)), opD 11 (.load true 5 (tD 10)), opD 4 (.alloc 30 5 [vU, vT, vS, vU, vU]), mvD 3 9, onD (.store 5 (tD 4) (tD 11))] [[], [], [1], [], [0, 0, 1, 2, 3], [3, 2, 4, 0, 1, 2, 3, 4]] false) (.seq (.region [opD 12 (.faddr 0 (tD 4)), opD 13 (.load false 1 (tD 12)), mvD 14 3, opD 15 (.conv .u64 (tD 14)), opD 16 (.bin .neq (tD 13) (tD 15)), mvD 17 16, ogD 18 17 false (.load true 5 (tD 4)), (⟨(some 19), (some (17, false)), (.call 56 [(tD 18)])⟩, (.ent (e56 fu))), ogD 20 17 false (.bin .neq (tD 19) (cD 0)), opD 21 (.pick (tD 17) (.const (.bool true)) (tD 20))] [[], [0], [], [2], [1, 3], [4], [5], [6, 5, 5], [7, 5], [5, 8]] false) (.cond (.tmp 21) (.seq (.region [opD 2 (.mov (.const vB))] [[]] false) .ret) .skip)))) (.region [opD 22 (.bin .add (tD 7) (cD 1)), mvD 7 22] [[], [0]] false))))))) (.seq (.region [mvD 23 0, opD 24 (.len false (tD 23)), opD 25 (.bin .leq (tD 24) (cD 4096)), mvD 2 25] [[], [0], [1], [2, 0, 1, 2]] false) .ret)))
set_option maxRecDepth 1000000 in
theorem v27 (fu : Nat) : evF fu (d27 fu) rs27 26 (e27 fu).ash (e27 fu).osh (e27 fu).vsh = p27 fu := by kernel_rfl
set_option maxRecDepth 1000000 in
theorem b27 (fu : Nat) : BodyD Try.prog 27 26 (d27 fu).erase rs27 := bodyD_mk Try.func27 (by kernel_rfl) (by kernel_rfl) (by kernel_rfl) (by kernel_rfl)
theorem g27 (fu : Nat) : (e27 fu).Good Try.prog := good_by orders (b27 fu) (l := [e56 fu]) (by kernel_rfl) ⟨g56 fu, trivial⟩ (by kernel_rfl) (v27 fu)
def rs75 : List RVx := [(.tmp 2)]
/-- gazette/copies.newRoom -/
def p75 (_ : Nat) : (Int) × (Unit) → Option ((Unit) × ((List (Int)) × (Unit))) := fun ⟨a, _⟩ =>
bif decide ((0 : Int) ≤ 0 ∧ (0 : Int) ≤ a ∧ (a : Int) ≤ 9223372036854775807 ∧ (1 : Int) * a ≤ 140737488355328) then
 bif decide (0 = List.length (List.replicate 0 (0 : Int) : List (Int))) then
 some ((), ((List.replicate 0 (0 : Int) : List (Int)), ()))
 else none
else none
def e75 (fu : Nat) : Ent := ⟨75, (.cons (.hole (.int .i64)) .nil), .nil, (.box 114 1 (.cons (.own .app 5 (.int .u8)) .nil)), p75 fu⟩
def d75 (_ : Nat) : DC := (.seq (.region [opD 2 (.mov (.const (.pointer none)))] [[]] false) (.seq (.region [mvD 4 0, oqD 5 (.make true 5 1 [(.int .u8 0)] 1 (cD 0) (tD 4)) (.ty (.int .u8)), opD 3 (.alloc 114 1 [vS]), onD (.store 1 (tD 3) (tD 5))] [[], [0], [], [2, 1, 0, 1, 2]] false) (.seq (.region [mvD 2 3] [[]] false) .ret)))
set_option maxRecDepth 1000000 in
theorem v75 (fu : Nat) : evF fu (d75 fu) rs75 6 (e75 fu).ash (e75 fu).osh (e75 fu).vsh = p75 fu := by kernel_rfl
set_option maxRecDepth 1000000 in
theorem b75 (fu : Nat) : BodyD Try.prog 75 6 (d75 fu).erase rs75 := bodyD_mk Try.func75 (by kernel_rfl) (by kernel_rfl) (by kernel_rfl) (by kernel_rfl)
theorem g75 (fu : Nat) : (e75 fu).Good Try.prog := good_by orders (b75 fu) (l := []) (by kernel_rfl) trivial (by kernel_rfl) (v75 fu)
def rs78 : List RVx := [(.tmp 4)]
/-- (*gazette/copies.room).copied -/
def p78 (_ : Nat) : ((List (Int)) × (Unit)) × ((List (Int)) × (Unit)) → Option ((((List (Int)) × (Unit)) × ((Unit) × (Unit))) × (List (Int))) := fun ⟨⟨a, _⟩, c, _⟩ =>
bif ((List.length c : Int) == (0 : Int)) then
 bif decide (List.length a = List.length a) then
 some (((a, ()), (), ()), [])
 else none
else
 bif decide (List.length a = List.length a) then
 bif decide (List.length a + List.length c ≤ maxLen ∧ (List.length a + List.length c) * 1 ≤ 140737488355328) then
 bif decide ((0 : Int) ≤ ((List.length (a ++ c)) : Int)) then
 bif decide ((0 : Int) ≤ ((List.length (a ++ c)) : Int)) then
 bif decide ((0 : Int) ≤ ((List.length a) : Int)) then
 bif decide (Int.toNat ((List.length a) : Int) ≤ Int.toNat ((List.length (a ++ c)) : Int) ∧ Int.toNat ((List.length (a ++ c)) : Int) ≤ Int.toNat ((List.length (a ++ c)) : Int) ∧ Int.toNat ((List.length (a ++ c)) : Int) ≤ List.length (a ++ c) ∧ 0 + (List.length (a ++ c)) ≤ List.length (a ++ c)) then
 bif decide (List.length (a ++ c) = List.length (a ++ c)) then
 some ((((a ++ c), ()), (), ()), slice' (a ++ c) (Int.toNat ((List.length a) : Int)) (some (Int.toNat ((List.length (a ++ c)) : Int))))
 else none
 else none
 else none
 else none
 else none
 else none
 else none
def e78 (fu : Nat) : Ent := ⟨78, (.cons (.box 114 1 (.cons (.own .app 5 (.int .u8)) .nil)) (.cons (.hole (.sl (.int .u8))) .nil)), (.cons (.agg 1 (.cons (.own .app 5 (.int .u8)) .nil)) (.cons .dead .nil)), (.hole (.sl (.int .u8))), p78 fu⟩
def d78 (_ : Nat) : DC := (.seq (.region [opD 4 (.mov (.const vS))] [[]] false) (.seq (.seq (.region [mvD 7 1, opD 8 (.len false (tD 7)), opD 9 (.bin .eql (tD 8) (cD 0))] [[], [0], [1]] false) (.cond (.tmp 9) (.seq (.region [opD 4 (.mov (.const vS))] [[]] false) .ret) .skip)) (.seq (.region [mvD 10 0, opD 11 (.pure .nilc [(tD 10)]), opD 12 (.load false 1 (tD 11)), opD 13 (.len false (tD 12)), mvD 5 13] [[], [0], [1], [2], [3, 0, 1, 2, 3]] false) (.seq (.region [mvD 14 0, mvD 15 0, opD 16 (.pure .nilc [(tD 15)]), opD 17 (.load false 1 (tD 16)), mvD 18 1, oqD 19 (.app 5 1 [(.int .u8 0)] 1 (tD 17) (tD 18)) (.ty (.int .u8)), opD 20 (.pure .nilc [(tD 14)]), onD (.store 1 (tD 20) (tD 19))] [[], [], [1], [2], [], [3, 4], [0, 0, 1, 2, 3, 4, 5], [6, 5, 5, 0, 1, 2, 3, 4, 5]] false) (.seq (.region [mvD 21 0, opD 22 (.pure .nilc [(tD 21)]), opD 23 (.load false 1 (tD 22)), opD 24 (.len false (tD 23)), mvD 6 24] [[], [0], [1], [2], [3, 0, 1, 2, 3]] false) (.seq (.region [mvD 25 0, opD 26 (.pure .nilc [(tD 25)]), opD 27 (.load false 1 (tD 26)), mvD 28 5, mvD 29 6, mvD 30 6, opD 31 (.slc3 1 (tD 27) (some (tD 28)) (some (tD 29)) (some (tD 30))), mvD 4 31] [[], [0], [1], [], [], [], [2, 3, 4, 5], [6, 0, 1, 2, 3, 4, 5, 6]] false) .ret))))))
set_option maxRecDepth 1000000 in
theorem v78 (fu : Nat) : evF fu (d78 fu) rs78 32 (e78 fu).ash (e78 fu).osh (e78 fu).vsh = p78 fu := by kernel_rfl
set_option maxRecDepth 1000000 in
theorem b78 (fu : Nat) : BodyD Try.prog 78 32 (d78 fu).erase rs78 := bodyD_mk Try.func78 (by kernel_rfl) (by kernel_rfl) (by kernel_rfl) (by kernel_rfl)
theorem g78 (fu : Nat) : (e78 fu).Good Try.prog := good_by orders (b78 fu) (l := []) (by kernel_rfl) trivial (by kernel_rfl) (v78 fu)
def rs77 : List RVx := [(.cell 3 true 5)]
/-- gazette/copies.Records$1 -/
def p77 (fu : Nat) : ((Int) × ((ByteArray) × ((List (Int)) × ((Int) × ((Int) × (Unit)))))) × ((((List (Int)) × (Unit)) × (Unit)) × (Unit)) → Option ((((Unit) × (Unit)) × (((List (Int)) × (Unit)) × ((Unit) × (Unit)))) × ((Int) × ((ByteArray) × ((List (Int)) × ((Int) × ((Int) × (Unit))))))) := fun ⟨⟨a, c, f, h, i, _⟩, ⟨⟨j, _⟩, _⟩, _⟩ =>
bif decide (List.length j = List.length j) then
 Option.bind (p78 fu ((j, ()), f, ())) fun ⟨⟨⟨k, _⟩, _, _⟩, l⟩ =>
 bif decide (List.length k = List.length k) then
 some ((((), ()), (k, ()), (), ()), (a, c, l, h, i, ()))
 else none
else none
def e77 (fu : Nat) : Ent := ⟨77, (.cons Y0 (.cons (.box 108 1 (.cons (.box 114 1 (.cons (.own .app 5 (.int .u8)) .nil)) .nil)) .nil)), (.cons (.agg 1 (.cons (.ptr 1) .nil)) (.cons (.agg 1 (.cons (.own .app 5 (.int .u8)) .nil)) (.cons .dead .nil))), Y0, p77 fu⟩
def d77 (fu : Nat) : DC := (.seq (.region [opD 2 (.box 30 5 (tD 0)), opD 3 (.alloc 30 5 [vU, vT, vS, vU, vU])] [[], []] false) (.seq (.region [opD 4 (.load false 1 (tD 1)), opD 5 (.faddr 2 (tD 2)), opD 6 (.load false 1 (tD 5)), oqD 7 (.call 78 [(tD 4), (tD 6)]) (.ent (e78 fu)), opD 8 (.faddr 2 (tD 2)), onD (.store 1 (tD 8) (tD 7))] [[], [], [1], [0, 2], [0, 1, 2, 3], [4, 3, 3, 0, 1, 2, 3]] false) (.seq (.region [opD 9 (.load true 5 (tD 2)), onD (.store 5 (tD 3) (tD 9))] [[], [0, 0]] false) .ret)))
set_option maxRecDepth 1000000 in
theorem v77 (fu : Nat) : evF fu (d77 fu) rs77 10 (e77 fu).ash (e77 fu).osh (e77 fu).vsh = p77 fu := by kernel_rfl
set_option maxRecDepth 1000000 in
theorem b77 (fu : Nat) : BodyD Try.prog 77 10 (d77 fu).erase rs77 := bodyD_mk Try.func77 (by kernel_rfl) (by kernel_rfl) (by kernel_rfl) (by kernel_rfl)
theorem g77 (fu : Nat) : (e77 fu).Good Try.prog := good_by orders (b77 fu) (l := [e78 fu]) (by kernel_rfl) ⟨g78 fu, trivial⟩ (by kernel_rfl) (v77 fu)
def rs76 : List RVx := [(.tmp 4)]
/-- gazette/copies.Each[gazette/api.Record] -/
def p76 (fu : Nat) : (List (D_api_Record)) × (((Unit) × ((((List (Int)) × (Unit)) × (Unit)) × (Unit))) × (Unit)) → Option ((((Unit) × (Unit)) × (((List (Int)) × (Unit)) × ((Unit) × (Unit)))) × (List (D_api_Record))) := fun ⟨a, ⟨_, ⟨⟨⟨c, _⟩, _⟩, _⟩⟩, _⟩ =>
bif ((List.length a : Int) == (0 : Int)) then
 bif decide (List.length c = List.length c) then
 some ((((), ()), (c, ()), (), ()), [])
 else none
else
 bif decide ((0 : Int) ≤ (List.length a : Int) ∧ ((List.length a : Int) : Int) ≤ (List.length a : Int) ∧ ((List.length a : Int) : Int) ≤ 9223372036854775807 ∧ (64 : Int) * (List.length a : Int) ≤ 140737488355328) then
 bif decide (Int.toNat (List.length a : Int) = List.length (List.replicate (Int.toNat (List.length a : Int)) ((0 : Int), (⟨#[]⟩ : ByteArray), [], (0 : Int), (0 : Int)) : List (D_api_Record))) then
 bif decide (List.length c = List.length c) then
 loopO (S := ((List (D_api_Record)) × ((Int) × (Unit))) × (((Unit) × (Unit)) × (((List (Int)) × (Unit)) × (Unit)))) fu (fun ⟨⟨f, h, _⟩, ⟨⟨_, _⟩, ⟨i, _⟩, _⟩⟩ =>
 bif decide (h < (List.length a : Int)) then
 bif decide ((0 : Int) ≤ h ∧ h < (List.length a : Int)) then
 bif decide (Int.toNat h < List.length a) then
 bif decide (List.length i = List.length i) then
 Option.bind (p77 fu (((List.getD a (Int.toNat h) (dflt T_api_Record)).1, ((List.getD a (Int.toNat h) (dflt T_api_Record)).2).1, (((List.getD a (Int.toNat h) (dflt T_api_Record)).2).2).1, ((((List.getD a (Int.toNat h) (dflt T_api_Record)).2).2).2).1, ((((List.getD a (Int.toNat h) (dflt T_api_Record)).2).2).2).2, ()), ((i, ()), ()), ())) fun ⟨⟨⟨_, _⟩, ⟨j, _⟩, _, _⟩, ⟨k, l, m, n, o, _⟩⟩ =>
 bif decide ((0 : Int) ≤ h ∧ h < (List.length f : Int)) then
 bif decide (Int.toNat h < List.length f) then
 bif decide (List.length f = List.length (List.set f (Int.toNat h) (k, l, m, n, o))) then
 bif decide (List.length j = List.length j) then
 some (.inl (((List.set f (Int.toNat h) (k, l, m, n, o)), IntKind.wrap .i64 (h + (1 : Int)), ()), (((), ()), (j, ()), ())))
 else none
 else none
 else none
 else none
 else none
 else none
 else none
 else
 inrO (bif decide (List.length i = List.length i) then
 bif decide (List.length f = List.length f) then
 some ((((), ()), (i, ()), (), ()), f)
 else none
 else none))
 (((List.replicate (Int.toNat (List.length a : Int)) ((0 : Int), (⟨#[]⟩ : ByteArray), [], (0 : Int), (0 : Int)) : List (D_api_Record)), (0 : Int), ()), (((), ()), (c, ()), ()))
 else none
 else none
 else none
def e76 (fu : Nat) : Ent := ⟨76, (.cons (.hole (.sl T_api_Record)) (.cons (.clo 77 0 .nil 1 (.cons (.box 108 1 (.cons (.box 114 1 (.cons (.own .app 5 (.int .u8)) .nil)) .nil)) .nil)) .nil)), (.cons (.agg 1 (.cons (.ptr 1) .nil)) (.cons (.agg 1 (.cons (.own .app 5 (.int .u8)) .nil)) (.cons .dead .nil))), (.own .own 30 T_api_Record), p76 fu⟩
def d76 (fu : Nat) : DC := (.seq (.region [opD 4 (.mov (.const vS))] [[]] false) (.seq (.seq (.region [mvD 8 0, opD 9 (.len false (tD 8)), opD 10 (.bin .eql (tD 9) (cD 0))] [[], [0], [1]] false) (.cond (.tmp 10) (.seq (.region [opD 4 (.mov (.const vS))] [[]] false) .ret) .skip)) (.seq (.region [mvD 11 0, opD 12 (.len false (tD 11)), oqD 13 (.make false 30 5 [vU, vT, vS, vU, vU] 64 (tD 12) (tD 12)) (.ty T_api_Record), mvD 5 13] [[], [0], [1, 1], [2, 0, 1, 2]] false) (.seq (.seq (.region [mvD 14 0, opD 15 (.len false (tD 14)), opD 16 (.mov (cD 0))] [[], [0], []] false) (.block 0 (.loop ⟨[5, 16], (.cons (.own .own 30 T_api_Record) (.cons (.hole (.int .i64)) .nil)), [(0, 108, 1), (1, 114, 1)], (.cons (.agg 1 (.cons (.ptr 1) .nil)) (.cons (.agg 1 (.cons (.own .app 5 (.int .u8)) .nil)) .nil)), [1, 14, 15], [2]⟩
 (.seq (.region [opD 17 (.bin .lss (tD 16) (tD 15))] [[]] false) (.seq (.cond (.tmp 17) .skip (.exit 0)) (.seq (.block 1 (.seq (.region [mvD 18 16, opD 19 (.iaddr 5 (tD 14) (tD 16)), opD 20 (.load true 5 (tD 19)), opD 7 (.alloc 30 5 [vU, vT, vS, vU, vU]), mvD 6 18, onD (.store 5 (tD 7) (tD 20))] [[], [], [1], [], [0, 0, 1, 2, 3], [3, 2, 4, 0, 1, 2, 3, 4]] false) (.region [mvD 21 5, mvD 22 6, mvD 23 1, opD 24 (.load true 5 (tD 7)), oqD 25 (.callv (tD 23) [(tD 24)]) (.ent (e77 fu)), opD 26 (.iaddr 5 (tD 21) (tD 22)), onD (.store 5 (tD 26) (tD 25))] [[], [], [], [], [2, 3], [0, 1, 0, 1, 2, 3, 4], [5, 4, 4, 0, 1, 2, 3, 4]] false))) (.region [opD 27 (.bin .add (tD 16) (cD 1)), mvD 16 27] [[], [0]] false))))))) (.seq (.region [mvD 28 5, mvD 4 28] [[], [0, 0]] false) .ret)))))
set_option maxRecDepth 1000000 in
theorem v76 (fu : Nat) : evF fu (d76 fu) rs76 29 (e76 fu).ash (e76 fu).osh (e76 fu).vsh = p76 fu := by kernel_rfl
set_option maxRecDepth 1000000 in
theorem b76 (fu : Nat) : BodyD Try.prog 76 29 (d76 fu).erase rs76 := bodyD_mk Try.func76 (by kernel_rfl) (by kernel_rfl) (by kernel_rfl) (by kernel_rfl)
theorem g76 (fu : Nat) : (e76 fu).Good Try.prog := good_by orders (b76 fu) (l := [e77 fu]) (by kernel_rfl) ⟨g77 fu, trivial⟩ (by kernel_rfl) (v76 fu)
def rs57 : List RVx := [(.tmp 2)]
/-- gazette/copies.Records -/
def p57 (fu : Nat) : (List (D_api_Record)) × (Unit) → Option ((Unit) × (List (D_api_Record))) := fun ⟨a, _⟩ =>
loopO (S := ((Int) × ((Int) × (Unit))) × (Unit)) fu (fun ⟨⟨c, f, _⟩, _⟩ =>
 bif decide (f < (List.length a : Int)) then
 bif decide ((0 : Int) ≤ f ∧ f < (List.length a : Int)) then
 bif decide (Int.toNat f < List.length a) then
 some (.inl ((IntKind.wrap .i64 (c + (List.length ((((List.getD a (Int.toNat f) (dflt T_api_Record)).2).2).1) : Int)), IntKind.wrap .i64 (f + (1 : Int)), ()), ()))
 else none
 else none
 else
 inrO (Option.bind (p75 fu (c, ())) fun ⟨_, ⟨h, _⟩⟩ =>
 bif decide (List.length h = List.length h) then
 Option.bind (p76 fu (a, ((), (((h, ()), ()), ())), ())) fun ⟨⟨⟨_, _⟩, ⟨_, _⟩, _, _⟩, i⟩ =>
 bif decide (List.length i = List.length i) then
 some ((), i)
 else none
 else none))
 (((0 : Int), (0 : Int), ()), ())
def e57 (fu : Nat) : Ent := ⟨57, (.cons (.hole (.sl T_api_Record)) .nil), .nil, (.own .own 30 T_api_Record), p57 fu⟩
def d57 (fu : Nat) : DC := (.seq (.region [opD 2 (.mov (.const vS))] [[]] false) (.seq (.region [opD 3 (.mov (cD 0))] [[]] false) (.seq (.seq (.region [mvD 6 0, opD 7 (.len false (tD 6)), opD 8 (.mov (cD 0))] [[], [0], []] false) (.block 0 (.loop ⟨[3, 8], (.cons (.hole (.int .i64)) (.cons (.hole (.int .i64)) .nil)), [], .nil, [0, 7], []⟩
 (.seq (.region [opD 9 (.bin .lss (tD 8) (tD 7))] [[]] false) (.seq (.cond (.tmp 9) .skip (.exit 0)) (.seq (.block 1 (.seq (.region [mvD 10 8, mvD 4 10] [[], [0, 0]] false) (.region [mvD 11 3, mvD 12 0, mvD 13 4, opD 14 (.iaddr 5 (tD 12) (tD 13)), opD 15 (.faddr 2 (tD 14)), opD 16 (.load false 1 (tD 15)), opD 17 (.len false (tD 16)), opD 18 (.bin .add (tD 11) (tD 17)), mvD 3 18] [[], [], [], [1, 2], [3], [4], [5], [0, 6], [7, 0, 1, 2, 3, 4, 5, 6, 7]] false))) (.region [opD 19 (.bin .add (tD 8) (cD 1)), mvD 8 19] [[], [0]] false))))))) (.seq (.region [mvD 20 3, oqD 21 (.call 75 [(tD 20)]) (.ent (e75 fu)), opD 5 (.alloc 108 1 [(.pointer none)]), onD (.store 1 (tD 5) (tD 21))] [[], [0], [], [2, 1, 1, 0, 1, 2]] false) (.seq (.region [mvD 22 0, opD 23 (.fn 77 [] [(tD 5)]), oqD 24 (.call 76 [(tD 22), (tD 23)]) (.ent (e76 fu)), mvD 2 24] [[], [], [0, 1], [2, 2, 0, 1, 2]] false) .ret)))))
set_option maxRecDepth 1000000 in
theorem v57 (fu : Nat) : evF fu (d57 fu) rs57 25 (e57 fu).ash (e57 fu).osh (e57 fu).vsh = p57 fu := by kernel_rfl
set_option maxRecDepth 1000000 in
theorem b57 (fu : Nat) : BodyD Try.prog 57 25 (d57 fu).erase rs57 := bodyD_mk Try.func57 (by kernel_rfl) (by kernel_rfl) (by kernel_rfl) (by kernel_rfl)
theorem g57 (fu : Nat) : (e57 fu).Good Try.prog := good_by orders (b57 fu) (l := [e75 fu, e76 fu]) (by kernel_rfl) ⟨g75 fu, g76 fu, trivial⟩ (by kernel_rfl) (v57 fu)
def rs79 : List RVx := [(.tmp 2)]
/-- gazette/copies.List[byte] -/
def p79 (_ : Nat) : (List (Int)) × (Unit) → Option ((Unit) × (List (Int))) := fun ⟨a, _⟩ =>
bif ((List.length a : Int) == (0 : Int)) then
 some ((), [])
else
 bif decide ((0 : Int) ≤ (List.length a : Int) ∧ ((List.length a : Int) : Int) ≤ (List.length a : Int) ∧ ((List.length a : Int) : Int) ≤ 9223372036854775807 ∧ (1 : Int) * (List.length a : Int) ≤ 140737488355328) then
 bif decide (Int.toNat (List.length a : Int) = List.length (List.replicate (Int.toNat (List.length a : Int)) (0 : Int) : List (Int))) then
 bif decide (Int.toNat (List.length a : Int) = List.length (copyL (List.replicate (Int.toNat (List.length a : Int)) (0 : Int) : List (Int)) 0 (Int.toNat (List.length a : Int)) a)) then
 some ((), (copyL (List.replicate (Int.toNat (List.length a : Int)) (0 : Int) : List (Int)) 0 (Int.toNat (List.length a : Int)) a))
 else none
 else none
 else none
def e79 (fu : Nat) : Ent := ⟨79, (.cons (.hole (.sl (.int .u8))) .nil), .nil, (.own .own 5 (.int .u8)), p79 fu⟩
def d79 (_ : Nat) : DC := (.seq (.region [opD 2 (.mov (.const vS))] [[]] false) (.seq (.seq (.region [mvD 4 0, opD 5 (.len false (tD 4)), opD 6 (.bin .eql (tD 5) (cD 0))] [[], [0], [1]] false) (.cond (.tmp 6) (.seq (.region [opD 2 (.mov (.const vS))] [[]] false) .ret) .skip)) (.seq (.region [mvD 7 0, opD 8 (.len false (tD 7)), oqD 9 (.make false 5 1 [(.int .u8 0)] 1 (tD 8) (tD 8)) (.ty (.int .u8)), mvD 3 9] [[], [0], [1, 1], [2, 0, 1, 2]] false) (.seq (.region [mvD 10 3, mvD 11 0, opD 12 (.copy 1 (tD 10) (tD 11))] [[], [], [0, 1]] false) (.seq (.region [mvD 13 3, mvD 2 13] [[], [0, 0]] false) .ret)))))
set_option maxRecDepth 1000000 in
theorem v79 (fu : Nat) : evF fu (d79 fu) rs79 14 (e79 fu).ash (e79 fu).osh (e79 fu).vsh = p79 fu := by kernel_rfl
set_option maxRecDepth 1000000 in
theorem b79 (fu : Nat) : BodyD Try.prog 79 14 (d79 fu).erase rs79 := bodyD_mk Try.func79 (by kernel_rfl) (by kernel_rfl) (by kernel_rfl) (by kernel_rfl)
theorem g79 (fu : Nat) : (e79 fu).Good Try.prog := good_by orders (b79 fu) (l := []) (by kernel_rfl) trivial (by kernel_rfl) (v79 fu)
def rs67 : List RVx := [(.cell 2 true 5)]
/-- gazette/copies.Record -/
def p67 (fu : Nat) : ((Int) × ((ByteArray) × ((List (Int)) × ((Int) × ((Int) × (Unit)))))) × (Unit) → Option ((Unit) × ((Int) × ((ByteArray) × ((List (Int)) × ((Int) × ((Int) × (Unit))))))) := fun ⟨⟨a, c, f, h, i, _⟩, _⟩ =>
Option.bind (p79 fu (f, ())) fun ⟨_, j⟩ =>
bif decide (List.length j = List.length j) then
 some ((), (a, c, j, h, i, ()))
else none
def e67 (fu : Nat) : Ent := ⟨67, (.cons Y0 .nil), .nil, Y1, p67 fu⟩
def d67 (fu : Nat) : DC := (.seq (.region [opD 1 (.box 30 5 (tD 0)), opD 2 (.alloc 30 5 [vU, vT, vS, vU, vU])] [[], []] false) (.seq (.region [opD 3 (.faddr 2 (tD 1)), opD 4 (.load false 1 (tD 3)), oqD 5 (.call 79 [(tD 4)]) (.ent (e79 fu)), opD 6 (.faddr 2 (tD 1)), onD (.store 1 (tD 6) (tD 5))] [[], [0], [1], [0, 1, 2], [3, 2, 2, 0, 1, 2]] false) (.seq (.region [opD 7 (.load true 5 (tD 1)), onD (.store 5 (tD 2) (tD 7))] [[], [0, 0]] false) .ret)))
set_option maxRecDepth 1000000 in
theorem v67 (fu : Nat) : evF fu (d67 fu) rs67 8 (e67 fu).ash (e67 fu).osh (e67 fu).vsh = p67 fu := by kernel_rfl
set_option maxRecDepth 1000000 in
theorem b67 (fu : Nat) : BodyD Try.prog 67 8 (d67 fu).erase rs67 := bodyD_mk Try.func67 (by kernel_rfl) (by kernel_rfl) (by kernel_rfl) (by kernel_rfl)
theorem g67 (fu : Nat) : (e67 fu).Good Try.prog := good_by orders (b67 fu) (l := [e79 fu]) (by kernel_rfl) ⟨g79 fu, trivial⟩ (by kernel_rfl) (v67 fu)
def rs46 : List RVx := [(.tmp 4)]
/-- gazette/records.behind -/
def p46 (fu : Nat) : (List (D_api_Record)) × (((Int) × ((ByteArray) × ((List (Int)) × ((Int) × ((Int) × (Unit)))))) × (Unit)) → Option (((Unit) × (Unit)) × (List (D_api_Record))) := fun ⟨a, ⟨c, f, h, i, j, _⟩, _⟩ =>
Option.bind (p67 fu ((c, f, h, i, j, ()), ())) fun ⟨_, ⟨_, k, l, m, n, _⟩⟩ =>
bif decide (List.length l = List.length l) then
 bif decide (List.length a = List.length a) then
 bif decide (List.length a + List.length ([(IntKind.wrap .u64 ((List.length a) : Int), k, l, m, n)]) ≤ maxLen ∧ (List.length a + List.length ([(IntKind.wrap .u64 ((List.length a) : Int), k, l, m, n)])) * 64 ≤ 140737488355328) then
 bif decide (List.length (a ++ [(IntKind.wrap .u64 ((List.length a) : Int), k, l, m, n)]) = List.length (a ++ [(IntKind.wrap .u64 ((List.length a) : Int), k, l, m, n)])) then
 some (((), ()), (a ++ [(IntKind.wrap .u64 ((List.length a) : Int), k, l, m, n)]))
 else none
 else none
 else none
else none
def e46 (fu : Nat) : Ent := ⟨46, (.cons (.own .own 30 T_api_Record) (.cons Y0 .nil)), (.cons .dead .nil), (.own .own 30 T_api_Record), p46 fu⟩
def d46 (fu : Nat) : DC := (.seq (.region [opD 3 (.box 30 5 (tD 1)), opD 4 (.mov (.const vS))] [[], []] false) (.seq (.region [opD 5 (.load true 5 (tD 3)), oqD 6 (.call 67 [(tD 5)]) (.ent (e67 fu)), onD (.store 5 (tD 3) (tD 6))] [[], [0], [1, 1, 0, 1]] false) (.seq (.region [mvD 7 0, opD 8 (.len false (tD 7)), opD 9 (.conv .u64 (tD 8)), opD 10 (.faddr 0 (tD 3)), onD (.store 1 (tD 10) (tD 9))] [[], [0], [1], [0, 1, 2], [3, 2, 0, 1, 2]] false) (.seq (.region [mvD 11 0, opD 12 (.load true 5 (tD 3)), oqD 13 (.bslice 30 5 1 [vU, vT, vS, vU, vU] [(0, (tD 12))]) (.ty T_api_Record), oqD 14 (.app 30 5 [vU, vT, vS, vU, vU] 64 (tD 11) (tD 13)) (.ty T_api_Record), mvD 4 14] [[], [], [1], [0, 2], [3, 3, 0, 1, 2, 3]] false) .ret))))
set_option maxRecDepth 1000000 in
theorem v46 (fu : Nat) : evF fu (d46 fu) rs46 15 (e46 fu).ash (e46 fu).osh (e46 fu).vsh = p46 fu := by kernel_rfl
set_option maxRecDepth 1000000 in
theorem b46 (fu : Nat) : BodyD Try.prog 46 15 (d46 fu).erase rs46 := bodyD_mk Try.func46 (by kernel_rfl) (by kernel_rfl) (by kernel_rfl) (by kernel_rfl)
theorem g46 (fu : Nat) : (e46 fu).Good Try.prog := good_by orders (b46 fu) (l := [e67 fu]) (by kernel_rfl) ⟨g67 fu, trivial⟩ (by kernel_rfl) (v46 fu)
def rs17 : List RVx := [(.tmp 4), (.tmp 5), (.tmp 6)]
/-- gazette/records.Append -/
def p17 (fu : Nat) : (List (D_api_Record)) × (((Int) × ((ByteArray) × ((List (Int)) × ((Int) × ((Int) × (Unit)))))) × (Unit)) → Option ((Unit) × ((List (D_api_Record)) × ((Int) × ((Int) × (Unit))))) := fun ⟨a, ⟨c, f, h, i, j, _⟩, _⟩ =>
Option.bind (p27 fu (a, ())) fun ⟨_, k⟩ =>
bif !k then
 some ((), ([], (0 : Int), (1 : Int), ()))
else
 Option.bind (p56 fu ((c, f, h, i, j, ()), ())) fun ⟨_, l⟩ =>
 bif (l != (0 : Int)) then
 some ((), ([], (0 : Int), l, ()))
 else
 bif decide ((List.length a : Int) ≥ (4096 : Int)) then
 some ((), ([], (0 : Int), (143 : Int), ()))
 else
 Option.bind (p57 fu (a, ())) fun ⟨_, m⟩ =>
 bif decide (List.length m = List.length m) then
 Option.bind (p46 fu (m, (c, f, h, i, j, ()), ())) fun ⟨⟨_, _⟩, n⟩ =>
 bif decide (List.length n = List.length n) then
 some ((), (n, IntKind.wrap .u64 (List.length a : Int), (0 : Int), ()))
 else none
 else none
def e17 (fu : Nat) : Ent := ⟨17, (.cons (.hole (.sl T_api_Record)) (.cons Y0 .nil)), .nil, (.tup 3 (.cons (.own .own 30 T_api_Record) (.cons (.hole (.int .u64)) (.cons (.hole (.int .i64)) .nil)))), p17 fu⟩
def d17 (fu : Nat) : DC := (.seq (.region [opD 3 (.box 30 5 (tD 1)), opD 4 (.mov (.const vS)), opD 5 (.mov (.const vU)), opD 6 (.mov (cD 0))] [[], [], [1], [2]] false) (.seq (.seq (.region [mvD 8 0, oqD 9 (.call 27 [(tD 8)]) (.ent (e27 fu)), opD 10 (.not (tD 9))] [[], [0], [1]] false) (.cond (.tmp 10) (.seq (.region [opD 4 (.mov (.const vS)), opD 5 (.mov (.const vU)), opD 6 (.mov (cD 1))] [[], [0, 0], [1, 0, 1]] false) .ret) .skip)) (.seq (.seq (.region [opD 11 (.load true 5 (tD 3)), oqD 12 (.call 56 [(tD 11)]) (.ent (e56 fu)), mvD 7 12] [[], [0], [1, 1, 0, 1]] false) (.seq (.region [mvD 13 7, opD 14 (.bin .neq (tD 13) (cD 0))] [[], [0]] false) (.cond (.tmp 14) (.seq (.region [mvD 15 7, opD 4 (.mov (.const vS)), opD 5 (.mov (.const vU)), mvD 6 15] [[], [], [1, 1], [0, 2, 0, 1, 2]] false) .ret) .skip))) (.seq (.seq (.region [mvD 16 0, opD 17 (.len false (tD 16)), opD 18 (.bin .geq (tD 17) (cD 4096))] [[], [0], [1]] false) (.cond (.tmp 18) (.seq (.region [opD 4 (.mov (.const vS)), opD 5 (.mov (.const vU)), opD 6 (.mov (cD 143))] [[], [0, 0], [1, 0, 1]] false) .ret) .skip)) (.seq (.region [mvD 19 0, oqD 20 (.call 57 [(tD 19)]) (.ent (e57 fu)), opD 21 (.load true 5 (tD 3)), oqD 22 (.call 46 [(tD 20), (tD 21)]) (.ent (e46 fu)), mvD 23 0, opD 24 (.len false (tD 23)), opD 25 (.conv .u64 (tD 24)), mvD 4 22, mvD 5 25, opD 6 (.mov (cD 0))] [[], [0], [], [1, 2, 1], [], [4], [5], [3, 3, 0, 1, 2, 3], [6, 7, 0, 1, 2, 3, 4, 5, 6, 7], [8, 0, 1, 2, 3, 4, 5, 6, 7, 8]] true) .ret)))))
set_option maxRecDepth 1000000 in
theorem v17 (fu : Nat) : evF fu (d17 fu) rs17 26 (e17 fu).ash (e17 fu).osh (e17 fu).vsh = p17 fu := by kernel_rfl
set_option maxRecDepth 1000000 in
theorem b17 (fu : Nat) : BodyD Try.prog 17 26 (d17 fu).erase rs17 := bodyD_mk Try.func17 (by kernel_rfl) (by kernel_rfl) (by kernel_rfl) (by kernel_rfl)
theorem g17 (fu : Nat) : (e17 fu).Good Try.prog := good_by orders (b17 fu) (l := [e27 fu, e56 fu, e57 fu, e46 fu]) (by kernel_rfl) ⟨g27 fu, g56 fu, g57 fu, g46 fu, trivial⟩ (by kernel_rfl) (v17 fu)
def rs37 : List RVx := [(.tmp 2)]
/-- gazette/records.Name -/
def p37 (fu : Nat) : (ByteArray) × (Unit) → Option ((Unit) × (Bool)) := fun ⟨a, _⟩ =>
loopO (S := ((Int) × (Unit)) × (Unit)) fu (fun ⟨⟨c, _⟩, _⟩ =>
 bif decide (c < (List.length (numsOf a) : Int)) then
 bif decide ((0 : Int) ≤ c ∧ c < (List.length (numsOf a) : Int)) then
 bif decide (Int.toNat c < List.length (numsOf a)) then
 bif decide ((List.getD (numsOf a) (Int.toNat c) (dflt (.int .u8))) < (97 : Int)) then
 bif decide ((List.getD (numsOf a) (Int.toNat c) (dflt (.int .u8))) < (48 : Int)) then
 bif ((List.getD (numsOf a) (Int.toNat c) (dflt (.int .u8))) != (45 : Int)) then
 bif ((List.getD (numsOf a) (Int.toNat c) (dflt (.int .u8))) != (95 : Int)) then
 bif ((List.getD (numsOf a) (Int.toNat c) (dflt (.int .u8))) != (46 : Int)) then
 inrO (some ((), false))
 else
 some (.inl ((IntKind.wrap .i64 (c + (1 : Int)), ()), ()))
 else
 some (.inl ((IntKind.wrap .i64 (c + (1 : Int)), ()), ()))
 else
 some (.inl ((IntKind.wrap .i64 (c + (1 : Int)), ()), ()))
 else
 bif decide ((List.getD (numsOf a) (Int.toNat c) (dflt (.int .u8))) > (57 : Int)) then
 bif ((List.getD (numsOf a) (Int.toNat c) (dflt (.int .u8))) != (45 : Int)) then
 bif ((List.getD (numsOf a) (Int.toNat c) (dflt (.int .u8))) != (95 : Int)) then
 bif ((List.getD (numsOf a) (Int.toNat c) (dflt (.int .u8))) != (46 : Int)) then
 inrO (some ((), false))
 else
 some (.inl ((IntKind.wrap .i64 (c + (1 : Int)), ()), ()))
 else
 some (.inl ((IntKind.wrap .i64 (c + (1 : Int)), ()), ()))
 else
 some (.inl ((IntKind.wrap .i64 (c + (1 : Int)), ()), ()))
 else
 some (.inl ((IntKind.wrap .i64 (c + (1 : Int)), ()), ()))
 else
 bif decide ((List.getD (numsOf a) (Int.toNat c) (dflt (.int .u8))) > (122 : Int)) then
 bif decide ((List.getD (numsOf a) (Int.toNat c) (dflt (.int .u8))) < (48 : Int)) then
 bif ((List.getD (numsOf a) (Int.toNat c) (dflt (.int .u8))) != (45 : Int)) then
 bif ((List.getD (numsOf a) (Int.toNat c) (dflt (.int .u8))) != (95 : Int)) then
 bif ((List.getD (numsOf a) (Int.toNat c) (dflt (.int .u8))) != (46 : Int)) then
 inrO (some ((), false))
 else
 some (.inl ((IntKind.wrap .i64 (c + (1 : Int)), ()), ()))
 else
 some (.inl ((IntKind.wrap .i64 (c + (1 : Int)), ()), ()))
 else
 some (.inl ((IntKind.wrap .i64 (c + (1 : Int)), ()), ()))
 else
 bif decide ((List.getD (numsOf a) (Int.toNat c) (dflt (.int .u8))) > (57 : Int)) then
 bif ((List.getD (numsOf a) (Int.toNat c) (dflt (.int .u8))) != (45 : Int)) then
 bif ((List.getD (numsOf a) (Int.toNat c) (dflt (.int .u8))) != (95 : Int)) then
 bif ((List.getD (numsOf a) (Int.toNat c) (dflt (.int .u8))) != (46 : Int)) then
 inrO (some ((), false))
 else
 some (.inl ((IntKind.wrap .i64 (c + (1 : Int)), ()), ()))
 else
 some (.inl ((IntKind.wrap .i64 (c + (1 : Int)), ()), ()))
 else
 some (.inl ((IntKind.wrap .i64 (c + (1 : Int)), ()), ()))
 else
 some (.inl ((IntKind.wrap .i64 (c + (1 : Int)), ()), ()))
 else
 some (.inl ((IntKind.wrap .i64 (c + (1 : Int)), ()), ()))
 else none
 else none
 else
 inrO (bif decide ((ByteArray.size a : Int) ≥ (1 : Int)) then
 some ((), decide ((ByteArray.size a : Int) ≤ (32 : Int)))
 else
 some ((), false)))
 (((0 : Int), ()), ())
def e37 (fu : Nat) : Ent := ⟨37, (.cons (.hole .str) .nil), .nil, (.hole .bool), p37 fu⟩
def d37 (_ : Nat) : DC := (.seq (.region [opD 2 (.mov (.const vB))] [[]] false) (.seq (.seq (.region [mvD 5 0, opD 6 (.s2b 5 (tD 5)), opD 7 (.len false (tD 6)), opD 8 (.mov (cD 0))] [[], [0], [1], []] false) (.block 0 (.loop ⟨[8], (.cons (.hole (.int .i64)) .nil), [], .nil, [0, 6, 7], []⟩
 (.seq (.region [opD 9 (.bin .lss (tD 8) (tD 7))] [[]] false) (.seq (.cond (.tmp 9) .skip (.exit 0)) (.seq (.block 1 (.seq (.region [opD 10 (.iaddr 1 (tD 6) (tD 8)), opD 11 (.load false 1 (tD 10)), mvD 4 11] [[], [0], [1, 0, 1]] false) (.seq (.region [mvD 12 4, opD 13 (.bin .lss (tD 12) (.const (.int .u8 97))), mvD 14 13, ogD 15 14 false (.mov (tD 4)), ogD 16 14 false (.bin .gtr (tD 15) (.const (.int .u8 122))), opD 17 (.pick (tD 14) (.const (.bool true)) (tD 16)), mvD 18 17, ogD 19 18 true (.mov (tD 4)), ogD 20 18 true (.bin .lss (tD 19) (.const (.int .u8 48))), ogD 21 18 true (.mov (tD 20)), ogD 22 21 false (.mov (tD 4)), ogD 23 21 false (.bin .gtr (tD 22) (.const (.int .u8 57))), ogD 24 18 true (.pick (tD 21) (.const (.bool true)) (tD 23)), opD 25 (.pick (tD 18) (tD 24) (.const vB)), mvD 26 25, ogD 27 26 true (.mov (tD 4)), ogD 28 26 true (.bin .neq (tD 27) (.const (.int .u8 45))), opD 29 (.pick (tD 26) (tD 28) (.const vB)), mvD 30 29, ogD 31 30 true (.mov (tD 4)), ogD 32 30 true (.bin .neq (tD 31) (.const (.int .u8 95))), opD 33 (.pick (tD 30) (tD 32) (.const vB)), mvD 34 33, ogD 35 34 true (.mov (tD 4)), ogD 36 34 true (.bin .neq (tD 35) (.const (.int .u8 46))), opD 37 (.pick (tD 34) (tD 36) (.const vB))] [[], [0], [1], [2], [3, 2], [2, 4], [5, 2], [6], [7, 6], [8, 6, 6], [9], [10, 9], [9, 11, 6], [6, 12], [13, 9], [14], [15, 14], [14, 16], [17, 14], [18], [19, 18], [18, 20], [21, 18], [22], [23, 22], [22, 24]] false) (.cond (.tmp 37) (.seq (.region [opD 2 (.mov (.const vB))] [[]] false) .ret) .skip)))) (.region [opD 38 (.bin .add (tD 8) (cD 1)), mvD 8 38] [[], [0]] false))))))) (.seq (.region [mvD 39 0, opD 40 (.len true (tD 39)), opD 41 (.bin .geq (tD 40) (cD 1)), mvD 42 41, ogD 43 42 true (.mov (tD 0)), ogD 44 42 true (.len true (tD 43)), ogD 45 42 true (.bin .leq (tD 44) (cD 32)), opD 46 (.pick (tD 42) (tD 45) (.const vB)), mvD 2 46] [[], [0], [1], [2], [3], [4, 3], [5, 3], [3, 6], [7, 3, 0, 1, 2, 3, 4, 5, 6, 7]] false) .ret)))
set_option maxRecDepth 1000000 in
theorem v37 (fu : Nat) : evF fu (d37 fu) rs37 47 (e37 fu).ash (e37 fu).osh (e37 fu).vsh = p37 fu := by kernel_rfl
set_option maxRecDepth 1000000 in
theorem b37 (fu : Nat) : BodyD Try.prog 37 47 (d37 fu).erase rs37 := bodyD_mk Try.func37 (by kernel_rfl) (by kernel_rfl) (by kernel_rfl) (by kernel_rfl)
theorem g37 (fu : Nat) : (e37 fu).Good Try.prog := good_by orders (b37 fu) (l := []) (by kernel_rfl) trivial (by kernel_rfl) (v37 fu)
def rs11 : List RVx := [(.tmp 0)]
/-- gazette/gazettelaw14.lives -/
def p11 (fu : Nat) : Unit → Option ((Unit) × (Bool)) := fun _ =>
Option.bind (p17 fu ([], ((0 : Int), (⟨#[107]⟩ : ByteArray), [], (0 : Int), (0 : Int), ()), ())) fun ⟨_, ⟨a, c, f, _⟩⟩ =>
bif (f == (0 : Int)) then
 bif (c == (0 : Int)) then
 bif (((List.length a) : Int) == (1 : Int)) then
 bif decide ((0 : Int) ≤ 0 ∧ 0 < (List.length a : Int)) then
 bif decide (0 < List.length a) then
 bif ByteArray.toList (((List.getD a 0 (dflt T_api_Record)).2).1) == ByteArray.toList (⟨#[107]⟩ : ByteArray) then
 Option.bind (p37 fu ((⟨#[97, 45, 49]⟩ : ByteArray), ())) fun ⟨_, h⟩ =>
 some ((), h)
 else
 some ((), false)
 else none
 else none
 else
 some ((), false)
 else
 some ((), false)
else
 some ((), false)
def e11 (fu : Nat) : Ent := ⟨11, .nil, .nil, (.hole .bool), p11 fu⟩
def d11 (fu : Nat) : DC := (.seq (.region [opD 0 (.mov (.const vB))] [[]] false) (.seq (.region [opD 5 (.build 5 [vU, vT, vS, vU, vU] [(1, (1, (.const (.string ⟨#[107]⟩))))]), oqD 6 (.call 17 [(.const vS), (tD 5)]) (.ent (e17 fu)), mvD 4 6, opD 7 (.ext (tD 4) 0), opD 8 (.ext (tD 4) 1), opD 9 (.ext (tD 4) 2), mvD 1 7, mvD 2 8, mvD 3 9] [[], [0], [1], [2], [2], [2], [3, 1, 0, 1, 2, 3], [4, 6, 0, 1, 2, 3, 4, 6], [5, 7, 0, 1, 2, 3, 4, 5, 6, 7]] false) (.seq (.region [mvD 10 3, opD 11 (.bin .eql (tD 10) (cD 0)), mvD 12 11, ogD 13 12 true (.mov (tD 2)), ogD 14 12 true (.bin .eql (tD 13) (.const vU)), opD 15 (.pick (tD 12) (tD 14) (.const vB)), mvD 16 15, ogD 17 16 true (.mov (tD 1)), ogD 18 16 true (.len false (tD 17)), ogD 19 16 true (.bin .eql (tD 18) (cD 1)), opD 20 (.pick (tD 16) (tD 19) (.const vB)), mvD 21 20, ogD 22 21 true (.mov (tD 1)), ogD 23 21 true (.iaddr 5 (tD 22) (cD 0)), ogD 24 21 true (.faddr 1 (tD 23)), ogD 25 21 true (.load false 1 (tD 24)), ogD 26 21 true (.bin .eql (tD 25) (.const (.string ⟨#[107]⟩))), opD 27 (.pick (tD 21) (tD 26) (.const vB)), mvD 28 27, (⟨(some 29), (some (28, true)), (.call 37 [(.const (.string ⟨#[97, 45, 49]⟩))])⟩, (.ent (e37 fu))), opD 30 (.pick (tD 28) (tD 29) (.const vB)), mvD 0 30] [[], [0], [1], [2], [3, 2], [2, 4], [5, 2], [6], [7, 6], [8, 6], [6, 9], [10, 6], [11], [12, 11], [13, 11], [14, 11], [15, 11], [11, 16], [17, 11], [18, 18], [18, 19], [20, 19, 0, 1, 2, 3, 4, 5, 6, 7, 8, 9, 10, 11, 12, 13, 14, 15, 16, 17, 18, 19, 20]] false) .ret)))
set_option maxRecDepth 1000000 in
theorem v11 (fu : Nat) : evF fu (d11 fu) rs11 31 (e11 fu).ash (e11 fu).osh (e11 fu).vsh = p11 fu := by kernel_rfl
set_option maxRecDepth 1000000 in
theorem b11 (fu : Nat) : BodyD Try.prog 11 31 (d11 fu).erase rs11 := bodyD_mk Try.func11 (by kernel_rfl) (by kernel_rfl) (by kernel_rfl) (by kernel_rfl)
theorem g11 (fu : Nat) : (e11 fu).Good Try.prog := good_by orders (b11 fu) (l := [e17 fu, e37 fu]) (by kernel_rfl) ⟨g17 fu, g37 fu, trivial⟩ (by kernel_rfl) (v11 fu)
def rs39 : List RVx := [(.tmp 2)]
/-- gazette/records.Consumers -/
def p39 (fu : Nat) : (List (D_runtime_errorAddressString)) × (Unit) → Option ((Unit) × (Bool)) := fun ⟨a, _⟩ =>
loopO (S := ((Int) × (Unit)) × (Unit)) fu (fun ⟨⟨c, _⟩, _⟩ =>
 bif decide (c < (List.length a : Int)) then
 bif decide ((0 : Int) ≤ c ∧ c < (List.length a : Int)) then
 bif decide (Int.toNat c < List.length a) then
 Option.bind (p37 fu ((List.getD a (Int.toNat c) (dflt T_runtime_errorAddressString)).1, ())) fun ⟨_, f⟩ =>
 bif !f then
 inrO (some ((), false))
 else
 bif decide (c > (0 : Int)) then
 bif decide ((0 : Int) ≤ IntKind.wrap .i64 (c - (1 : Int)) ∧ IntKind.wrap .i64 (c - (1 : Int)) < (List.length a : Int)) then
 bif decide (Int.toNat (IntKind.wrap .i64 (c - (1 : Int))) < List.length a) then
 bif !Op.bytesLess (ByteArray.toList ((List.getD a (Int.toNat (IntKind.wrap .i64 (c - (1 : Int)))) (dflt T_runtime_errorAddressString)).1)) (ByteArray.toList ((List.getD a (Int.toNat c) (dflt T_runtime_errorAddressString)).1)) then
 inrO (some ((), false))
 else
 some (.inl ((IntKind.wrap .i64 (c + (1 : Int)), ()), ()))
 else none
 else none
 else
 some (.inl ((IntKind.wrap .i64 (c + (1 : Int)), ()), ()))
 else none
 else none
 else
 inrO (some ((), decide ((List.length a : Int) ≤ (64 : Int)))))
 (((0 : Int), ()), ())
def e39 (fu : Nat) : Ent := ⟨39, (.cons (.hole (.sl T_runtime_errorAddressString)) .nil), .nil, (.hole .bool), p39 fu⟩
def d39 (fu : Nat) : DC := (.seq (.region [opD 2 (.mov (.const vB))] [[]] false) (.seq (.seq (.region [mvD 5 0, opD 6 (.len false (tD 5)), opD 7 (.mov (cD 0))] [[], [0], []] false) (.block 0 (.loop ⟨[7], (.cons (.hole (.int .i64)) .nil), [], .nil, [0, 5, 6], []⟩
 (.seq (.region [opD 8 (.bin .lss (tD 7) (tD 6))] [[]] false) (.seq (.cond (.tmp 8) .skip (.exit 0)) (.seq (.block 1 (.seq (.region [mvD 9 7, opD 10 (.iaddr 2 (tD 5) (tD 7)), opD 11 (.load true 2 (tD 10)), opD 4 (.alloc 40 2 [vT, vU]), mvD 3 9, onD (.store 2 (tD 4) (tD 11))] [[], [], [1], [], [0, 0, 1, 2, 3], [3, 2, 4, 0, 1, 2, 3, 4]] false) (.seq (.region [opD 12 (.faddr 0 (tD 4)), opD 13 (.load false 1 (tD 12)), oqD 14 (.call 37 [(tD 13)]) (.ent (e37 fu)), opD 15 (.not (tD 14)), mvD 16 15, ogD 17 16 false (.mov (tD 3)), ogD 18 16 false (.bin .gtr (tD 17) (cD 0)), ogD 19 16 false (.mov (tD 18)), ogD 20 19 true (.mov (tD 0)), ogD 21 19 true (.mov (tD 3)), ogD 22 19 true (.bin .sub (tD 21) (cD 1)), ogD 23 19 true (.iaddr 2 (tD 20) (tD 22)), ogD 24 19 true (.faddr 0 (tD 23)), ogD 25 19 true (.load false 1 (tD 24)), ogD 26 19 true (.faddr 0 (tD 4)), ogD 27 19 true (.load false 1 (tD 26)), ogD 28 19 true (.bin .geq (tD 25) (tD 27)), ogD 29 16 false (.pick (tD 19) (tD 28) (.const vB)), opD 30 (.pick (tD 16) (.const (.bool true)) (tD 29))] [[], [0], [1], [2], [3, 2], [4], [5, 4], [6, 4, 4], [7], [7], [9, 7], [8, 10, 7], [11, 7], [12, 7], [7], [14, 7], [13, 15, 7], [7, 16, 4], [4, 17]] true) (.cond (.tmp 30) (.seq (.region [opD 2 (.mov (.const vB))] [[]] false) .ret) .skip)))) (.region [opD 31 (.bin .add (tD 7) (cD 1)), mvD 7 31] [[], [0]] false))))))) (.seq (.region [mvD 32 0, opD 33 (.len false (tD 32)), opD 34 (.bin .leq (tD 33) (cD 64)), mvD 2 34] [[], [0], [1], [2, 0, 1, 2]] false) .ret)))
set_option maxRecDepth 1000000 in
theorem v39 (fu : Nat) : evF fu (d39 fu) rs39 35 (e39 fu).ash (e39 fu).osh (e39 fu).vsh = p39 fu := by kernel_rfl
set_option maxRecDepth 1000000 in
theorem b39 (fu : Nat) : BodyD Try.prog 39 35 (d39 fu).erase rs39 := bodyD_mk Try.func39 (by kernel_rfl) (by kernel_rfl) (by kernel_rfl) (by kernel_rfl)
theorem g39 (fu : Nat) : (e39 fu).Good Try.prog := good_by orders (b39 fu) (l := [e37 fu]) (by kernel_rfl) ⟨g37 fu, trivial⟩ (by kernel_rfl) (v39 fu)
def rs74 : List RVx := [(.tmp 4)]
/-- strings.Compare -/
def p74 (fu : Nat) : (ByteArray) × ((ByteArray) × (Unit)) → Option ((Unit) × (Int)) := fun ⟨a, c, _⟩ =>
Option.bind (pCmpS fu (a, c, ())) fun ⟨_, f⟩ =>
some ((), f)
def e74 (fu : Nat) : Ent := ⟨74, (.cons (.hole .str) (.cons (.hole .str) .nil)), .nil, (.hole (.int .i64)), p74 fu⟩
def d74 (fu : Nat) : DC := (.seq (.region [opD 4 (.mov (cD 0))] [[]] false) (.seq (.region [mvD 5 0, mvD 6 1, oqD 7 (.call 82 [(tD 5), (tD 6)]) (.ent (eCmpS fu)), mvD 4 7] [[], [], [0, 1], [2, 2, 0, 1, 2]] false) .ret))
set_option maxRecDepth 1000000 in
theorem v74 (fu : Nat) : evF fu (d74 fu) rs74 8 (e74 fu).ash (e74 fu).osh (e74 fu).vsh = p74 fu := by kernel_rfl
set_option maxRecDepth 1000000 in
theorem b74 (fu : Nat) : BodyD Try.prog 74 8 (d74 fu).erase rs74 := bodyD_mk Try.func74 (by kernel_rfl) (by kernel_rfl) (by kernel_rfl) (by kernel_rfl)
theorem g74 (fu : Nat) : (e74 fu).Good Try.prog := good_by orders (b74 fu) (l := [eCmpS fu]) (by kernel_rfl) ⟨gCmpS fu, trivial⟩ (by kernel_rfl) (v74 fu)
def rs55 : List RVx := [(.tmp 4)]
/-- gazette/records.byName -/
def p55 (fu : Nat) : ((ByteArray) × ((Int) × (Unit))) × (((ByteArray) × ((Int) × (Unit))) × (Unit)) → Option ((Unit) × (Int)) := fun ⟨⟨a, _, _⟩, ⟨c, _, _⟩, _⟩ =>
Option.bind (p74 fu (a, c, ())) fun ⟨_, f⟩ =>
some ((), f)
def e55 (fu : Nat) : Ent := ⟨55, (.cons (.agg 2 (.cons (.hole .str) (.cons (.hole (.int .u64)) .nil))) (.cons (.agg 2 (.cons (.hole .str) (.cons (.hole (.int .u64)) .nil))) .nil)), .nil, (.hole (.int .i64)), p55 fu⟩
def d55 (fu : Nat) : DC := (.seq (.region [opD 2 (.box 40 2 (tD 0)), opD 3 (.box 40 2 (tD 1)), opD 4 (.mov (cD 0))] [[], [], []] false) (.seq (.region [opD 5 (.faddr 0 (tD 2)), opD 6 (.load false 1 (tD 5)), opD 7 (.faddr 0 (tD 3)), opD 8 (.load false 1 (tD 7)), oqD 9 (.call 74 [(tD 6), (tD 8)]) (.ent (e74 fu)), mvD 4 9] [[], [0], [], [2], [1, 3], [4, 4, 0, 1, 2, 3, 4]] false) .ret))
set_option maxRecDepth 1000000 in
theorem v55 (fu : Nat) : evF fu (d55 fu) rs55 10 (e55 fu).ash (e55 fu).osh (e55 fu).vsh = p55 fu := by kernel_rfl
set_option maxRecDepth 1000000 in
theorem b55 (fu : Nat) : BodyD Try.prog 55 10 (d55 fu).erase rs55 := bodyD_mk Try.func55 (by kernel_rfl) (by kernel_rfl) (by kernel_rfl) (by kernel_rfl)
theorem g55 (fu : Nat) : (e55 fu).Good Try.prog := good_by orders (b55 fu) (l := [e74 fu]) (by kernel_rfl) ⟨g74 fu, trivial⟩ (by kernel_rfl) (v55 fu)
def rs71 : List RVx := [(.tmp 6), (.tmp 7)]
/-- slices.BinarySearchFunc[[]gazette/api.Consumer,gazette/api.Consumer,gazette/api.Consumer] -/
def p71 (fu : Nat) : (List (D_runtime_errorAddressString)) × (((ByteArray) × ((Int) × (Unit))) × (((Unit) × (Unit)) × (Unit))) → Option ((Unit) × ((Int) × ((Bool) × (Unit)))) := fun ⟨a, ⟨c, f, _⟩, ⟨_, _⟩, _⟩ =>
loopO (S := ((Int) × ((Int) × (Unit))) × (Unit)) fu (fun ⟨⟨h, i, _⟩, _⟩ =>
 bif decide (h < i) then
 bif decide ((0 : Int) ≤ IntKind.wrap .i64 (Int.fdiv (IntKind.wrap .u64 (IntKind.wrap .i64 (h + i))) (2 ^ (min (Int.toNat (1 : Int)) (IntKind.bits .u64)))) ∧ IntKind.wrap .i64 (Int.fdiv (IntKind.wrap .u64 (IntKind.wrap .i64 (h + i))) (2 ^ (min (Int.toNat (1 : Int)) (IntKind.bits .u64)))) < (List.length a : Int)) then
 bif decide (Int.toNat (IntKind.wrap .i64 (Int.fdiv (IntKind.wrap .u64 (IntKind.wrap .i64 (h + i))) (2 ^ (min (Int.toNat (1 : Int)) (IntKind.bits .u64))))) < List.length a) then
 Option.bind (p55 fu (((List.getD a (Int.toNat (IntKind.wrap .i64 (Int.fdiv (IntKind.wrap .u64 (IntKind.wrap .i64 (h + i))) (2 ^ (min (Int.toNat (1 : Int)) (IntKind.bits .u64)))))) (dflt T_runtime_errorAddressString)).1, (List.getD a (Int.toNat (IntKind.wrap .i64 (Int.fdiv (IntKind.wrap .u64 (IntKind.wrap .i64 (h + i))) (2 ^ (min (Int.toNat (1 : Int)) (IntKind.bits .u64)))))) (dflt T_runtime_errorAddressString)).2, ()), (c, f, ()), ())) fun ⟨_, j⟩ =>
 bif decide (j < (0 : Int)) then
 some (.inl ((IntKind.wrap .i64 ((IntKind.wrap .i64 (Int.fdiv (IntKind.wrap .u64 (IntKind.wrap .i64 (h + i))) (2 ^ (min (Int.toNat (1 : Int)) (IntKind.bits .u64))))) + (1 : Int)), i, ()), ()))
 else
 some (.inl ((h, IntKind.wrap .i64 (Int.fdiv (IntKind.wrap .u64 (IntKind.wrap .i64 (h + i))) (2 ^ (min (Int.toNat (1 : Int)) (IntKind.bits .u64)))), ()), ()))
 else none
 else none
 else
 inrO (bif decide (h < (List.length a : Int)) then
 bif decide ((0 : Int) ≤ h ∧ h < (List.length a : Int)) then
 bif decide (Int.toNat h < List.length a) then
 Option.bind (p55 fu (((List.getD a (Int.toNat h) (dflt T_runtime_errorAddressString)).1, (List.getD a (Int.toNat h) (dflt T_runtime_errorAddressString)).2, ()), (c, f, ()), ())) fun ⟨_, k⟩ =>
 some ((), (h, (k == (0 : Int)), ()))
 else none
 else none
 else
 some ((), (h, false, ()))))
 (((0 : Int), (List.length a : Int), ()), ())
def e71 (fu : Nat) : Ent := ⟨71, (.cons (.hole (.sl T_runtime_errorAddressString)) (.cons (.agg 2 (.cons (.hole .str) (.cons (.hole (.int .u64)) .nil))) (.cons (.clo 55 0 .nil 0 .nil) .nil))), .nil, (.tup 2 (.cons (.hole (.int .i64)) (.cons (.hole .bool) .nil))), p71 fu⟩
def d71 (fu : Nat) : DC := (.seq (.region [opD 4 (.box 40 2 (tD 1)), opD 6 (.mov (cD 0)), opD 7 (.mov (.const vB))] [[], [], [1]] false) (.seq (.region [mvD 12 0, opD 13 (.len false (tD 12)), mvD 8 13] [[], [0], [1, 0, 1]] false) (.seq (.region [mvD 14 8, opD 9 (.mov (cD 0)), mvD 10 14] [[], [], [0, 1, 0, 1]] false) (.seq (.block 0 (.loop ⟨[9, 10], (.cons (.hole (.int .i64)) (.cons (.hole (.int .i64)) .nil)), [], .nil, [0, 2, 4, 8], [0]⟩
 (.seq (.seq (.region [mvD 15 9, mvD 16 10, opD 17 (.bin .lss (tD 15) (tD 16))] [[], [], [0, 1]] false) (.cond (.tmp 17) .skip (.exit 0))) (.block 1 (.seq (.region [mvD 18 9, mvD 19 10, opD 20 (.bin .add (tD 18) (tD 19)), opD 21 (.conv .u64 (tD 20)), opD 22 (.bin .shr (tD 21) (.const (.int .u64 1))), opD 23 (.conv .i64 (tD 22)), mvD 11 23] [[], [], [0, 1], [2], [3], [4], [5, 0, 1, 2, 3, 4, 5]] false) (.seq (.region [mvD 24 2, mvD 25 0, mvD 26 11, opD 27 (.iaddr 2 (tD 25) (tD 26)), opD 28 (.load true 2 (tD 27)), opD 29 (.load true 2 (tD 4)), oqD 30 (.callv (tD 24) [(tD 28), (tD 29)]) (.ent (e55 fu)), opD 31 (.bin .lss (tD 30) (cD 0))] [[], [], [], [1, 2], [3], [], [0, 4, 5], [6]] true) (.cond (.tmp 31) (.region [mvD 32 11, opD 33 (.bin .add (tD 32) (cD 1)), mvD 9 33] [[], [0], [1, 0, 1]] false) (.region [mvD 34 11, mvD 10 34] [[], [0, 0]] false)))))))) (.seq (.region [mvD 35 9, mvD 36 9, mvD 37 8, opD 38 (.bin .lss (tD 36) (tD 37)), mvD 39 38, ogD 40 39 true (.mov (tD 2)), ogD 41 39 true (.mov (tD 0)), ogD 42 39 true (.mov (tD 9)), ogD 43 39 true (.iaddr 2 (tD 41) (tD 42)), ogD 44 39 true (.load true 2 (tD 43)), ogD 45 39 true (.load true 2 (tD 4)), (⟨(some 46), (some (39, true)), (.callv (tD 40) [(tD 44), (tD 45)])⟩, (.ent (e55 fu))), ogD 47 39 true (.bin .eql (tD 46) (cD 0)), opD 48 (.pick (tD 39) (tD 47) (.const vB)), mvD 6 35, mvD 7 48] [[], [], [], [1, 2], [3], [4], [4], [4], [6, 7, 4], [8, 4], [4], [5, 9, 10, 4, 4], [11, 4], [4, 12], [0, 11, 0], [13, 14, 0, 1, 2, 3, 4, 5, 6, 7, 8, 9, 10, 11, 12, 13, 14]] true) .ret)))))
set_option maxRecDepth 1000000 in
theorem v71 (fu : Nat) : evF fu (d71 fu) rs71 49 (e71 fu).ash (e71 fu).osh (e71 fu).vsh = p71 fu := by kernel_rfl
set_option maxRecDepth 1000000 in
theorem b71 (fu : Nat) : BodyD Try.prog 71 49 (d71 fu).erase rs71 := bodyD_mk Try.func71 (by kernel_rfl) (by kernel_rfl) (by kernel_rfl) (by kernel_rfl)
theorem g71 (fu : Nat) : (e71 fu).Good Try.prog := good_by orders (b71 fu) (l := [e55 fu, e55 fu]) (by kernel_rfl) ⟨g55 fu, g55 fu, trivial⟩ (by kernel_rfl) (v71 fu)
def rs72 : List RVx := [(.tmp 2)]
/-- gazette/copies.List[gazette/api.Consumer] -/
def p72 (_ : Nat) : (List (D_runtime_errorAddressString)) × (Unit) → Option ((Unit) × (List (D_runtime_errorAddressString))) := fun ⟨a, _⟩ =>
bif ((List.length a : Int) == (0 : Int)) then
 some ((), [])
else
 bif decide ((0 : Int) ≤ (List.length a : Int) ∧ ((List.length a : Int) : Int) ≤ (List.length a : Int) ∧ ((List.length a : Int) : Int) ≤ 9223372036854775807 ∧ (24 : Int) * (List.length a : Int) ≤ 140737488355328) then
 bif decide (Int.toNat (List.length a : Int) = List.length (List.replicate (Int.toNat (List.length a : Int)) ((⟨#[]⟩ : ByteArray), (0 : Int)) : List (D_runtime_errorAddressString))) then
 bif decide (Int.toNat (List.length a : Int) = List.length (copyL (List.replicate (Int.toNat (List.length a : Int)) ((⟨#[]⟩ : ByteArray), (0 : Int)) : List (D_runtime_errorAddressString)) 0 (Int.toNat (List.length a : Int)) a)) then
 some ((), (copyL (List.replicate (Int.toNat (List.length a : Int)) ((⟨#[]⟩ : ByteArray), (0 : Int)) : List (D_runtime_errorAddressString)) 0 (Int.toNat (List.length a : Int)) a))
 else none
 else none
 else none
def e72 (fu : Nat) : Ent := ⟨72, (.cons (.hole (.sl T_runtime_errorAddressString)) .nil), .nil, (.own .own 40 T_runtime_errorAddressString), p72 fu⟩
def d72 (_ : Nat) : DC := (.seq (.region [opD 2 (.mov (.const vS))] [[]] false) (.seq (.seq (.region [mvD 4 0, opD 5 (.len false (tD 4)), opD 6 (.bin .eql (tD 5) (cD 0))] [[], [0], [1]] false) (.cond (.tmp 6) (.seq (.region [opD 2 (.mov (.const vS))] [[]] false) .ret) .skip)) (.seq (.region [mvD 7 0, opD 8 (.len false (tD 7)), oqD 9 (.make false 40 2 [vT, vU] 24 (tD 8) (tD 8)) (.ty T_runtime_errorAddressString), mvD 3 9] [[], [0], [1, 1], [2, 0, 1, 2]] false) (.seq (.region [mvD 10 3, mvD 11 0, opD 12 (.copy 2 (tD 10) (tD 11))] [[], [], [0, 1]] false) (.seq (.region [mvD 13 3, mvD 2 13] [[], [0, 0]] false) .ret)))))
set_option maxRecDepth 1000000 in
theorem v72 (fu : Nat) : evF fu (d72 fu) rs72 14 (e72 fu).ash (e72 fu).osh (e72 fu).vsh = p72 fu := by kernel_rfl
set_option maxRecDepth 1000000 in
theorem b72 (fu : Nat) : BodyD Try.prog 72 14 (d72 fu).erase rs72 := bodyD_mk Try.func72 (by kernel_rfl) (by kernel_rfl) (by kernel_rfl) (by kernel_rfl)
theorem g72 (fu : Nat) : (e72 fu).Good Try.prog := good_by orders (b72 fu) (l := []) (by kernel_rfl) trivial (by kernel_rfl) (v72 fu)
def rs54 : List RVx := [(.tmp 6)]
/-- gazette/records.place[gazette/api.Consumer] -/
def p54 (fu : Nat) : (List (D_runtime_errorAddressString)) × (((ByteArray) × ((Int) × (Unit))) × (((Unit) × (Unit)) × (Unit))) → Option ((Unit) × (List (D_runtime_errorAddressString))) := fun ⟨a, ⟨c, f, _⟩, ⟨_, _⟩, _⟩ =>
Option.bind (p71 fu (a, (c, f, ()), ((), ()), ())) fun ⟨_, ⟨h, i, _⟩⟩ =>
Option.bind (p72 fu (a, ())) fun ⟨_, j⟩ =>
bif i then
 bif decide ((0 : Int) ≤ h ∧ h < (List.length j : Int)) then
 bif decide (Int.toNat h < List.length j) then
 bif decide (List.length j = List.length (List.set j (Int.toNat h) (c, f))) then
 some ((), (List.set j (Int.toNat h) (c, f)))
 else none
 else none
 else none
else
 bif decide (List.length j = List.length j) then
 Option.bind (pInsertC fu (j, h, [(c, f)], ())) fun ⟨⟨_, _, _⟩, k⟩ =>
 bif decide (List.length k = List.length k) then
 some ((), k)
 else none
 else none
def e54 (fu : Nat) : Ent := ⟨54, (.cons (.hole (.sl T_runtime_errorAddressString)) (.cons (.agg 2 (.cons (.hole .str) (.cons (.hole (.int .u64)) .nil))) (.cons (.clo 55 0 .nil 0 .nil) .nil))), .nil, (.own .own 40 T_runtime_errorAddressString), p54 fu⟩
def d54 (fu : Nat) : DC := (.seq (.region [opD 4 (.box 40 2 (tD 1)), opD 6 (.mov (.const vS))] [[], []] false) (.seq (.region [mvD 11 0, opD 12 (.load true 2 (tD 4)), mvD 13 2, oqD 14 (.call 71 [(tD 11), (tD 12), (tD 13)]) (.ent (e71 fu)), mvD 10 14, opD 15 (.ext (tD 10) 0), opD 16 (.ext (tD 10) 1), mvD 7 15, mvD 8 16] [[], [], [], [0, 1, 2], [3], [4], [4], [5, 3, 0, 1, 2, 3, 4, 5], [6, 7, 0, 1, 2, 3, 4, 5, 6, 7]] false) (.seq (.region [mvD 17 0, oqD 18 (.call 72 [(tD 17)]) (.ent (e72 fu)), mvD 9 18] [[], [0], [1, 1, 0, 1]] false) (.seq (.seq (.region [mvD 19 8] [[]] false) (.cond (.tmp 19) (.seq (.region [mvD 20 9, mvD 21 7, opD 22 (.load true 2 (tD 4)), opD 23 (.iaddr 2 (tD 20) (tD 21)), onD (.store 2 (tD 23) (tD 22))] [[], [], [], [0, 1, 0, 1, 2], [3, 2, 0, 1, 2]] false) (.seq (.region [mvD 24 9, mvD 6 24] [[], [0, 0]] false) .ret)) .skip)) (.seq (.region [mvD 25 9, mvD 26 7, opD 27 (.load true 2 (tD 4)), oqD 28 (.bslice 40 2 1 [vT, vU] [(0, (tD 27))]) (.ty T_runtime_errorAddressString), oqD 29 (.call 73 [(tD 25), (tD 26), (tD 28)]) (.ent (eInsertC fu)), mvD 6 29] [[], [], [], [2], [0, 1, 3], [4, 4, 0, 1, 2, 3, 4]] false) .ret)))))
set_option maxRecDepth 1000000 in
theorem v54 (fu : Nat) : evF fu (d54 fu) rs54 30 (e54 fu).ash (e54 fu).osh (e54 fu).vsh = p54 fu := by kernel_rfl
set_option maxRecDepth 1000000 in
theorem b54 (fu : Nat) : BodyD Try.prog 54 30 (d54 fu).erase rs54 := bodyD_mk Try.func54 (by kernel_rfl) (by kernel_rfl) (by kernel_rfl) (by kernel_rfl)
theorem g54 (fu : Nat) : (e54 fu).Good Try.prog := good_by orders (b54 fu) (l := [e71 fu, e72 fu, eInsertC fu]) (by kernel_rfl) ⟨g71 fu, g72 fu, gInsertC fu, trivial⟩ (by kernel_rfl) (v54 fu)
def rs19 : List RVx := [(.tmp 6), (.tmp 7)]
/-- gazette/records.Commit -/
def p19 (fu : Nat) : (List (D_runtime_errorAddressString)) × (((ByteArray) × ((Int) × (Unit))) × ((Int) × (Unit))) → Option ((Unit) × ((List (D_runtime_errorAddressString)) × ((Int) × (Unit)))) := fun ⟨a, ⟨c, f, _⟩, h, _⟩ =>
Option.bind (p39 fu (a, ())) fun ⟨_, i⟩ =>
bif !i then
 some ((), ([], (1 : Int), ()))
else
 Option.bind (p37 fu (c, ())) fun ⟨_, j⟩ =>
 bif !j then
 some ((), ([], (142 : Int), ()))
 else
 bif decide (f > h) then
 some ((), ([], (141 : Int), ()))
 else
 Option.bind (p54 fu (a, (c, f, ()), ((), ()), ())) fun ⟨_, k⟩ =>
 bif decide (((List.length k) : Int) ≤ (64 : Int)) then
 bif decide (List.length k = List.length k) then
 some ((), (k, (0 : Int), ()))
 else none
 else
 some ((), ([], (143 : Int), ()))
def e19 (fu : Nat) : Ent := ⟨19, (.cons (.hole (.sl T_runtime_errorAddressString)) (.cons (.agg 2 (.cons (.hole .str) (.cons (.hole (.int .u64)) .nil))) (.cons (.hole (.int .u64)) .nil))), .nil, (.tup 2 (.cons (.own .own 40 T_runtime_errorAddressString) (.cons (.hole (.int .i64)) .nil))), p19 fu⟩
def d19 (fu : Nat) : DC := (.seq (.region [opD 4 (.box 40 2 (tD 1)), opD 6 (.mov (.const vS)), opD 7 (.mov (cD 0))] [[], [], [1]] false) (.seq (.block 0 (.seq (.region [mvD 10 0, oqD 11 (.call 39 [(tD 10)]) (.ent (e39 fu)), opD 12 (.not (tD 11)), mvD 9 12] [[], [0], [1], [2, 1]] false) (.cond (.tmp 9) (.seq (.region [opD 6 (.mov (.const vS)), opD 7 (.mov (cD 1))] [[], [0, 0]] false) .ret) (.seq (.region [opD 14 (.faddr 0 (tD 4)), opD 15 (.load false 1 (tD 14)), oqD 16 (.call 37 [(tD 15)]) (.ent (e37 fu)), opD 17 (.not (tD 16)), mvD 13 17] [[], [0], [1], [2], [3, 2]] false) (.cond (.tmp 13) (.seq (.region [opD 6 (.mov (.const vS)), opD 7 (.mov (cD 142))] [[], [0, 0]] false) .ret) (.seq (.region [opD 19 (.faddr 1 (tD 4)), opD 20 (.load false 1 (tD 19)), mvD 21 2, opD 22 (.bin .gtr (tD 20) (tD 21)), mvD 18 22] [[], [0], [], [1, 2], [3]] false) (.cond (.tmp 18) (.seq (.region [opD 6 (.mov (.const vS)), opD 7 (.mov (cD 141))] [[], [0, 0]] false) .ret) .skip))))))) (.seq (.seq (.region [mvD 23 0, opD 24 (.load true 2 (tD 4)), oqD 25 (.call 54 [(tD 23), (tD 24), (.func 55)]) (.ent (e54 fu)), mvD 8 25] [[], [], [0, 1], [2, 2, 0, 1, 2]] false) (.seq (.region [mvD 26 8, opD 27 (.len false (tD 26)), opD 28 (.bin .leq (tD 27) (cD 64))] [[], [0], [1]] false) (.cond (.tmp 28) (.seq (.region [mvD 29 8, mvD 6 29, opD 7 (.mov (cD 0))] [[], [0, 0], [1, 0, 1]] false) .ret) .skip))) (.seq (.region [opD 6 (.mov (.const vS)), opD 7 (.mov (cD 143))] [[], [0, 0]] false) .ret))))
set_option maxRecDepth 1000000 in
theorem v19 (fu : Nat) : evF fu (d19 fu) rs19 30 (e19 fu).ash (e19 fu).osh (e19 fu).vsh = p19 fu := by kernel_rfl
set_option maxRecDepth 1000000 in
theorem b19 (fu : Nat) : BodyD Try.prog 19 30 (d19 fu).erase rs19 := bodyD_mk Try.func19 (by kernel_rfl) (by kernel_rfl) (by kernel_rfl) (by kernel_rfl)
theorem g19 (fu : Nat) : (e19 fu).Good Try.prog := good_by orders (b19 fu) (l := [e39 fu, e37 fu, e54 fu]) (by kernel_rfl) ⟨g39 fu, g37 fu, g54 fu, trivial⟩ (by kernel_rfl) (v19 fu)
def rs38 : List RVx := [(.tmp 2)]
/-- gazette/gazetteref14.Name -/
def p38 (fu : Nat) : (ByteArray) × (Unit) → Option ((Unit) × (Bool)) := fun ⟨a, _⟩ =>
bif decide ((ByteArray.size a : Int) < (1 : Int)) then
 some ((), false)
else
 bif decide ((ByteArray.size a : Int) > (32 : Int)) then
 some ((), false)
 else
 loopO (S := ((Int) × (Unit)) × (Unit)) fu (fun ⟨⟨c, _⟩, _⟩ =>
 bif decide (c < (ByteArray.size a : Int)) then
 bif decide ((0 : Int) ≤ c ∧ c < (ByteArray.size a : Int)) then
 bif decide ((bAt a (Int.toNat c)) < (97 : Int)) then
 bif decide ((bAt a (Int.toNat c)) < (48 : Int)) then
 bif ((bAt a (Int.toNat c)) != (45 : Int)) then
 bif ((bAt a (Int.toNat c)) != (95 : Int)) then
 bif ((bAt a (Int.toNat c)) != (46 : Int)) then
 inrO (some ((), false))
 else
 some (.inl ((IntKind.wrap .i64 (c + (1 : Int)), ()), ()))
 else
 some (.inl ((IntKind.wrap .i64 (c + (1 : Int)), ()), ()))
 else
 some (.inl ((IntKind.wrap .i64 (c + (1 : Int)), ()), ()))
 else
 bif decide ((bAt a (Int.toNat c)) > (57 : Int)) then
 bif ((bAt a (Int.toNat c)) != (45 : Int)) then
 bif ((bAt a (Int.toNat c)) != (95 : Int)) then
 bif ((bAt a (Int.toNat c)) != (46 : Int)) then
 inrO (some ((), false))
 else
 some (.inl ((IntKind.wrap .i64 (c + (1 : Int)), ()), ()))
 else
 some (.inl ((IntKind.wrap .i64 (c + (1 : Int)), ()), ()))
 else
 some (.inl ((IntKind.wrap .i64 (c + (1 : Int)), ()), ()))
 else
 some (.inl ((IntKind.wrap .i64 (c + (1 : Int)), ()), ()))
 else
 bif decide ((bAt a (Int.toNat c)) > (122 : Int)) then
 bif decide ((bAt a (Int.toNat c)) < (48 : Int)) then
 bif ((bAt a (Int.toNat c)) != (45 : Int)) then
 bif ((bAt a (Int.toNat c)) != (95 : Int)) then
 bif ((bAt a (Int.toNat c)) != (46 : Int)) then
 inrO (some ((), false))
 else
 some (.inl ((IntKind.wrap .i64 (c + (1 : Int)), ()), ()))
 else
 some (.inl ((IntKind.wrap .i64 (c + (1 : Int)), ()), ()))
 else
 some (.inl ((IntKind.wrap .i64 (c + (1 : Int)), ()), ()))
 else
 bif decide ((bAt a (Int.toNat c)) > (57 : Int)) then
 bif ((bAt a (Int.toNat c)) != (45 : Int)) then
 bif ((bAt a (Int.toNat c)) != (95 : Int)) then
 bif ((bAt a (Int.toNat c)) != (46 : Int)) then
 inrO (some ((), false))
 else
 some (.inl ((IntKind.wrap .i64 (c + (1 : Int)), ()), ()))
 else
 some (.inl ((IntKind.wrap .i64 (c + (1 : Int)), ()), ()))
 else
 some (.inl ((IntKind.wrap .i64 (c + (1 : Int)), ()), ()))
 else
 some (.inl ((IntKind.wrap .i64 (c + (1 : Int)), ()), ()))
 else
 some (.inl ((IntKind.wrap .i64 (c + (1 : Int)), ()), ()))
 else none
 else
 inrO (some ((), true)))
 (((0 : Int), ()), ())
def e38 (fu : Nat) : Ent := ⟨38, (.cons (.hole .str) .nil), .nil, (.hole .bool), p38 fu⟩
def d38 (_ : Nat) : DC := (.seq (.region [opD 2 (.mov (.const vB))] [[]] false) (.seq (.seq (.region [mvD 5 0, opD 6 (.len true (tD 5)), opD 7 (.bin .lss (tD 6) (cD 1)), mvD 8 7, ogD 9 8 false (.mov (tD 0)), ogD 10 8 false (.len true (tD 9)), ogD 11 8 false (.bin .gtr (tD 10) (cD 32)), opD 12 (.pick (tD 8) (.const (.bool true)) (tD 11))] [[], [0], [1], [2], [3], [4, 3], [5, 3], [3, 6]] false) (.cond (.tmp 12) (.seq (.region [opD 2 (.mov (.const vB))] [[]] false) .ret) .skip)) (.seq (.seq (.region [opD 3 (.mov (cD 0))] [[]] false) (.block 0 (.loop ⟨[3], (.cons (.hole (.int .i64)) .nil), [], .nil, [0], []⟩
 (.seq (.seq (.region [mvD 13 3, mvD 14 0, opD 15 (.len true (tD 14)), opD 16 (.bin .lss (tD 13) (tD 15))] [[], [], [1], [0, 2]] false) (.cond (.tmp 16) .skip (.exit 0))) (.seq (.block 1 (.seq (.region [mvD 19 0, mvD 20 3, opD 21 (.pure .sidx [(tD 19), (tD 20)]), mvD 4 21] [[], [], [0, 1], [2, 0, 1, 2]] false) (.seq (.region [mvD 22 4, opD 23 (.bin .lss (tD 22) (.const (.int .u8 97))), mvD 24 23, ogD 25 24 false (.mov (tD 4)), ogD 26 24 false (.bin .gtr (tD 25) (.const (.int .u8 122))), opD 27 (.pick (tD 24) (.const (.bool true)) (tD 26)), mvD 28 27, ogD 29 28 true (.mov (tD 4)), ogD 30 28 true (.bin .lss (tD 29) (.const (.int .u8 48))), ogD 31 28 true (.mov (tD 30)), ogD 32 31 false (.mov (tD 4)), ogD 33 31 false (.bin .gtr (tD 32) (.const (.int .u8 57))), ogD 34 28 true (.pick (tD 31) (.const (.bool true)) (tD 33)), opD 35 (.pick (tD 28) (tD 34) (.const vB)), mvD 36 35, ogD 37 36 true (.mov (tD 4)), ogD 38 36 true (.bin .neq (tD 37) (.const (.int .u8 45))), opD 39 (.pick (tD 36) (tD 38) (.const vB)), mvD 40 39, ogD 41 40 true (.mov (tD 4)), ogD 42 40 true (.bin .neq (tD 41) (.const (.int .u8 95))), opD 43 (.pick (tD 40) (tD 42) (.const vB)), mvD 44 43, ogD 45 44 true (.mov (tD 4)), ogD 46 44 true (.bin .neq (tD 45) (.const (.int .u8 46))), opD 47 (.pick (tD 44) (tD 46) (.const vB))] [[], [0], [1], [2], [3, 2], [2, 4], [5, 2], [6], [7, 6], [8, 6, 6], [9], [10, 9], [9, 11, 6], [6, 12], [13, 9], [14], [15, 14], [14, 16], [17, 14], [18], [19, 18], [18, 20], [21, 18], [22], [23, 22], [22, 24]] false) (.cond (.tmp 47) (.seq (.region [opD 2 (.mov (.const vB))] [[]] false) .ret) .skip)))) (.region [mvD 17 3, opD 18 (.bin .add (tD 17) (cD 1)), mvD 3 18] [[], [0], [1, 0, 1]] false)))))) (.seq (.region [opD 2 (.mov (.const (.bool true)))] [[]] false) .ret))))
set_option maxRecDepth 1000000 in
theorem v38 (fu : Nat) : evF fu (d38 fu) rs38 48 (e38 fu).ash (e38 fu).osh (e38 fu).vsh = p38 fu := by kernel_rfl
set_option maxRecDepth 1000000 in
theorem b38 (fu : Nat) : BodyD Try.prog 38 48 (d38 fu).erase rs38 := bodyD_mk Try.func38 (by kernel_rfl) (by kernel_rfl) (by kernel_rfl) (by kernel_rfl)
theorem g38 (fu : Nat) : (e38 fu).Good Try.prog := good_by orders (b38 fu) (l := []) (by kernel_rfl) trivial (by kernel_rfl) (v38 fu)
def rs40 : List RVx := [(.tmp 2)]
/-- gazette/gazetteref14.Consumers -/
def p40 (fu : Nat) : (List (D_runtime_errorAddressString)) × (Unit) → Option ((Unit) × (Bool)) := fun ⟨a, _⟩ =>
bif decide ((List.length a : Int) > (64 : Int)) then
 some ((), false)
else
 loopO (S := ((Int) × (Unit)) × (Unit)) fu (fun ⟨⟨c, _⟩, _⟩ =>
 bif decide (c < (List.length a : Int)) then
 bif decide ((0 : Int) ≤ c ∧ c < (List.length a : Int)) then
 bif decide (Int.toNat c < List.length a) then
 Option.bind (p38 fu ((List.getD a (Int.toNat c) (dflt T_runtime_errorAddressString)).1, ())) fun ⟨_, f⟩ =>
 bif !f then
 inrO (some ((), false))
 else
 bif decide (c > (0 : Int)) then
 bif decide ((0 : Int) ≤ IntKind.wrap .i64 (c - (1 : Int)) ∧ IntKind.wrap .i64 (c - (1 : Int)) < (List.length a : Int)) then
 bif decide (Int.toNat (IntKind.wrap .i64 (c - (1 : Int))) < List.length a) then
 bif decide ((0 : Int) ≤ c ∧ c < (List.length a : Int)) then
 bif decide (Int.toNat c < List.length a) then
 bif !Op.bytesLess (ByteArray.toList ((List.getD a (Int.toNat (IntKind.wrap .i64 (c - (1 : Int)))) (dflt T_runtime_errorAddressString)).1)) (ByteArray.toList ((List.getD a (Int.toNat c) (dflt T_runtime_errorAddressString)).1)) then
 inrO (some ((), false))
 else
 some (.inl ((IntKind.wrap .i64 (c + (1 : Int)), ()), ()))
 else none
 else none
 else none
 else none
 else
 some (.inl ((IntKind.wrap .i64 (c + (1 : Int)), ()), ()))
 else none
 else none
 else
 inrO (some ((), true)))
 (((0 : Int), ()), ())
def e40 (fu : Nat) : Ent := ⟨40, (.cons (.hole (.sl T_runtime_errorAddressString)) .nil), .nil, (.hole .bool), p40 fu⟩
def d40 (fu : Nat) : DC := (.seq (.region [opD 2 (.mov (.const vB))] [[]] false) (.seq (.seq (.region [mvD 5 0, opD 6 (.len false (tD 5)), opD 7 (.bin .gtr (tD 6) (cD 64))] [[], [0], [1]] false) (.cond (.tmp 7) (.seq (.region [opD 2 (.mov (.const vB))] [[]] false) .ret) .skip)) (.seq (.seq (.region [opD 3 (.mov (cD 0))] [[]] false) (.block 0 (.loop ⟨[3], (.cons (.hole (.int .i64)) .nil), [], .nil, [0], []⟩
 (.seq (.seq (.region [mvD 8 3, mvD 9 0, opD 10 (.len false (tD 9)), opD 11 (.bin .lss (tD 8) (tD 10))] [[], [], [1], [0, 2]] false) (.cond (.tmp 11) .skip (.exit 0))) (.seq (.block 1 (.seq (.region [mvD 14 0, mvD 15 3, opD 16 (.iaddr 2 (tD 14) (tD 15)), opD 17 (.faddr 0 (tD 16)), opD 18 (.load false 1 (tD 17)), oqD 19 (.call 38 [(tD 18)]) (.ent (e38 fu)), mvD 4 19] [[], [], [0, 1], [2], [3], [4], [5, 5, 0, 1, 2, 3, 4, 5]] false) (.seq (.region [mvD 20 4, opD 21 (.not (tD 20)), mvD 22 21, ogD 23 22 false (.mov (tD 3)), ogD 24 22 false (.bin .gtr (tD 23) (cD 0)), ogD 25 22 false (.mov (tD 24)), ogD 26 25 true (.mov (tD 0)), ogD 27 25 true (.mov (tD 3)), ogD 28 25 true (.bin .sub (tD 27) (cD 1)), ogD 29 25 true (.iaddr 2 (tD 26) (tD 28)), ogD 30 25 true (.faddr 0 (tD 29)), ogD 31 25 true (.load false 1 (tD 30)), ogD 32 25 true (.mov (tD 0)), ogD 33 25 true (.mov (tD 3)), ogD 34 25 true (.iaddr 2 (tD 32) (tD 33)), ogD 35 25 true (.faddr 0 (tD 34)), ogD 36 25 true (.load false 1 (tD 35)), ogD 37 25 true (.bin .geq (tD 31) (tD 36)), ogD 38 22 false (.pick (tD 25) (tD 37) (.const vB)), opD 39 (.pick (tD 22) (.const (.bool true)) (tD 38))] [[], [0], [1], [2], [3, 2], [4, 2, 2], [5], [5], [7, 5], [6, 8, 5], [9, 5], [10, 5], [5], [5], [12, 13, 5], [14, 5], [15, 5], [11, 16, 5], [5, 17, 2], [2, 18]] true) (.cond (.tmp 39) (.seq (.region [opD 2 (.mov (.const vB))] [[]] false) .ret) .skip)))) (.region [mvD 12 3, opD 13 (.bin .add (tD 12) (cD 1)), mvD 3 13] [[], [0], [1, 0, 1]] false)))))) (.seq (.region [opD 2 (.mov (.const (.bool true)))] [[]] false) .ret))))
set_option maxRecDepth 1000000 in
theorem v40 (fu : Nat) : evF fu (d40 fu) rs40 40 (e40 fu).ash (e40 fu).osh (e40 fu).vsh = p40 fu := by kernel_rfl
set_option maxRecDepth 1000000 in
theorem b40 (fu : Nat) : BodyD Try.prog 40 40 (d40 fu).erase rs40 := bodyD_mk Try.func40 (by kernel_rfl) (by kernel_rfl) (by kernel_rfl) (by kernel_rfl)
theorem g40 (fu : Nat) : (e40 fu).Good Try.prog := good_by orders (b40 fu) (l := [e38 fu]) (by kernel_rfl) ⟨g38 fu, trivial⟩ (by kernel_rfl) (v40 fu)
def rs34 : List RVx := [(.tmp 4), (.tmp 5)]
/-- gazette/gazetteref14.Read -/
def p34 (fu : Nat) : (List (D_runtime_errorAddressString)) × ((ByteArray) × (Unit)) → Option ((Unit) × ((Int) × ((Bool) × (Unit)))) := fun ⟨a, c, _⟩ =>
loopO (S := ((Int) × (Unit)) × (Unit)) fu (fun ⟨⟨f, _⟩, _⟩ =>
 bif decide (f < (List.length a : Int)) then
 bif decide ((0 : Int) ≤ f ∧ f < (List.length a : Int)) then
 bif decide (Int.toNat f < List.length a) then
 bif ByteArray.toList ((List.getD a (Int.toNat f) (dflt T_runtime_errorAddressString)).1) == ByteArray.toList c then
 bif decide ((0 : Int) ≤ f ∧ f < (List.length a : Int)) then
 bif decide (Int.toNat f < List.length a) then
 inrO (some ((), ((List.getD a (Int.toNat f) (dflt T_runtime_errorAddressString)).2, true, ())))
 else none
 else none
 else
 some (.inl ((IntKind.wrap .i64 (f + (1 : Int)), ()), ()))
 else none
 else none
 else
 inrO (some ((), ((0 : Int), false, ()))))
 (((0 : Int), ()), ())
def e34 (fu : Nat) : Ent := ⟨34, (.cons (.hole (.sl T_runtime_errorAddressString)) (.cons (.hole .str) .nil)), .nil, (.tup 2 (.cons (.hole (.int .u64)) (.cons (.hole .bool) .nil))), p34 fu⟩
def d34 (_ : Nat) : DC := (.seq (.region [opD 4 (.mov (.const vU)), opD 5 (.mov (.const vB))] [[], [0]] false) (.seq (.seq (.region [opD 6 (.mov (cD 0))] [[]] false) (.block 0 (.loop ⟨[6], (.cons (.hole (.int .i64)) .nil), [], .nil, [0, 1], []⟩
 (.seq (.seq (.region [mvD 7 6, mvD 8 0, opD 9 (.len false (tD 8)), opD 10 (.bin .lss (tD 7) (tD 9))] [[], [], [1], [0, 2]] false) (.cond (.tmp 10) .skip (.exit 0))) (.seq (.block 1 (.seq (.region [mvD 13 0, mvD 14 6, opD 15 (.iaddr 2 (tD 13) (tD 14)), opD 16 (.faddr 0 (tD 15)), opD 17 (.load false 1 (tD 16)), mvD 18 1, opD 19 (.bin .eql (tD 17) (tD 18))] [[], [], [0, 1], [2], [3], [], [4, 5]] false) (.cond (.tmp 19) (.seq (.region [mvD 20 0, mvD 21 6, opD 22 (.iaddr 2 (tD 20) (tD 21)), opD 23 (.faddr 1 (tD 22)), opD 24 (.load false 1 (tD 23)), mvD 4 24, opD 5 (.mov (.const (.bool true)))] [[], [], [0, 1], [2], [3], [4, 0, 1, 2, 3, 4], [5, 0, 1, 2, 3, 4, 5]] false) .ret) .skip))) (.region [mvD 11 6, opD 12 (.bin .add (tD 11) (cD 1)), mvD 6 12] [[], [0], [1, 0, 1]] false)))))) (.seq (.region [opD 4 (.mov (.const vU)), opD 5 (.mov (.const vB))] [[], [0, 0]] false) .ret)))
set_option maxRecDepth 1000000 in
theorem v34 (fu : Nat) : evF fu (d34 fu) rs34 25 (e34 fu).ash (e34 fu).osh (e34 fu).vsh = p34 fu := by kernel_rfl
set_option maxRecDepth 1000000 in
theorem b34 (fu : Nat) : BodyD Try.prog 34 25 (d34 fu).erase rs34 := bodyD_mk Try.func34 (by kernel_rfl) (by kernel_rfl) (by kernel_rfl) (by kernel_rfl)
theorem g34 (fu : Nat) : (e34 fu).Good Try.prog := good_by orders (b34 fu) (l := []) (by kernel_rfl) trivial (by kernel_rfl) (v34 fu)
def rs62 : List RVx := [(.tmp 4)]
/-- gazette/gazetteref14.put -/
def p62 (fu : Nat) : (List (D_runtime_errorAddressString)) × (((ByteArray) × ((Int) × (Unit))) × (Unit)) → Option ((Unit) × (List (D_runtime_errorAddressString))) := fun ⟨a, ⟨c, f, _⟩, _⟩ =>
loopO (S := ((List (D_runtime_errorAddressString)) × ((Bool) × ((Int) × (Unit)))) × (Unit)) fu (fun ⟨⟨h, i, j, _⟩, _⟩ =>
 bif decide (j < (List.length a : Int)) then
 orK (E := ((List (D_runtime_errorAddressString)) × ((Bool) × (Unit))) × (Unit))
 (orK (E := ((Bool) × (Unit)) × (Unit))
 (bif decide ((0 : Int) ≤ j ∧ j < (List.length a : Int)) then
 bif decide (Int.toNat j < List.length a) then
 bif !Op.bytesLess (ByteArray.toList ((List.getD a (Int.toNat j) (dflt T_runtime_errorAddressString)).1)) (ByteArray.toList c) then
 some (.inl ((!i, ()), ()))
 else
 some (.inl ((false, ()), ()))
 else none
 else none)
 fun ⟨⟨k, _⟩, _⟩ =>
 bif k then
 bif decide (List.length h = List.length h) then
 bif decide (List.length h + List.length ([(c, f)]) ≤ maxLen ∧ (List.length h + List.length ([(c, f)])) * 24 ≤ 140737488355328) then
 bif decide (List.length (h ++ [(c, f)]) = List.length (h ++ [(c, f)])) then
 some (.inl (((h ++ [(c, f)]), true, ()), ()))
 else none
 else none
 else none
 else
 bif decide (List.length h = List.length h) then
 some (.inl ((h, i, ()), ()))
 else none)
 fun ⟨⟨h, i, _⟩, _⟩ =>
 bif decide ((0 : Int) ≤ j ∧ j < (List.length a : Int)) then
 bif decide (Int.toNat j < List.length a) then
 bif !(ByteArray.toList ((List.getD a (Int.toNat j) (dflt T_runtime_errorAddressString)).1) == ByteArray.toList c) then
 bif decide ((0 : Int) ≤ j ∧ j < (List.length a : Int)) then
 bif decide (Int.toNat j < List.length a) then
 bif decide (List.length h = List.length h) then
 bif decide (List.length h + List.length ([((List.getD a (Int.toNat j) (dflt T_runtime_errorAddressString)).1, (List.getD a (Int.toNat j) (dflt T_runtime_errorAddressString)).2)]) ≤ maxLen ∧ (List.length h + List.length ([((List.getD a (Int.toNat j) (dflt T_runtime_errorAddressString)).1, (List.getD a (Int.toNat j) (dflt T_runtime_errorAddressString)).2)])) * 24 ≤ 140737488355328) then
 bif decide (List.length (h ++ [((List.getD a (Int.toNat j) (dflt T_runtime_errorAddressString)).1, (List.getD a (Int.toNat j) (dflt T_runtime_errorAddressString)).2)]) = List.length (h ++ [((List.getD a (Int.toNat j) (dflt T_runtime_errorAddressString)).1, (List.getD a (Int.toNat j) (dflt T_runtime_errorAddressString)).2)])) then
 some (.inl (((h ++ [((List.getD a (Int.toNat j) (dflt T_runtime_errorAddressString)).1, (List.getD a (Int.toNat j) (dflt T_runtime_errorAddressString)).2)]), i, IntKind.wrap .i64 (j + (1 : Int)), ()), ()))
 else none
 else none
 else none
 else none
 else none
 else
 bif decide (List.length h = List.length h) then
 some (.inl ((h, i, IntKind.wrap .i64 (j + (1 : Int)), ()), ()))
 else none
 else none
 else none
 else
 inrO (bif !i then
 bif decide (List.length h = List.length h) then
 bif decide (List.length h + List.length ([(c, f)]) ≤ maxLen ∧ (List.length h + List.length ([(c, f)])) * 24 ≤ 140737488355328) then
 bif decide (List.length (h ++ [(c, f)]) = List.length (h ++ [(c, f)])) then
 some ((), (h ++ [(c, f)]))
 else none
 else none
 else none
 else
 bif decide (List.length h = List.length h) then
 some ((), h)
 else none))
 (([], false, (0 : Int), ()), ())
def e62 (fu : Nat) : Ent := ⟨62, (.cons (.hole (.sl T_runtime_errorAddressString)) (.cons (.agg 2 (.cons (.hole .str) (.cons (.hole (.int .u64)) .nil))) .nil)), .nil, (.own .own 40 T_runtime_errorAddressString), p62 fu⟩
def d62 (_ : Nat) : DC := (.seq (.region [opD 3 (.box 40 2 (tD 1)), opD 4 (.mov (.const vS))] [[], []] false) (.seq (.region [opD 5 (.mov (.const vS))] [[]] false) (.seq (.region [opD 6 (.mov (.const vB))] [[]] false) (.seq (.seq (.region [opD 7 (.mov (cD 0))] [[]] false) (.block 0 (.loop ⟨[5, 6, 7], (.cons (.own .own 40 T_runtime_errorAddressString) (.cons (.hole .bool) (.cons (.hole (.int .i64)) .nil))), [], .nil, [0, 3], [0]⟩
 (.seq (.seq (.region [mvD 8 7, mvD 9 0, opD 10 (.len false (tD 9)), opD 11 (.bin .lss (tD 8) (tD 10))] [[], [], [1], [0, 2]] false) (.cond (.tmp 11) .skip (.exit 0))) (.seq (.block 1 (.join ⟨[5, 6], (.cons (.own .own 40 T_runtime_errorAddressString) (.cons (.hole .bool) .nil)), [], .nil, [0, 3, 7], [0]⟩
 (.join ⟨[25], (.cons (.hole .bool) .nil), [], .nil, [0, 3, 5, 6, 7], [0, 80]⟩
 (.region [mvD 14 0, mvD 15 7, opD 16 (.iaddr 2 (tD 14) (tD 15)), opD 17 (.faddr 0 (tD 16)), opD 18 (.load false 1 (tD 17)), opD 19 (.faddr 0 (tD 3)), opD 20 (.load false 1 (tD 19)), opD 21 (.bin .geq (tD 18) (tD 20)), mvD 22 21, ogD 23 22 true (.mov (tD 6)), ogD 24 22 true (.not (tD 23)), opD 25 (.pick (tD 22) (tD 24) (.const vB))] [[], [], [0, 1], [2], [3], [], [5], [4, 6], [7], [8], [9, 8], [8, 10]] true)
 (.cond (.tmp 25) (.seq (.region [mvD 26 5, opD 27 (.load true 2 (tD 3)), oqD 28 (.bslice 40 2 1 [vT, vU] [(0, (tD 27))]) (.ty T_runtime_errorAddressString), oqD 29 (.app 40 2 [vT, vU] 24 (tD 26) (tD 28)) (.ty T_runtime_errorAddressString), mvD 5 29] [[], [], [1], [0, 2], [3, 3, 0, 1, 2, 3]] false) (.region [opD 6 (.mov (.const (.bool true)))] [[]] false)) .skip))
 (.seq (.region [mvD 30 0, mvD 31 7, opD 32 (.iaddr 2 (tD 30) (tD 31)), opD 33 (.faddr 0 (tD 32)), opD 34 (.load false 1 (tD 33)), opD 35 (.faddr 0 (tD 3)), opD 36 (.load false 1 (tD 35)), opD 37 (.bin .neq (tD 34) (tD 36))] [[], [], [0, 1], [2], [3], [], [5], [4, 6]] true) (.cond (.tmp 37) (.region [mvD 38 5, mvD 39 0, mvD 40 7, opD 41 (.iaddr 2 (tD 39) (tD 40)), opD 42 (.load true 2 (tD 41)), oqD 43 (.bslice 40 2 1 [vT, vU] [(0, (tD 42))]) (.ty T_runtime_errorAddressString), oqD 44 (.app 40 2 [vT, vU] 24 (tD 38) (tD 43)) (.ty T_runtime_errorAddressString), mvD 5 44] [[], [], [], [1, 2], [3], [4], [0, 5], [6, 6, 0, 1, 2, 3, 4, 5, 6]] false) .skip)))) (.region [mvD 12 7, opD 13 (.bin .add (tD 12) (cD 1)), mvD 7 13] [[], [0], [1, 0, 1]] false)))))) (.seq (.seq (.region [mvD 45 6, opD 46 (.not (tD 45))] [[], [0]] false) (.cond (.tmp 46) (.region [mvD 47 5, opD 48 (.load true 2 (tD 3)), oqD 49 (.bslice 40 2 1 [vT, vU] [(0, (tD 48))]) (.ty T_runtime_errorAddressString), oqD 50 (.app 40 2 [vT, vU] 24 (tD 47) (tD 49)) (.ty T_runtime_errorAddressString), mvD 5 50] [[], [], [1], [0, 2], [3, 3, 0, 1, 2, 3]] false) .skip)) (.seq (.region [mvD 51 5, mvD 4 51] [[], [0, 0]] false) .ret))))))
set_option maxRecDepth 1000000 in
theorem v62 (fu : Nat) : evF fu (d62 fu) rs62 52 (e62 fu).ash (e62 fu).osh (e62 fu).vsh = p62 fu := by kernel_rfl
set_option maxRecDepth 1000000 in
theorem b62 (fu : Nat) : BodyD Try.prog 62 52 (d62 fu).erase rs62 := bodyD_mk Try.func62 (by kernel_rfl) (by kernel_rfl) (by kernel_rfl) (by kernel_rfl)
theorem g62 (fu : Nat) : (e62 fu).Good Try.prog := good_by orders (b62 fu) (l := []) (by kernel_rfl) trivial (by kernel_rfl) (v62 fu)
def rs31 : List RVx := [(.tmp 6), (.tmp 7)]
/-- gazette/gazetteref14.Commit -/
def p31 (fu : Nat) : (List (D_runtime_errorAddressString)) × (((ByteArray) × ((Int) × (Unit))) × ((Int) × (Unit))) → Option ((Unit) × ((List (D_runtime_errorAddressString)) × ((Int) × (Unit)))) := fun ⟨a, ⟨c, f, _⟩, h, _⟩ =>
Option.bind (p40 fu (a, ())) fun ⟨_, i⟩ =>
Option.bind (p38 fu (c, ())) fun ⟨_, j⟩ =>
Option.bind (p34 fu (a, c, ())) fun ⟨_, ⟨_, k, _⟩⟩ =>
orK (E := (Unit) × (Unit))
 (bif !i then
 inrO (some ((), ([], (1 : Int), ())))
 else
 bif !j then
 inrO (some ((), ([], (142 : Int), ())))
 else
 bif decide (f > h) then
 inrO (some ((), ([], (141 : Int), ())))
 else
 bif !k then
 bif decide ((List.length a : Int) ≥ (64 : Int)) then
 inrO (some ((), ([], (143 : Int), ())))
 else
 some (.inl ((), ()))
 else
 some (.inl ((), ())))
 fun ⟨_, _⟩ =>
Option.bind (p62 fu (a, (c, f, ()), ())) fun ⟨_, l⟩ =>
bif decide (List.length l = List.length l) then
 some ((), (l, (0 : Int), ()))
else none
def e31 (fu : Nat) : Ent := ⟨31, (.cons (.hole (.sl T_runtime_errorAddressString)) (.cons (.agg 2 (.cons (.hole .str) (.cons (.hole (.int .u64)) .nil))) (.cons (.hole (.int .u64)) .nil))), .nil, (.tup 2 (.cons (.own .own 40 T_runtime_errorAddressString) (.cons (.hole (.int .i64)) .nil))), p31 fu⟩
def d31 (fu : Nat) : DC := (.seq (.region [opD 4 (.box 40 2 (tD 1)), opD 6 (.mov (.const vS)), opD 7 (.mov (cD 0))] [[], [], [1]] false) (.seq (.region [mvD 12 0, oqD 13 (.call 40 [(tD 12)]) (.ent (e40 fu)), mvD 8 13] [[], [0], [1, 1, 0, 1]] false) (.seq (.region [opD 14 (.faddr 0 (tD 4)), opD 15 (.load false 1 (tD 14)), oqD 16 (.call 38 [(tD 15)]) (.ent (e38 fu)), mvD 9 16] [[], [0], [1], [2, 2, 0, 1, 2]] false) (.seq (.region [mvD 18 0, opD 19 (.faddr 0 (tD 4)), opD 20 (.load false 1 (tD 19)), oqD 21 (.call 34 [(tD 18), (tD 20)]) (.ent (e34 fu)), mvD 17 21, opD 22 (.ext (tD 17) 0), opD 23 (.ext (tD 17) 1), mvD 10 22, mvD 11 23] [[], [], [1], [0, 2], [3], [4], [4], [5, 3, 0, 1, 2, 3, 4, 5], [6, 7, 0, 1, 2, 3, 4, 5, 6, 7]] false) (.join ⟨[], .nil, [], .nil, [0, 4], [0]⟩
 (.block 0 (.seq (.region [mvD 25 8, opD 26 (.not (tD 25)), mvD 24 26] [[], [0], [1]] false) (.cond (.tmp 24) (.seq (.region [opD 6 (.mov (.const vS)), opD 7 (.mov (cD 1))] [[], [0, 0]] false) .ret) (.seq (.region [mvD 28 9, opD 29 (.not (tD 28)), mvD 27 29] [[], [0], [1]] false) (.cond (.tmp 27) (.seq (.region [opD 6 (.mov (.const vS)), opD 7 (.mov (cD 142))] [[], [0, 0]] false) .ret) (.seq (.region [opD 31 (.faddr 1 (tD 4)), opD 32 (.load false 1 (tD 31)), mvD 33 2, opD 34 (.bin .gtr (tD 32) (tD 33)), mvD 30 34] [[], [0], [], [1, 2], [3]] false) (.cond (.tmp 30) (.seq (.region [opD 6 (.mov (.const vS)), opD 7 (.mov (cD 141))] [[], [0, 0]] false) .ret) (.seq (.region [mvD 36 11, opD 37 (.not (tD 36)), mvD 38 37, ogD 39 38 true (.mov (tD 0)), ogD 40 38 true (.len false (tD 39)), ogD 41 38 true (.bin .geq (tD 40) (cD 64)), opD 42 (.pick (tD 38) (tD 41) (.const vB)), mvD 35 42] [[], [0], [1], [2], [3, 2], [4, 2], [2, 5], [6, 2]] false) (.cond (.tmp 35) (.seq (.region [opD 6 (.mov (.const vS)), opD 7 (.mov (cD 143))] [[], [0, 0]] false) .ret) .skip)))))))))
 (.seq (.region [mvD 43 0, opD 44 (.load true 2 (tD 4)), oqD 45 (.call 62 [(tD 43), (tD 44)]) (.ent (e62 fu)), mvD 6 45, opD 7 (.mov (cD 0))] [[], [], [0, 1], [2, 2, 0, 1, 2], [3, 0, 1, 2, 3]] false) .ret))))))
set_option maxRecDepth 1000000 in
theorem v31 (fu : Nat) : evF fu (d31 fu) rs31 46 (e31 fu).ash (e31 fu).osh (e31 fu).vsh = p31 fu := by kernel_rfl
set_option maxRecDepth 1000000 in
theorem b31 (fu : Nat) : BodyD Try.prog 31 46 (d31 fu).erase rs31 := bodyD_mk Try.func31 (by kernel_rfl) (by kernel_rfl) (by kernel_rfl) (by kernel_rfl)
theorem g31 (fu : Nat) : (e31 fu).Good Try.prog := good_by orders (b31 fu) (l := [e40 fu, e38 fu, e34 fu, e62 fu]) (by kernel_rfl) ⟨g40 fu, g38 fu, g34 fu, g62 fu, trivial⟩ (by kernel_rfl) (v31 fu)
def rs32 : List RVx := [(.tmp 4)]
/-- gazette/gazetteref14.SameConsumers -/
def p32 (fu : Nat) : (List (D_runtime_errorAddressString)) × ((List (D_runtime_errorAddressString)) × (Unit)) → Option ((Unit) × (Bool)) := fun ⟨a, c, _⟩ =>
bif ((List.length a : Int) != (List.length c : Int)) then
 some ((), false)
else
 loopO (S := ((Int) × (Unit)) × (Unit)) fu (fun ⟨⟨f, _⟩, _⟩ =>
 bif decide (f < (List.length a : Int)) then
 bif decide ((0 : Int) ≤ f ∧ f < (List.length a : Int)) then
 bif decide (Int.toNat f < List.length a) then
 bif decide ((0 : Int) ≤ f ∧ f < (List.length c : Int)) then
 bif decide (Int.toNat f < List.length c) then
 bif !(((List.getD a (Int.toNat f) (dflt T_runtime_errorAddressString)).1) == ((List.getD c (Int.toNat f) (dflt T_runtime_errorAddressString)).1) && (((List.getD a (Int.toNat f) (dflt T_runtime_errorAddressString)).2) == ((List.getD c (Int.toNat f) (dflt T_runtime_errorAddressString)).2) && true)) then
 inrO (some ((), false))
 else
 some (.inl ((IntKind.wrap .i64 (f + (1 : Int)), ()), ()))
 else none
 else none
 else none
 else none
 else
 inrO (some ((), true)))
 (((0 : Int), ()), ())
def e32 (fu : Nat) : Ent := ⟨32, (.cons (.hole (.sl T_runtime_errorAddressString)) (.cons (.hole (.sl T_runtime_errorAddressString)) .nil)), .nil, (.hole .bool), p32 fu⟩
def d32 (_ : Nat) : DC := (.seq (.region [opD 4 (.mov (.const vB))] [[]] false) (.seq (.seq (.region [mvD 6 0, opD 7 (.len false (tD 6)), mvD 8 1, opD 9 (.len false (tD 8)), opD 10 (.bin .neq (tD 7) (tD 9))] [[], [0], [], [2], [1, 3]] false) (.cond (.tmp 10) (.seq (.region [opD 4 (.mov (.const vB))] [[]] false) .ret) .skip)) (.seq (.seq (.region [opD 5 (.mov (cD 0))] [[]] false) (.block 0 (.loop ⟨[5], (.cons (.hole (.int .i64)) .nil), [], .nil, [0, 1], []⟩
 (.seq (.seq (.region [mvD 11 5, mvD 12 0, opD 13 (.len false (tD 12)), opD 14 (.bin .lss (tD 11) (tD 13))] [[], [], [1], [0, 2]] false) (.cond (.tmp 14) .skip (.exit 0))) (.seq (.block 1 (.seq (.region [mvD 17 0, mvD 18 5, opD 19 (.iaddr 2 (tD 17) (tD 18)), opD 20 (.load true 2 (tD 19)), mvD 21 1, mvD 22 5, opD 23 (.iaddr 2 (tD 21) (tD 22)), opD 24 (.load true 2 (tD 23)), opD 25 (.seq true [.str, .int] (tD 20) (tD 24))] [[], [], [0, 1], [2], [], [], [4, 5], [6], [3, 7]] true) (.cond (.tmp 25) (.seq (.region [opD 4 (.mov (.const vB))] [[]] false) .ret) .skip))) (.region [mvD 15 5, opD 16 (.bin .add (tD 15) (cD 1)), mvD 5 16] [[], [0], [1, 0, 1]] false)))))) (.seq (.region [opD 4 (.mov (.const (.bool true)))] [[]] false) .ret))))
set_option maxRecDepth 1000000 in
theorem v32 (fu : Nat) : evF fu (d32 fu) rs32 26 (e32 fu).ash (e32 fu).osh (e32 fu).vsh = p32 fu := by kernel_rfl
set_option maxRecDepth 1000000 in
theorem b32 (fu : Nat) : BodyD Try.prog 32 26 (d32 fu).erase rs32 := bodyD_mk Try.func32 (by kernel_rfl) (by kernel_rfl) (by kernel_rfl) (by kernel_rfl)
theorem g32 (fu : Nat) : (e32 fu).Good Try.prog := good_by orders (b32 fu) (l := []) (by kernel_rfl) trivial (by kernel_rfl) (v32 fu)
def rs33 : List RVx := [(.tmp 4), (.tmp 5)]
/-- gazette/records.Read -/
def p33 (fu : Nat) : (List (D_runtime_errorAddressString)) × ((ByteArray) × (Unit)) → Option ((Unit) × ((Int) × ((Bool) × (Unit)))) := fun ⟨a, c, _⟩ =>
loopO (S := ((Int) × (Unit)) × (Unit)) fu (fun ⟨⟨f, _⟩, _⟩ =>
 bif decide (f < (List.length a : Int)) then
 bif decide ((0 : Int) ≤ f ∧ f < (List.length a : Int)) then
 bif decide (Int.toNat f < List.length a) then
 bif ByteArray.toList ((List.getD a (Int.toNat f) (dflt T_runtime_errorAddressString)).1) == ByteArray.toList c then
 inrO (some ((), ((List.getD a (Int.toNat f) (dflt T_runtime_errorAddressString)).2, true, ())))
 else
 some (.inl ((IntKind.wrap .i64 (f + (1 : Int)), ()), ()))
 else none
 else none
 else
 inrO (some ((), ((0 : Int), false, ()))))
 (((0 : Int), ()), ())
def e33 (fu : Nat) : Ent := ⟨33, (.cons (.hole (.sl T_runtime_errorAddressString)) (.cons (.hole .str) .nil)), .nil, (.tup 2 (.cons (.hole (.int .u64)) (.cons (.hole .bool) .nil))), p33 fu⟩
def d33 (_ : Nat) : DC := (.seq (.region [opD 4 (.mov (.const vU)), opD 5 (.mov (.const vB))] [[], [0]] false) (.seq (.seq (.region [mvD 8 0, opD 9 (.len false (tD 8)), opD 10 (.mov (cD 0))] [[], [0], []] false) (.block 0 (.loop ⟨[10], (.cons (.hole (.int .i64)) .nil), [], .nil, [1, 8, 9], []⟩
 (.seq (.region [opD 11 (.bin .lss (tD 10) (tD 9))] [[]] false) (.seq (.cond (.tmp 11) .skip (.exit 0)) (.seq (.block 1 (.seq (.region [opD 12 (.iaddr 2 (tD 8) (tD 10)), opD 13 (.load true 2 (tD 12)), opD 7 (.alloc 40 2 [vT, vU]), onD (.store 2 (tD 7) (tD 13))] [[], [0], [], [2, 1, 0, 1, 2]] false) (.seq (.region [opD 14 (.faddr 0 (tD 7)), opD 15 (.load false 1 (tD 14)), mvD 16 1, opD 17 (.bin .eql (tD 15) (tD 16))] [[], [0], [], [1, 2]] false) (.cond (.tmp 17) (.seq (.region [opD 18 (.faddr 1 (tD 7)), opD 19 (.load false 1 (tD 18)), mvD 4 19, opD 5 (.mov (.const (.bool true)))] [[], [0], [1, 0, 1], [2, 0, 1, 2]] false) .ret) .skip)))) (.region [opD 20 (.bin .add (tD 10) (cD 1)), mvD 10 20] [[], [0]] false))))))) (.seq (.region [opD 4 (.mov (.const vU)), opD 5 (.mov (.const vB))] [[], [0, 0]] false) .ret)))
set_option maxRecDepth 1000000 in
theorem v33 (fu : Nat) : evF fu (d33 fu) rs33 21 (e33 fu).ash (e33 fu).osh (e33 fu).vsh = p33 fu := by kernel_rfl
set_option maxRecDepth 1000000 in
theorem b33 (fu : Nat) : BodyD Try.prog 33 21 (d33 fu).erase rs33 := bodyD_mk Try.func33 (by kernel_rfl) (by kernel_rfl) (by kernel_rfl) (by kernel_rfl)
theorem g33 (fu : Nat) : (e33 fu).Good Try.prog := good_by orders (b33 fu) (l := []) (by kernel_rfl) trivial (by kernel_rfl) (v33 fu)
def rs52 : List RVx := [(.tmp 4)]
/-- (gazette/records.offsets).at -/
def p52 (_ : Nat) : (List (Int)) × ((Int) × (Unit)) → Option ((Unit) × (Int)) := fun ⟨a, c, _⟩ =>
bif decide ((0 : Int) ≤ (if IntKind.wrap .u64 (IntKind.wrap .i64 ((List.length a : Int) - (1 : Int))) < c then IntKind.wrap .u64 (IntKind.wrap .i64 ((List.length a : Int) - (1 : Int))) else c) ∧ (if IntKind.wrap .u64 (IntKind.wrap .i64 ((List.length a : Int) - (1 : Int))) < c then IntKind.wrap .u64 (IntKind.wrap .i64 ((List.length a : Int) - (1 : Int))) else c) < (List.length a : Int)) then
 bif decide (Int.toNat (if IntKind.wrap .u64 (IntKind.wrap .i64 ((List.length a : Int) - (1 : Int))) < c then IntKind.wrap .u64 (IntKind.wrap .i64 ((List.length a : Int) - (1 : Int))) else c) < List.length a) then
 some ((), (List.getD a (Int.toNat (if IntKind.wrap .u64 (IntKind.wrap .i64 ((List.length a : Int) - (1 : Int))) < c then IntKind.wrap .u64 (IntKind.wrap .i64 ((List.length a : Int) - (1 : Int))) else c)) (dflt (.int .u64))))
 else none
else none
def e52 (fu : Nat) : Ent := ⟨52, (.cons (.hole (.sl (.int .u64))) (.cons (.hole (.int .u64)) .nil)), .nil, (.hole (.int .u64)), p52 fu⟩
def d52 (_ : Nat) : DC := (.seq (.region [opD 4 (.mov (.const vU))] [[]] false) (.seq (.region [mvD 5 0, mvD 6 1, mvD 7 0, opD 8 (.len false (tD 7)), opD 9 (.bin .sub (tD 8) (cD 1)), opD 10 (.conv .u64 (tD 9)), opD 11 (.mm false (tD 6) (tD 10)), opD 12 (.iaddr 1 (tD 5) (tD 11)), opD 13 (.load false 1 (tD 12)), mvD 4 13] [[], [], [], [2], [3], [4], [1, 5], [0, 6], [7], [8, 0, 1, 2, 3, 4, 5, 6, 7, 8]] false) .ret))
set_option maxRecDepth 1000000 in
theorem v52 (fu : Nat) : evF fu (d52 fu) rs52 14 (e52 fu).ash (e52 fu).osh (e52 fu).vsh = p52 fu := by kernel_rfl
set_option maxRecDepth 1000000 in
theorem b52 (fu : Nat) : BodyD Try.prog 52 14 (d52 fu).erase rs52 := bodyD_mk Try.func52 (by kernel_rfl) (by kernel_rfl) (by kernel_rfl) (by kernel_rfl)
theorem g52 (fu : Nat) : (e52 fu).Good Try.prog := good_by orders (b52 fu) (l := []) (by kernel_rfl) trivial (by kernel_rfl) (v52 fu)
def rs69 : List RVx := [(.cell 3 true 2)]
/-- gazette/records.moved$1 -/
def p69 (fu : Nat) : ((ByteArray) × ((Int) × (Unit))) × (((((List (Int)) × (Unit)) × (Unit)) × (Unit)) × (Unit)) → Option ((((((List (Int)) × (Unit)) × (Unit)) × (Unit)) × (Unit)) × ((ByteArray) × ((Int) × (Unit)))) := fun ⟨⟨a, c, _⟩, ⟨⟨⟨f, _⟩, _⟩, _⟩, _⟩ =>
Option.bind (p52 fu (f, c, ())) fun ⟨_, h⟩ =>
some (((((f, ()), ()), ()), ()), (a, h, ()))
def e69 (fu : Nat) : Ent := ⟨69, (.cons (.agg 2 (.cons (.hole .str) (.cons (.hole (.int .u64)) .nil))) (.cons (.box 85 1 (.cons (.clo 52 1 (.cons (.hole (.sl (.int .u64))) .nil) 0 .nil) .nil)) .nil)), (.cons (.agg 1 (.cons (.clo 52 1 (.cons (.hole (.sl (.int .u64))) .nil) 0 .nil) .nil)) .nil), (.agg 2 (.cons (.hole .str) (.cons (.hole (.int .u64)) .nil))), p69 fu⟩
def d69 (fu : Nat) : DC := (.seq (.region [opD 2 (.box 40 2 (tD 0)), opD 3 (.alloc 40 2 [vT, vU])] [[], []] false) (.seq (.region [opD 4 (.faddr 0 (tD 2)), opD 5 (.load false 1 (tD 4)), opD 6 (.load false 1 (tD 1)), opD 7 (.faddr 1 (tD 2)), opD 8 (.load false 1 (tD 7)), oqD 9 (.callv (tD 6) [(tD 8)]) (.ent (e52 fu)), opD 10 (.build 2 [vT, vU] [(0, (1, (tD 5))), (1, (1, (tD 9)))]), onD (.store 2 (tD 3) (tD 10))] [[], [0], [], [], [3], [2, 4], [1, 5], [6, 5, 0, 1, 2, 3, 4, 5, 6]] true) .ret))
set_option maxRecDepth 1000000 in
theorem v69 (fu : Nat) : evF fu (d69 fu) rs69 11 (e69 fu).ash (e69 fu).osh (e69 fu).vsh = p69 fu := by kernel_rfl
set_option maxRecDepth 1000000 in
theorem b69 (fu : Nat) : BodyD Try.prog 69 11 (d69 fu).erase rs69 := bodyD_mk Try.func69 (by kernel_rfl) (by kernel_rfl) (by kernel_rfl) (by kernel_rfl)
theorem g69 (fu : Nat) : (e69 fu).Good Try.prog := good_by orders (b69 fu) (l := [e52 fu]) (by kernel_rfl) ⟨g52 fu, trivial⟩ (by kernel_rfl) (v69 fu)
def rs68 : List RVx := [(.tmp 4)]
/-- gazette/copies.Each[gazette/api.Consumer] -/
def p68 (fu : Nat) : (List (D_runtime_errorAddressString)) × (((Unit) × (((((List (Int)) × (Unit)) × (Unit)) × (Unit)) × (Unit))) × (Unit)) → Option ((((((List (Int)) × (Unit)) × (Unit)) × (Unit)) × (Unit)) × (List (D_runtime_errorAddressString))) := fun ⟨a, ⟨_, ⟨⟨⟨⟨c, _⟩, _⟩, _⟩, _⟩⟩, _⟩ =>
bif ((List.length a : Int) == (0 : Int)) then
 some (((((c, ()), ()), ()), ()), [])
else
 bif decide ((0 : Int) ≤ (List.length a : Int) ∧ ((List.length a : Int) : Int) ≤ (List.length a : Int) ∧ ((List.length a : Int) : Int) ≤ 9223372036854775807 ∧ (24 : Int) * (List.length a : Int) ≤ 140737488355328) then
 bif decide (Int.toNat (List.length a : Int) = List.length (List.replicate (Int.toNat (List.length a : Int)) ((⟨#[]⟩ : ByteArray), (0 : Int)) : List (D_runtime_errorAddressString))) then
 loopO (S := ((List (D_runtime_errorAddressString)) × ((Int) × (Unit))) × (((((List (Int)) × (Unit)) × (Unit)) × (Unit)) × (Unit))) fu (fun ⟨⟨f, h, _⟩, ⟨⟨⟨⟨i, _⟩, _⟩, _⟩, _⟩⟩ =>
 bif decide (h < (List.length a : Int)) then
 bif decide ((0 : Int) ≤ h ∧ h < (List.length a : Int)) then
 bif decide (Int.toNat h < List.length a) then
 Option.bind (p69 fu (((List.getD a (Int.toNat h) (dflt T_runtime_errorAddressString)).1, (List.getD a (Int.toNat h) (dflt T_runtime_errorAddressString)).2, ()), (((i, ()), ()), ()), ())) fun ⟨⟨⟨⟨⟨j, _⟩, _⟩, _⟩, _⟩, ⟨k, l, _⟩⟩ =>
 bif decide ((0 : Int) ≤ h ∧ h < (List.length f : Int)) then
 bif decide (Int.toNat h < List.length f) then
 bif decide (List.length f = List.length (List.set f (Int.toNat h) (k, l))) then
 some (.inl (((List.set f (Int.toNat h) (k, l)), IntKind.wrap .i64 (h + (1 : Int)), ()), ((((j, ()), ()), ()), ())))
 else none
 else none
 else none
 else none
 else none
 else
 inrO (bif decide (List.length f = List.length f) then
 some (((((i, ()), ()), ()), ()), f)
 else none))
 (((List.replicate (Int.toNat (List.length a : Int)) ((⟨#[]⟩ : ByteArray), (0 : Int)) : List (D_runtime_errorAddressString)), (0 : Int), ()), ((((c, ()), ()), ()), ()))
 else none
 else none
def e68 (fu : Nat) : Ent := ⟨68, (.cons (.hole (.sl T_runtime_errorAddressString)) (.cons (.clo 69 0 .nil 1 (.cons (.box 85 1 (.cons (.clo 52 1 (.cons (.hole (.sl (.int .u64))) .nil) 0 .nil) .nil)) .nil)) .nil)), (.cons (.agg 1 (.cons (.clo 52 1 (.cons (.hole (.sl (.int .u64))) .nil) 0 .nil) .nil)) .nil), (.own .own 40 T_runtime_errorAddressString), p68 fu⟩
def d68 (fu : Nat) : DC := (.seq (.region [opD 4 (.mov (.const vS))] [[]] false) (.seq (.seq (.region [mvD 8 0, opD 9 (.len false (tD 8)), opD 10 (.bin .eql (tD 9) (cD 0))] [[], [0], [1]] false) (.cond (.tmp 10) (.seq (.region [opD 4 (.mov (.const vS))] [[]] false) .ret) .skip)) (.seq (.region [mvD 11 0, opD 12 (.len false (tD 11)), oqD 13 (.make false 40 2 [vT, vU] 24 (tD 12) (tD 12)) (.ty T_runtime_errorAddressString), mvD 5 13] [[], [0], [1, 1], [2, 0, 1, 2]] false) (.seq (.seq (.region [mvD 14 0, opD 15 (.len false (tD 14)), opD 16 (.mov (cD 0))] [[], [0], []] false) (.block 0 (.loop ⟨[5, 16], (.cons (.own .own 40 T_runtime_errorAddressString) (.cons (.hole (.int .i64)) .nil)), [(0, 85, 1)], (.cons (.agg 1 (.cons (.clo 52 1 (.cons (.hole (.sl (.int .u64))) .nil) 0 .nil) .nil)) .nil), [1, 14, 15], []⟩
 (.seq (.region [opD 17 (.bin .lss (tD 16) (tD 15))] [[]] false) (.seq (.cond (.tmp 17) .skip (.exit 0)) (.seq (.block 1 (.seq (.region [mvD 18 16, opD 19 (.iaddr 2 (tD 14) (tD 16)), opD 20 (.load true 2 (tD 19)), opD 7 (.alloc 40 2 [vT, vU]), mvD 6 18, onD (.store 2 (tD 7) (tD 20))] [[], [], [1], [], [0, 0, 1, 2, 3], [3, 2, 4, 0, 1, 2, 3, 4]] false) (.region [mvD 21 5, mvD 22 6, mvD 23 1, opD 24 (.load true 2 (tD 7)), oqD 25 (.callv (tD 23) [(tD 24)]) (.ent (e69 fu)), opD 26 (.iaddr 2 (tD 21) (tD 22)), onD (.store 2 (tD 26) (tD 25))] [[], [], [], [], [2, 3], [0, 1, 0, 1, 2, 3, 4], [5, 4, 4, 0, 1, 2, 3, 4]] false))) (.region [opD 27 (.bin .add (tD 16) (cD 1)), mvD 16 27] [[], [0]] false))))))) (.seq (.region [mvD 28 5, mvD 4 28] [[], [0, 0]] false) .ret)))))
set_option maxRecDepth 1000000 in
theorem v68 (fu : Nat) : evF fu (d68 fu) rs68 29 (e68 fu).ash (e68 fu).osh (e68 fu).vsh = p68 fu := by kernel_rfl
set_option maxRecDepth 1000000 in
theorem b68 (fu : Nat) : BodyD Try.prog 68 29 (d68 fu).erase rs68 := bodyD_mk Try.func68 (by kernel_rfl) (by kernel_rfl) (by kernel_rfl) (by kernel_rfl)
theorem g68 (fu : Nat) : (e68 fu).Good Try.prog := good_by orders (b68 fu) (l := [e69 fu]) (by kernel_rfl) ⟨g69 fu, trivial⟩ (by kernel_rfl) (v68 fu)
def rs51 : List RVx := [(.tmp 4)]
/-- gazette/records.moved -/
def p51 (fu : Nat) : (List (D_runtime_errorAddressString)) × ((((List (Int)) × (Unit)) × (Unit)) × (Unit)) → Option ((Unit) × (List (D_runtime_errorAddressString))) := fun ⟨a, ⟨⟨c, _⟩, _⟩, _⟩ =>
Option.bind (p68 fu (a, ((), ((((c, ()), ()), ()), ())), ())) fun ⟨⟨⟨⟨⟨_, _⟩, _⟩, _⟩, _⟩, f⟩ =>
bif decide (List.length f = List.length f) then
 some ((), f)
else none
def e51 (fu : Nat) : Ent := ⟨51, (.cons (.hole (.sl T_runtime_errorAddressString)) (.cons (.clo 52 1 (.cons (.hole (.sl (.int .u64))) .nil) 0 .nil) .nil)), .nil, (.own .own 40 T_runtime_errorAddressString), p51 fu⟩
def d51 (fu : Nat) : DC := (.seq (.region [opD 3 (.box 85 1 (tD 1)), opD 4 (.mov (.const vS))] [[], []] false) (.seq (.region [mvD 5 0, opD 6 (.fn 69 [] [(tD 3)]), oqD 7 (.call 68 [(tD 5), (tD 6)]) (.ent (e68 fu)), mvD 4 7] [[], [], [0, 1], [2, 2, 0, 1, 2]] false) .ret))
set_option maxRecDepth 1000000 in
theorem v51 (fu : Nat) : evF fu (d51 fu) rs51 8 (e51 fu).ash (e51 fu).osh (e51 fu).vsh = p51 fu := by kernel_rfl
set_option maxRecDepth 1000000 in
theorem b51 (fu : Nat) : BodyD Try.prog 51 8 (d51 fu).erase rs51 := bodyD_mk Try.func51 (by kernel_rfl) (by kernel_rfl) (by kernel_rfl) (by kernel_rfl)
theorem g51 (fu : Nat) : (e51 fu).Good Try.prog := good_by orders (b51 fu) (l := [e68 fu]) (by kernel_rfl) ⟨g68 fu, trivial⟩ (by kernel_rfl) (v51 fu)
def rs15 : List RVx := [(.tmp 4)]
/-- gazette/records.Map -/
def p15 (fu : Nat) : (List (D_runtime_errorAddressString)) × ((List (Int)) × (Unit)) → Option ((Unit) × (List (D_runtime_errorAddressString))) := fun ⟨a, c, _⟩ =>
bif ((List.length c : Int) == (0 : Int)) then
 some ((), [])
else
 Option.bind (p51 fu (a, ((c, ()), ()), ())) fun ⟨_, f⟩ =>
 bif decide (List.length f = List.length f) then
 some ((), f)
 else none
def e15 (fu : Nat) : Ent := ⟨15, (.cons (.hole (.sl T_runtime_errorAddressString)) (.cons (.hole (.sl (.int .u64))) .nil)), .nil, (.own .own 40 T_runtime_errorAddressString), p15 fu⟩
def d15 (fu : Nat) : DC := (.seq (.region [opD 4 (.mov (.const vS))] [[]] false) (.seq (.seq (.region [mvD 5 1, opD 6 (.len false (tD 5)), opD 7 (.bin .eql (tD 6) (cD 0))] [[], [0], [1]] false) (.cond (.tmp 7) (.seq (.region [opD 4 (.mov (.const vS))] [[]] false) .ret) .skip)) (.seq (.region [mvD 8 0, mvD 9 1, opD 10 (.fn 52 [(tD 9)] []), oqD 11 (.call 51 [(tD 8), (tD 10)]) (.ent (e51 fu)), mvD 4 11] [[], [], [1], [0, 2], [3, 3, 0, 1, 2, 3]] false) .ret)))
set_option maxRecDepth 1000000 in
theorem v15 (fu : Nat) : evF fu (d15 fu) rs15 12 (e15 fu).ash (e15 fu).osh (e15 fu).vsh = p15 fu := by kernel_rfl
set_option maxRecDepth 1000000 in
theorem b15 (fu : Nat) : BodyD Try.prog 15 12 (d15 fu).erase rs15 := bodyD_mk Try.func15 (by kernel_rfl) (by kernel_rfl) (by kernel_rfl) (by kernel_rfl)
theorem g15 (fu : Nat) : (e15 fu).Good Try.prog := good_by orders (b15 fu) (l := [e51 fu]) (by kernel_rfl) ⟨g51 fu, trivial⟩ (by kernel_rfl) (v15 fu)
def rs63 : List RVx := [(.tmp 4)]
/-- gazette/gazetteref14.element -/
def p63 (_ : Nat) : (List (Int)) × ((Int) × (Unit)) → Option ((Unit) × (Int)) := fun ⟨a, c, _⟩ =>
bif decide (c ≥ (IntKind.wrap .u64 (List.length a : Int))) then
 bif decide ((0 : Int) ≤ IntKind.wrap .i64 ((List.length a : Int) - (1 : Int)) ∧ IntKind.wrap .i64 ((List.length a : Int) - (1 : Int)) < (List.length a : Int)) then
 bif decide (Int.toNat (IntKind.wrap .i64 ((List.length a : Int) - (1 : Int))) < List.length a) then
 some ((), (List.getD a (Int.toNat (IntKind.wrap .i64 ((List.length a : Int) - (1 : Int)))) (dflt (.int .u64))))
 else none
 else none
else
 bif decide ((0 : Int) ≤ IntKind.wrap .i64 c ∧ IntKind.wrap .i64 c < (List.length a : Int)) then
 bif decide (Int.toNat (IntKind.wrap .i64 c) < List.length a) then
 some ((), (List.getD a (Int.toNat (IntKind.wrap .i64 c)) (dflt (.int .u64))))
 else none
 else none
def e63 (fu : Nat) : Ent := ⟨63, (.cons (.hole (.sl (.int .u64))) (.cons (.hole (.int .u64)) .nil)), .nil, (.hole (.int .u64)), p63 fu⟩
def d63 (_ : Nat) : DC := (.seq (.region [opD 4 (.mov (.const vU))] [[]] false) (.seq (.seq (.region [mvD 5 1, mvD 6 0, opD 7 (.len false (tD 6)), opD 8 (.conv .u64 (tD 7)), opD 9 (.bin .geq (tD 5) (tD 8))] [[], [], [1], [2], [0, 3]] false) (.cond (.tmp 9) (.seq (.region [mvD 10 0, mvD 11 0, opD 12 (.len false (tD 11)), opD 13 (.bin .sub (tD 12) (cD 1)), opD 14 (.iaddr 1 (tD 10) (tD 13)), opD 15 (.load false 1 (tD 14)), mvD 4 15] [[], [], [1], [2], [0, 3], [4], [5, 0, 1, 2, 3, 4, 5]] false) .ret) .skip)) (.seq (.region [mvD 16 0, mvD 17 1, opD 18 (.conv .i64 (tD 17)), opD 19 (.iaddr 1 (tD 16) (tD 18)), opD 20 (.load false 1 (tD 19)), mvD 4 20] [[], [], [1], [0, 2], [3], [4, 0, 1, 2, 3, 4]] false) .ret)))
set_option maxRecDepth 1000000 in
theorem v63 (fu : Nat) : evF fu (d63 fu) rs63 21 (e63 fu).ash (e63 fu).osh (e63 fu).vsh = p63 fu := by kernel_rfl
set_option maxRecDepth 1000000 in
theorem b63 (fu : Nat) : BodyD Try.prog 63 21 (d63 fu).erase rs63 := bodyD_mk Try.func63 (by kernel_rfl) (by kernel_rfl) (by kernel_rfl) (by kernel_rfl)
theorem g63 (fu : Nat) : (e63 fu).Good Try.prog := good_by orders (b63 fu) (l := []) (by kernel_rfl) trivial (by kernel_rfl) (v63 fu)
def rs35 : List RVx := [(.tmp 4)]
/-- gazette/gazetteref14.Map -/
def p35 (fu : Nat) : (List (D_runtime_errorAddressString)) × ((List (Int)) × (Unit)) → Option ((Unit) × (List (D_runtime_errorAddressString))) := fun ⟨a, c, _⟩ =>
loopO (S := ((List (D_runtime_errorAddressString)) × ((Int) × (Unit))) × (Unit)) fu (fun ⟨⟨f, h, _⟩, _⟩ =>
 bif decide (h < (List.length a : Int)) then
 bif decide ((List.length c : Int) > (0 : Int)) then
 bif decide ((0 : Int) ≤ h ∧ h < (List.length a : Int)) then
 bif decide (Int.toNat h < List.length a) then
 bif decide ((0 : Int) ≤ h ∧ h < (List.length a : Int)) then
 bif decide (Int.toNat h < List.length a) then
 Option.bind (p63 fu (c, (List.getD a (Int.toNat h) (dflt T_runtime_errorAddressString)).2, ())) fun ⟨_, i⟩ =>
 bif decide (List.length f = List.length f) then
 bif decide (List.length f + List.length ([((List.getD a (Int.toNat h) (dflt T_runtime_errorAddressString)).1, i)]) ≤ maxLen ∧ (List.length f + List.length ([((List.getD a (Int.toNat h) (dflt T_runtime_errorAddressString)).1, i)])) * 24 ≤ 140737488355328) then
 bif decide (List.length (f ++ [((List.getD a (Int.toNat h) (dflt T_runtime_errorAddressString)).1, i)]) = List.length (f ++ [((List.getD a (Int.toNat h) (dflt T_runtime_errorAddressString)).1, i)])) then
 some (.inl (((f ++ [((List.getD a (Int.toNat h) (dflt T_runtime_errorAddressString)).1, i)]), IntKind.wrap .i64 (h + (1 : Int)), ()), ()))
 else none
 else none
 else none
 else none
 else none
 else none
 else none
 else
 inrO (bif decide (List.length f = List.length f) then
 some ((), f)
 else none)
 else
 inrO (bif decide (List.length f = List.length f) then
 some ((), f)
 else none))
 (([], (0 : Int), ()), ())
def e35 (fu : Nat) : Ent := ⟨35, (.cons (.hole (.sl T_runtime_errorAddressString)) (.cons (.hole (.sl (.int .u64))) .nil)), .nil, (.own .own 40 T_runtime_errorAddressString), p35 fu⟩
def d35 (fu : Nat) : DC := (.seq (.region [opD 4 (.mov (.const vS))] [[]] false) (.seq (.region [opD 5 (.mov (.const vS))] [[]] false) (.seq (.seq (.region [opD 6 (.mov (cD 0))] [[]] false) (.block 0 (.loop ⟨[5, 6], (.cons (.own .own 40 T_runtime_errorAddressString) (.cons (.hole (.int .i64)) .nil)), [], .nil, [0, 1], []⟩
 (.seq (.seq (.region [mvD 7 6, mvD 8 0, opD 9 (.len false (tD 8)), opD 10 (.bin .lss (tD 7) (tD 9)), mvD 11 10, ogD 12 11 true (.mov (tD 1)), ogD 13 11 true (.len false (tD 12)), ogD 14 11 true (.bin .gtr (tD 13) (cD 0)), opD 15 (.pick (tD 11) (tD 14) (.const vB))] [[], [], [1], [0, 2], [3], [4], [5, 4], [6, 4], [4, 7]] false) (.cond (.tmp 15) .skip (.exit 0))) (.seq (.block 1 (.region [mvD 18 5, mvD 19 0, mvD 20 6, opD 21 (.iaddr 2 (tD 19) (tD 20)), opD 22 (.faddr 0 (tD 21)), opD 23 (.load false 1 (tD 22)), mvD 24 1, mvD 25 0, mvD 26 6, opD 27 (.iaddr 2 (tD 25) (tD 26)), opD 28 (.faddr 1 (tD 27)), opD 29 (.load false 1 (tD 28)), oqD 30 (.call 63 [(tD 24), (tD 29)]) (.ent (e63 fu)), opD 31 (.build 2 [vT, vU] [(0, (1, (tD 23))), (1, (1, (tD 30)))]), oqD 32 (.bslice 40 2 1 [vT, vU] [(0, (tD 31))]) (.ty T_runtime_errorAddressString), oqD 33 (.app 40 2 [vT, vU] 24 (tD 18) (tD 32)) (.ty T_runtime_errorAddressString), mvD 5 33] [[], [], [], [1, 2], [3], [4], [], [], [], [7, 8], [9], [10], [6, 11], [5, 12], [13], [0, 14, 12], [15, 15, 0, 1, 2, 3, 4, 5, 6, 7, 8, 9, 10, 11, 12, 13, 14, 15]] true)) (.region [mvD 16 6, opD 17 (.bin .add (tD 16) (cD 1)), mvD 6 17] [[], [0], [1, 0, 1]] false)))))) (.seq (.region [mvD 34 5, mvD 4 34] [[], [0, 0]] false) .ret))))
set_option maxRecDepth 1000000 in
theorem v35 (fu : Nat) : evF fu (d35 fu) rs35 35 (e35 fu).ash (e35 fu).osh (e35 fu).vsh = p35 fu := by kernel_rfl
set_option maxRecDepth 1000000 in
theorem b35 (fu : Nat) : BodyD Try.prog 35 35 (d35 fu).erase rs35 := bodyD_mk Try.func35 (by kernel_rfl) (by kernel_rfl) (by kernel_rfl) (by kernel_rfl)
theorem g35 (fu : Nat) : (e35 fu).Good Try.prog := good_by orders (b35 fu) (l := [e63 fu]) (by kernel_rfl) ⟨g63 fu, trivial⟩ (by kernel_rfl) (v35 fu)
def rs70 : List RVx := [(.tmp 4)]
/-- slices.Grow[[]gazette/api.Consumer,gazette/api.Consumer] -/
def p70 (_ : Nat) : (Unit) × ((Int) × (Unit)) → Option ((Unit) × (List (D_runtime_errorAddressString))) := fun ⟨_, a, _⟩ =>
bif decide (a < (0 : Int)) then
 none
else
 bif decide ((IntKind.wrap .i64 (a - (0 : Int))) > (0 : Int)) then
 bif decide ((0 : Int) < IntKind.wrap .i64 (a - (0 : Int)) ∧ (IntKind.wrap .i64 (a - (0 : Int)) : Int) * 24 ≤ 140737488355328 ∧ (IntKind.wrap .i64 (a - (0 : Int)) : Int) ≤ 9223372036854775807) then
 bif decide (0 ≤ 0 ∧ 0 ≤ List.length (List.replicate (Int.toNat (IntKind.wrap .i64 (a - (0 : Int)))) ((⟨#[]⟩ : ByteArray), (0 : Int)) : List (D_runtime_errorAddressString))) then
 bif decide (0 = List.length (List.take 0 (List.replicate (Int.toNat (IntKind.wrap .i64 (a - (0 : Int)))) ((⟨#[]⟩ : ByteArray), (0 : Int)) : List (D_runtime_errorAddressString)))) then
 some ((), List.take 0 (List.replicate (Int.toNat (IntKind.wrap .i64 (a - (0 : Int)))) ((⟨#[]⟩ : ByteArray), (0 : Int)) : List (D_runtime_errorAddressString)))
 else none
 else none
 else none
 else
 some ((), [])
def e70 (fu : Nat) : Ent := ⟨70, (.cons .nils (.cons (.hole (.int .i64)) .nil)), .nil, (.own .own 40 T_runtime_errorAddressString), p70 fu⟩
def d70 (_ : Nat) : DC := (.seq (.region [opD 4 (.mov (.const vS))] [[]] false) (.seq (.seq (.region [mvD 5 1, opD 6 (.bin .lss (tD 5) (cD 0))] [[], [0]] false) (.cond (.tmp 6) (.region [opD 7 (.ifc 9 (.const (.string ⟨#[99, 97, 110, 110, 111, 116, 32, 98, 101, 32, 110, 101, 103, 97, 116, 105, 118, 101]⟩))), onD .bad] [[], [0]] false) .skip)) (.seq (.seq (.region [mvD 8 1, mvD 9 0, opD 10 (.pure .capn [(tD 9)]), mvD 11 0, opD 12 (.len false (tD 11)), opD 13 (.bin .sub (tD 10) (tD 12)), opD 14 (.bin .sub (tD 8) (tD 13)), mvD 1 14] [[], [], [1], [], [3], [2, 4], [0, 5], [6, 0, 1, 2, 3, 4, 5, 6]] false) (.seq (.region [mvD 15 1, opD 16 (.bin .gtr (tD 15) (cD 0))] [[], [0]] false) (.cond (.tmp 16) (.region [mvD 17 0, mvD 18 0, opD 19 (.pure .capn [(tD 18)]), opD 20 (.slc 2 (tD 17) none (some (tD 19))), mvD 21 1, oqD 22 (.appz 40 2 [vT, vU] 24 (tD 20) (tD 21)) (.ty T_runtime_errorAddressString), mvD 23 0, opD 24 (.len false (tD 23)), opD 25 (.slc 2 (tD 22) none (some (tD 24))), mvD 0 25] [[], [], [1], [0, 2], [], [3, 4], [], [6], [5, 7], [8, 5, 0, 1, 2, 3, 4, 5, 6, 7, 8]] false) .skip))) (.seq (.region [mvD 26 0, mvD 4 26] [[], [0, 0]] false) .ret))))
set_option maxRecDepth 1000000 in
theorem v70 (fu : Nat) : evF fu (d70 fu) rs70 27 (e70 fu).ash (e70 fu).osh (e70 fu).vsh = p70 fu := by kernel_rfl
set_option maxRecDepth 1000000 in
theorem b70 (fu : Nat) : BodyD Try.prog 70 27 (d70 fu).erase rs70 := bodyD_mk Try.func70 (by kernel_rfl) (by kernel_rfl) (by kernel_rfl) (by kernel_rfl)
theorem g70 (fu : Nat) : (e70 fu).Good Try.prog := good_by orders (b70 fu) (l := []) (by kernel_rfl) trivial (by kernel_rfl) (v70 fu)
def rs53 : List RVx := [(.tmp 2)]
/-- slices.Concat[[]gazette/api.Consumer,gazette/api.Consumer] -/
def p53 (fu : Nat) : (List (List (D_runtime_errorAddressString))) × (Unit) → Option ((Unit) × (List (D_runtime_errorAddressString))) := fun ⟨a, _⟩ =>
loopO (S := ((Int) × ((Int) × (Unit))) × (Unit)) fu (fun ⟨⟨c, f, _⟩, _⟩ =>
 bif decide (f < (List.length a : Int)) then
 bif decide ((0 : Int) ≤ f ∧ f < (List.length a : Int)) then
 bif decide (Int.toNat f < List.length a) then
 bif decide ((IntKind.wrap .i64 (c + (List.length (List.getD a (Int.toNat f) (dflt (.sl T_runtime_errorAddressString))) : Int))) < (0 : Int)) then
 none
 else
 some (.inl ((IntKind.wrap .i64 (c + (List.length (List.getD a (Int.toNat f) (dflt (.sl T_runtime_errorAddressString))) : Int)), IntKind.wrap .i64 (f + (1 : Int)), ()), ()))
 else none
 else none
 else
 inrO (Option.bind (p70 fu ((), c, ())) fun ⟨_, h⟩ =>
 bif decide (List.length h = List.length h) then
 loopO (S := ((List (D_runtime_errorAddressString)) × ((Int) × (Unit))) × (Unit)) fu (fun ⟨⟨i, j, _⟩, _⟩ =>
 bif decide (j < (List.length a : Int)) then
 bif decide ((0 : Int) ≤ j ∧ j < (List.length a : Int)) then
 bif decide (Int.toNat j < List.length a) then
 bif decide (List.length i = List.length i) then
 bif decide (List.length i + List.length (List.getD a (Int.toNat j) (dflt (.sl T_runtime_errorAddressString))) ≤ maxLen ∧ (List.length i + List.length (List.getD a (Int.toNat j) (dflt (.sl T_runtime_errorAddressString)))) * 24 ≤ 140737488355328) then
 bif decide (List.length (i ++ (List.getD a (Int.toNat j) (dflt (.sl T_runtime_errorAddressString)))) = List.length (i ++ (List.getD a (Int.toNat j) (dflt (.sl T_runtime_errorAddressString))))) then
 some (.inl (((i ++ (List.getD a (Int.toNat j) (dflt (.sl T_runtime_errorAddressString)))), IntKind.wrap .i64 (j + (1 : Int)), ()), ()))
 else none
 else none
 else none
 else none
 else none
 else
 inrO (bif decide (List.length i = List.length i) then
 some ((), i)
 else none))
 ((h, (0 : Int), ()), ())
 else none))
 (((0 : Int), (0 : Int), ()), ())
def e53 (fu : Nat) : Ent := ⟨53, (.cons (.hole (.sl (.sl T_runtime_errorAddressString))) .nil), .nil, (.own .own 40 T_runtime_errorAddressString), p53 fu⟩
def d53 (fu : Nat) : DC := (.seq (.region [opD 2 (.mov (.const vS))] [[]] false) (.seq (.region [opD 3 (.mov (cD 0))] [[]] false) (.seq (.seq (.region [mvD 9 0, opD 10 (.len false (tD 9)), opD 11 (.mov (cD 0))] [[], [0], []] false) (.block 0 (.loop ⟨[3, 11], (.cons (.hole (.int .i64)) (.cons (.hole (.int .i64)) .nil)), [], .nil, [0, 9, 10], []⟩
 (.seq (.region [opD 12 (.bin .lss (tD 11) (tD 10))] [[]] false) (.seq (.cond (.tmp 12) .skip (.exit 0)) (.seq (.block 1 (.seq (.region [opD 13 (.iaddr 1 (tD 9) (tD 11)), opD 14 (.load false 1 (tD 13)), mvD 5 14] [[], [0], [1, 0, 1]] false) (.seq (.region [mvD 15 3, mvD 16 5, opD 17 (.len false (tD 16)), opD 18 (.bin .add (tD 15) (tD 17)), mvD 3 18] [[], [], [1], [0, 2], [3, 0, 1, 2, 3]] false) (.seq (.region [mvD 19 3, opD 20 (.bin .lss (tD 19) (cD 0))] [[], [0]] false) (.cond (.tmp 20) (.region [opD 21 (.ifc 9 (.const (.string ⟨#[108, 101, 110, 32, 111, 117, 116, 32, 111, 102, 32, 114, 97, 110, 103, 101]⟩))), onD .bad] [[], [0]] false) .skip))))) (.region [opD 22 (.bin .add (tD 11) (cD 1)), mvD 11 22] [[], [0]] false))))))) (.seq (.region [mvD 23 3, oqD 24 (.call 70 [(.const vS), (tD 23)]) (.ent (e70 fu)), mvD 6 24] [[], [0], [1, 1, 0, 1]] false) (.seq (.seq (.region [mvD 25 0, opD 26 (.len false (tD 25)), opD 27 (.mov (cD 0))] [[], [0], []] false) (.block 2 (.loop ⟨[6, 27], (.cons (.own .own 40 T_runtime_errorAddressString) (.cons (.hole (.int .i64)) .nil)), [], .nil, [25, 26], []⟩
 (.seq (.region [opD 28 (.bin .lss (tD 27) (tD 26))] [[]] false) (.seq (.cond (.tmp 28) .skip (.exit 2)) (.seq (.block 3 (.seq (.region [opD 29 (.iaddr 1 (tD 25) (tD 27)), opD 30 (.load false 1 (tD 29)), mvD 8 30] [[], [0], [1, 0, 1]] false) (.region [mvD 31 6, mvD 32 8, oqD 33 (.app 40 2 [vT, vU] 24 (tD 31) (tD 32)) (.ty T_runtime_errorAddressString), mvD 6 33] [[], [], [0, 1], [2, 2, 0, 1, 2]] false))) (.region [opD 34 (.bin .add (tD 27) (cD 1)), mvD 27 34] [[], [0]] false))))))) (.seq (.region [mvD 35 6, mvD 2 35] [[], [0, 0]] false) .ret))))))
set_option maxRecDepth 1000000 in
theorem v53 (fu : Nat) : evF fu (d53 fu) rs53 36 (e53 fu).ash (e53 fu).osh (e53 fu).vsh = p53 fu := by kernel_rfl
set_option maxRecDepth 1000000 in
theorem b53 (fu : Nat) : BodyD Try.prog 53 36 (d53 fu).erase rs53 := bodyD_mk Try.func53 (by kernel_rfl) (by kernel_rfl) (by kernel_rfl) (by kernel_rfl)
theorem g53 (fu : Nat) : (e53 fu).Good Try.prog := good_by orders (b53 fu) (l := [e70 fu]) (by kernel_rfl) ⟨g70 fu, trivial⟩ (by kernel_rfl) (v53 fu)
def rs16 : List RVx := [(.tmp 8), (.tmp 9)]
/-- gazette/records.Both -/
def p16 (fu : Nat) : (List (D_runtime_errorAddressString)) × ((List (D_runtime_errorAddressString)) × ((List (Int)) × ((List (Int)) × (Unit)))) → Option ((Unit) × ((List (D_runtime_errorAddressString)) × ((Int) × (Unit)))) := fun ⟨a, c, f, h, _⟩ =>
Option.bind (p39 fu (a, ())) fun ⟨_, i⟩ =>
bif !i then
 some ((), ([], (1 : Int), ()))
else
 Option.bind (p39 fu (c, ())) fun ⟨_, j⟩ =>
 bif !j then
 some ((), ([], (1 : Int), ()))
 else
 bif ((List.length f : Int) == (0 : Int)) then
 some ((), ([], (1 : Int), ()))
 else
 bif ((List.length h : Int) == (0 : Int)) then
 some ((), ([], (1 : Int), ()))
 else
 Option.bind (p53 fu ([a, c], ())) fun ⟨_, k⟩ =>
 loopO (S := ((List (D_runtime_errorAddressString)) × ((Int) × (Unit))) × (Unit)) fu (fun ⟨⟨l, m, _⟩, _⟩ =>
 bif decide (m < ((List.length k) : Int)) then
 bif decide ((0 : Int) ≤ m ∧ m < (List.length k : Int)) then
 bif decide (Int.toNat m < List.length k) then
 Option.bind (p33 fu (a, (List.getD k (Int.toNat m) (dflt T_runtime_errorAddressString)).1, ())) fun ⟨_, ⟨n, _, _⟩⟩ =>
 Option.bind (p33 fu (c, (List.getD k (Int.toNat m) (dflt T_runtime_errorAddressString)).1, ())) fun ⟨_, ⟨o, _, _⟩⟩ =>
 Option.bind (p52 fu (f, n, ())) fun ⟨_, q⟩ =>
 Option.bind (p52 fu (h, o, ())) fun ⟨_, s⟩ =>
 bif decide (List.length l = List.length l) then
 Option.bind (p54 fu (l, ((List.getD k (Int.toNat m) (dflt T_runtime_errorAddressString)).1, (if s < q then s else q), ()), ((), ()), ())) fun ⟨_, t⟩ =>
 bif decide (List.length t = List.length t) then
 some (.inl ((t, IntKind.wrap .i64 (m + (1 : Int)), ()), ()))
 else none
 else none
 else none
 else none
 else
 inrO (bif decide (((List.length l) : Int) > (64 : Int)) then
 some ((), ([], (143 : Int), ()))
 else
 bif decide (List.length l = List.length l) then
 some ((), (l, (0 : Int), ()))
 else none))
 (([], (0 : Int), ()), ())
def e16 (fu : Nat) : Ent := ⟨16, (.cons (.hole (.sl T_runtime_errorAddressString)) (.cons (.hole (.sl T_runtime_errorAddressString)) (.cons (.hole (.sl (.int .u64))) (.cons (.hole (.sl (.int .u64))) .nil)))), .nil, (.tup 2 (.cons (.own .own 40 T_runtime_errorAddressString) (.cons (.hole (.int .i64)) .nil))), p16 fu⟩
def d16 (fu : Nat) : DC := (.seq (.region [opD 8 (.mov (.const vS)), opD 9 (.mov (cD 0))] [[], [0]] false) (.seq (.seq (.region [mvD 18 0, oqD 19 (.call 39 [(tD 18)]) (.ent (e39 fu)), opD 20 (.not (tD 19)), mvD 21 20, ogD 22 21 false (.mov (tD 1)), (⟨(some 23), (some (21, false)), (.call 39 [(tD 22)])⟩, (.ent (e39 fu))), ogD 24 21 false (.not (tD 23)), opD 25 (.pick (tD 21) (.const (.bool true)) (tD 24)), mvD 26 25, ogD 27 26 false (.mov (tD 2)), ogD 28 26 false (.len false (tD 27)), ogD 29 26 false (.bin .eql (tD 28) (cD 0)), opD 30 (.pick (tD 26) (.const (.bool true)) (tD 29)), mvD 31 30, ogD 32 31 false (.mov (tD 3)), ogD 33 31 false (.len false (tD 32)), ogD 34 31 false (.bin .eql (tD 33) (cD 0)), opD 35 (.pick (tD 31) (.const (.bool true)) (tD 34))] [[], [0], [1], [2, 1], [3], [4, 3, 3], [5, 3], [3, 6], [7, 5], [8], [9, 8], [10, 8], [8, 11], [12, 8], [13], [14, 13], [15, 13], [13, 16]] false) (.cond (.tmp 35) (.seq (.region [opD 8 (.mov (.const vS)), opD 9 (.mov (cD 1))] [[], [0, 0]] false) .ret) .skip)) (.seq (.region [opD 10 (.mov (.const vS))] [[]] false) (.seq (.seq (.region [mvD 36 0, mvD 37 1, oqD 38 (.bslice 37 1 2 [vS] [(0, (tD 36)), (1, (tD 37))]) (.ty (.sl T_runtime_errorAddressString)), oqD 39 (.call 53 [(tD 38)]) (.ent (e53 fu)), opD 40 (.len false (tD 39)), opD 41 (.mov (cD 0))] [[], [], [0, 1], [2], [3], []] false) (.block 0 (.loop ⟨[10, 41], (.cons (.own .own 40 T_runtime_errorAddressString) (.cons (.hole (.int .i64)) .nil)), [], .nil, [0, 1, 2, 3, 39, 40], [384]⟩
 (.seq (.region [opD 42 (.bin .lss (tD 41) (tD 40))] [[]] false) (.seq (.cond (.tmp 42) .skip (.exit 0)) (.seq (.block 1 (.seq (.region [opD 43 (.iaddr 2 (tD 39) (tD 41)), opD 44 (.load true 2 (tD 43)), opD 12 (.alloc 40 2 [vT, vU]), onD (.store 2 (tD 12) (tD 44))] [[], [0], [], [2, 1, 0, 1, 2]] false) (.seq (.region [mvD 46 0, opD 47 (.faddr 0 (tD 12)), opD 48 (.load false 1 (tD 47)), oqD 49 (.call 33 [(tD 46), (tD 48)]) (.ent (e33 fu)), mvD 45 49, opD 50 (.ext (tD 45) 0), opD 51 (.ext (tD 45) 1), mvD 13 50, mvD 14 51] [[], [], [1], [0, 2], [3], [4], [4], [5, 3, 0, 1, 2, 3, 4, 5], [6, 7, 0, 1, 2, 3, 4, 5, 6, 7]] false) (.seq (.region [mvD 53 1, opD 54 (.faddr 0 (tD 12)), opD 55 (.load false 1 (tD 54)), oqD 56 (.call 33 [(tD 53), (tD 55)]) (.ent (e33 fu)), mvD 52 56, opD 57 (.ext (tD 52) 0), opD 58 (.ext (tD 52) 1), mvD 15 57, mvD 16 58] [[], [], [1], [0, 2], [3], [4], [4], [5, 3, 0, 1, 2, 3, 4, 5], [6, 7, 0, 1, 2, 3, 4, 5, 6, 7]] false) (.seq (.region [mvD 59 2, mvD 60 13, oqD 61 (.call 52 [(tD 59), (tD 60)]) (.ent (e52 fu)), mvD 62 3, mvD 63 15, oqD 64 (.call 52 [(tD 62), (tD 63)]) (.ent (e52 fu)), opD 65 (.mm false (tD 61) (tD 64)), mvD 17 65] [[], [], [0, 1], [], [], [3, 4, 2], [2, 5], [6, 5, 0, 1, 2, 3, 4, 5, 6]] false) (.region [mvD 66 10, opD 67 (.faddr 0 (tD 12)), opD 68 (.load false 1 (tD 67)), mvD 69 17, opD 70 (.build 2 [vT, vU] [(0, (1, (tD 68))), (1, (1, (tD 69)))]), oqD 71 (.call 54 [(tD 66), (tD 70), (.func 55)]) (.ent (e54 fu)), mvD 10 71] [[], [], [1], [], [2, 3], [0, 4], [5, 5, 0, 1, 2, 3, 4, 5]] false)))))) (.region [opD 72 (.bin .add (tD 41) (cD 1)), mvD 41 72] [[], [0]] false))))))) (.seq (.seq (.region [mvD 73 10, opD 74 (.len false (tD 73)), opD 75 (.bin .gtr (tD 74) (cD 64))] [[], [0], [1]] false) (.cond (.tmp 75) (.seq (.region [opD 8 (.mov (.const vS)), opD 9 (.mov (cD 143))] [[], [0, 0]] false) .ret) .skip)) (.seq (.region [mvD 76 10, mvD 8 76, opD 9 (.mov (cD 0))] [[], [0, 0], [1, 0, 1]] false) .ret))))))
set_option maxRecDepth 1000000 in
theorem v16 (fu : Nat) : evF fu (d16 fu) rs16 77 (e16 fu).ash (e16 fu).osh (e16 fu).vsh = p16 fu := by kernel_rfl
set_option maxRecDepth 1000000 in
theorem b16 (fu : Nat) : BodyD Try.prog 16 77 (d16 fu).erase rs16 := bodyD_mk Try.func16 (by kernel_rfl) (by kernel_rfl) (by kernel_rfl) (by kernel_rfl)
theorem g16 (fu : Nat) : (e16 fu).Good Try.prog := good_by orders (b16 fu) (l := [e39 fu, e39 fu, e53 fu, e33 fu, e33 fu, e52 fu, e52 fu, e54 fu]) (by kernel_rfl) ⟨g39 fu, g39 fu, g53 fu, g33 fu, g33 fu, g52 fu, g52 fu, g54 fu, trivial⟩ (by kernel_rfl) (v16 fu)
def rs36 : List RVx := [(.tmp 8), (.tmp 9)]
/-- gazette/gazetteref14.Both -/
def p36 (fu : Nat) : (List (D_runtime_errorAddressString)) × ((List (D_runtime_errorAddressString)) × ((List (Int)) × ((List (Int)) × (Unit)))) → Option ((Unit) × ((List (D_runtime_errorAddressString)) × ((Int) × (Unit)))) := fun ⟨a, c, f, h, _⟩ =>
Option.bind (p40 fu (a, ())) fun ⟨_, i⟩ =>
Option.bind (p40 fu (c, ())) fun ⟨_, j⟩ =>
bif !i then
 some ((), ([], (1 : Int), ()))
else
 bif !j then
 some ((), ([], (1 : Int), ()))
 else
 bif ((List.length f : Int) == (0 : Int)) then
 some ((), ([], (1 : Int), ()))
 else
 bif ((List.length h : Int) == (0 : Int)) then
 some ((), ([], (1 : Int), ()))
 else
 bif decide (0 = List.length ([] : List (D_runtime_errorAddressString))) then
 bif decide (List.length ([] : List (D_runtime_errorAddressString)) + List.length a ≤ maxLen ∧ (List.length ([] : List (D_runtime_errorAddressString)) + List.length a) * 24 ≤ 140737488355328) then
 bif decide (List.length (([] : List (D_runtime_errorAddressString)) ++ a) = List.length (([] : List (D_runtime_errorAddressString)) ++ a)) then
 bif decide (List.length (([] : List (D_runtime_errorAddressString)) ++ a) + List.length c ≤ maxLen ∧ (List.length (([] : List (D_runtime_errorAddressString)) ++ a) + List.length c) * 24 ≤ 140737488355328) then
 loopO (S := ((List (D_runtime_errorAddressString)) × ((Int) × (Unit))) × (Unit)) fu (fun ⟨⟨k, l, _⟩, _⟩ =>
 bif decide (l < ((List.length ((([] : List (D_runtime_errorAddressString)) ++ a) ++ c)) : Int)) then
 bif decide ((0 : Int) ≤ l ∧ l < (List.length ((([] : List (D_runtime_errorAddressString)) ++ a) ++ c) : Int)) then
 bif decide (Int.toNat l < List.length ((([] : List (D_runtime_errorAddressString)) ++ a) ++ c)) then
 Option.bind (p34 fu (a, (List.getD ((([] : List (D_runtime_errorAddressString)) ++ a) ++ c) (Int.toNat l) (dflt T_runtime_errorAddressString)).1, ())) fun ⟨_, ⟨m, _, _⟩⟩ =>
 bif decide ((0 : Int) ≤ l ∧ l < (List.length ((([] : List (D_runtime_errorAddressString)) ++ a) ++ c) : Int)) then
 bif decide (Int.toNat l < List.length ((([] : List (D_runtime_errorAddressString)) ++ a) ++ c)) then
 Option.bind (p34 fu (c, (List.getD ((([] : List (D_runtime_errorAddressString)) ++ a) ++ c) (Int.toNat l) (dflt T_runtime_errorAddressString)).1, ())) fun ⟨_, ⟨n, _, _⟩⟩ =>
 bif decide ((0 : Int) ≤ l ∧ l < (List.length ((([] : List (D_runtime_errorAddressString)) ++ a) ++ c) : Int)) then
 bif decide (Int.toNat l < List.length ((([] : List (D_runtime_errorAddressString)) ++ a) ++ c)) then
 Option.bind (p63 fu (f, m, ())) fun ⟨_, o⟩ =>
 Option.bind (p63 fu (h, n, ())) fun ⟨_, q⟩ =>
 bif decide (List.length k = List.length k) then
 Option.bind (p62 fu (k, ((List.getD ((([] : List (D_runtime_errorAddressString)) ++ a) ++ c) (Int.toNat l) (dflt T_runtime_errorAddressString)).1, (if q < o then q else o), ()), ())) fun ⟨_, s⟩ =>
 bif decide (List.length s = List.length s) then
 some (.inl ((s, IntKind.wrap .i64 (l + (1 : Int)), ()), ()))
 else none
 else none
 else none
 else none
 else none
 else none
 else none
 else none
 else
 inrO (bif decide (((List.length k) : Int) > (64 : Int)) then
 some ((), ([], (143 : Int), ()))
 else
 bif decide (List.length k = List.length k) then
 some ((), (k, (0 : Int), ()))
 else none))
 (([], (0 : Int), ()), ())
 else none
 else none
 else none
 else none
def e36 (fu : Nat) : Ent := ⟨36, (.cons (.hole (.sl T_runtime_errorAddressString)) (.cons (.hole (.sl T_runtime_errorAddressString)) (.cons (.hole (.sl (.int .u64))) (.cons (.hole (.sl (.int .u64))) .nil)))), .nil, (.tup 2 (.cons (.own .own 40 T_runtime_errorAddressString) (.cons (.hole (.int .i64)) .nil))), p36 fu⟩
def d36 (fu : Nat) : DC := (.seq (.region [opD 8 (.mov (.const vS)), opD 9 (.mov (cD 0))] [[], [0]] false) (.seq (.region [mvD 19 0, oqD 20 (.call 40 [(tD 19)]) (.ent (e40 fu)), mvD 10 20] [[], [0], [1, 1, 0, 1]] false) (.seq (.region [mvD 21 1, oqD 22 (.call 40 [(tD 21)]) (.ent (e40 fu)), mvD 11 22] [[], [0], [1, 1, 0, 1]] false) (.seq (.seq (.region [mvD 23 10, opD 24 (.not (tD 23)), mvD 25 24, ogD 26 25 false (.mov (tD 11)), ogD 27 25 false (.not (tD 26)), opD 28 (.pick (tD 25) (.const (.bool true)) (tD 27)), mvD 29 28, ogD 30 29 false (.mov (tD 2)), ogD 31 29 false (.len false (tD 30)), ogD 32 29 false (.bin .eql (tD 31) (cD 0)), opD 33 (.pick (tD 29) (.const (.bool true)) (tD 32)), mvD 34 33, ogD 35 34 false (.mov (tD 3)), ogD 36 34 false (.len false (tD 35)), ogD 37 34 false (.bin .eql (tD 36) (cD 0)), opD 38 (.pick (tD 34) (.const (.bool true)) (tD 37))] [[], [0], [1], [2], [3, 2], [2, 4], [5, 2], [6], [7, 6], [8, 6], [6, 9], [10, 6], [11], [12, 11], [13, 11], [11, 14]] false) (.cond (.tmp 38) (.seq (.region [opD 8 (.mov (.const vS)), opD 9 (.mov (cD 1))] [[], [0, 0]] false) .ret) .skip)) (.seq (.region [opD 12 (.mov (.const vS))] [[]] false) (.seq (.region [oqD 39 (.bslice 40 2 0 [vT, vU] []) (.ty T_runtime_errorAddressString), mvD 40 0, oqD 41 (.app 40 2 [vT, vU] 24 (tD 39) (tD 40)) (.ty T_runtime_errorAddressString), mvD 42 1, oqD 43 (.app 40 2 [vT, vU] 24 (tD 41) (tD 42)) (.ty T_runtime_errorAddressString), mvD 13 43] [[], [], [0, 1], [], [2, 3, 2], [4, 4, 0, 1, 2, 3, 4]] false) (.seq (.seq (.region [opD 14 (.mov (cD 0))] [[]] false) (.block 0 (.loop ⟨[12, 14], (.cons (.own .own 40 T_runtime_errorAddressString) (.cons (.hole (.int .i64)) .nil)), [], .nil, [0, 1, 2, 3, 13], [400]⟩
 (.seq (.seq (.region [mvD 44 14, mvD 45 13, opD 46 (.len false (tD 45)), opD 47 (.bin .lss (tD 44) (tD 46))] [[], [], [1], [0, 2]] false) (.cond (.tmp 47) .skip (.exit 0))) (.seq (.block 1 (.seq (.region [mvD 51 0, mvD 52 13, mvD 53 14, opD 54 (.iaddr 2 (tD 52) (tD 53)), opD 55 (.faddr 0 (tD 54)), opD 56 (.load false 1 (tD 55)), oqD 57 (.call 34 [(tD 51), (tD 56)]) (.ent (e34 fu)), mvD 50 57, opD 58 (.ext (tD 50) 0), opD 59 (.ext (tD 50) 1), mvD 15 58, mvD 16 59] [[], [], [], [1, 2], [3], [4], [0, 5], [6], [7], [7], [8, 6, 0, 1, 2, 3, 4, 5, 6, 7, 8], [9, 10, 0, 1, 2, 3, 4, 5, 6, 7, 8, 9, 10]] false) (.seq (.region [mvD 61 1, mvD 62 13, mvD 63 14, opD 64 (.iaddr 2 (tD 62) (tD 63)), opD 65 (.faddr 0 (tD 64)), opD 66 (.load false 1 (tD 65)), oqD 67 (.call 34 [(tD 61), (tD 66)]) (.ent (e34 fu)), mvD 60 67, opD 68 (.ext (tD 60) 0), opD 69 (.ext (tD 60) 1), mvD 17 68, mvD 18 69] [[], [], [], [1, 2], [3], [4], [0, 5], [6], [7], [7], [8, 6, 0, 1, 2, 3, 4, 5, 6, 7, 8], [9, 10, 0, 1, 2, 3, 4, 5, 6, 7, 8, 9, 10]] false) (.region [mvD 70 12, mvD 71 13, mvD 72 14, opD 73 (.iaddr 2 (tD 71) (tD 72)), opD 74 (.faddr 0 (tD 73)), opD 75 (.load false 1 (tD 74)), mvD 76 2, mvD 77 15, oqD 78 (.call 63 [(tD 76), (tD 77)]) (.ent (e63 fu)), mvD 79 3, mvD 80 17, oqD 81 (.call 63 [(tD 79), (tD 80)]) (.ent (e63 fu)), opD 82 (.mm false (tD 78) (tD 81)), opD 83 (.build 2 [vT, vU] [(0, (1, (tD 75))), (1, (1, (tD 82)))]), oqD 84 (.call 62 [(tD 70), (tD 83)]) (.ent (e62 fu)), mvD 12 84] [[], [], [], [1, 2], [3], [4], [], [], [6, 7], [], [], [9, 10, 8], [8, 11], [5, 12], [0, 13, 11], [14, 14, 0, 1, 2, 3, 4, 5, 6, 7, 8, 9, 10, 11, 12, 13, 14]] true)))) (.region [mvD 48 14, opD 49 (.bin .add (tD 48) (cD 1)), mvD 14 49] [[], [0], [1, 0, 1]] false)))))) (.seq (.seq (.region [mvD 85 12, opD 86 (.len false (tD 85)), opD 87 (.bin .gtr (tD 86) (cD 64))] [[], [0], [1]] false) (.cond (.tmp 87) (.seq (.region [opD 8 (.mov (.const vS)), opD 9 (.mov (cD 143))] [[], [0, 0]] false) .ret) .skip)) (.seq (.region [mvD 88 12, mvD 8 88, opD 9 (.mov (cD 0))] [[], [0, 0], [1, 0, 1]] false) .ret)))))))))
set_option maxRecDepth 1000000 in
theorem v36 (fu : Nat) : evF fu (d36 fu) rs36 89 (e36 fu).ash (e36 fu).osh (e36 fu).vsh = p36 fu := by kernel_rfl
set_option maxRecDepth 1000000 in
theorem b36 (fu : Nat) : BodyD Try.prog 36 89 (d36 fu).erase rs36 := bodyD_mk Try.func36 (by kernel_rfl) (by kernel_rfl) (by kernel_rfl) (by kernel_rfl)
theorem g36 (fu : Nat) : (e36 fu).Good Try.prog := good_by orders (b36 fu) (l := [e40 fu, e40 fu, e34 fu, e34 fu, e63 fu, e63 fu, e62 fu]) (by kernel_rfl) ⟨g40 fu, g40 fu, g34 fu, g34 fu, g63 fu, g63 fu, g62 fu, trivial⟩ (by kernel_rfl) (v36 fu)
def rs7 : List RVx := [(.tmp 2)]
/-- gazette/gazettelaw14.RecordsReaders -/
def p7 (fu : Nat) : (Z2) × (Unit) → Option ((Unit) × (Bool)) := fun ⟨⟨a, c, f, h, i, j, k, _⟩, _⟩ =>
Option.bind (p11 fu ()) fun ⟨_, l⟩ =>
bif decide (0 = List.length ([] : List (D_runtime_errorAddressString))) then
 bif decide (List.length ([] : List (D_runtime_errorAddressString)) + List.length a ≤ maxLen ∧ (List.length ([] : List (D_runtime_errorAddressString)) + List.length a) * 24 ≤ 140737488355328) then
 bif decide (List.length (([] : List (D_runtime_errorAddressString)) ++ a) = List.length (([] : List (D_runtime_errorAddressString)) ++ a)) then
 Option.bind (p19 fu ((([] : List (D_runtime_errorAddressString)) ++ a), (f, h, ()), i, ())) fun ⟨_, ⟨m, n, _⟩⟩ =>
 Option.bind (p31 fu (a, (f, h, ()), i, ())) fun ⟨_, ⟨o, q, _⟩⟩ =>
 bif decide (List.length m = List.length m) then
 bif decide (List.length o = List.length o) then
 Option.bind (p32 fu (m, o, ())) fun ⟨_, s⟩ =>
 bif decide (List.length m = List.length m) then
 loopO (S := ((List (D_runtime_errorAddressString)) × ((Int) × (Unit))) × (Unit)) fu (fun ⟨⟨t, u, _⟩, _⟩ =>
 bif decide (u < ((List.length t) : Int)) then
 bif decide ((0 : Int) ≤ u ∧ u < (List.length t : Int)) then
 bif decide (Int.toNat u < List.length t) then
 bif decide ((0 : Int) ≤ u ∧ u < (List.length t : Int)) then
 bif decide (Int.toNat u < List.length t) then
 bif decide (List.length t = List.length (List.set t (Int.toNat u) ((List.getD t (Int.toNat u) (dflt T_runtime_errorAddressString)).1, IntKind.wrap .u64 (((List.getD t (Int.toNat u) (dflt T_runtime_errorAddressString)).2) + (1 : Int))))) then
 some (.inl (((List.set t (Int.toNat u) ((List.getD t (Int.toNat u) (dflt T_runtime_errorAddressString)).1, IntKind.wrap .u64 (((List.getD t (Int.toNat u) (dflt T_runtime_errorAddressString)).2) + (1 : Int)))), IntKind.wrap .i64 (u + (1 : Int)), ()), ()))
 else none
 else none
 else none
 else none
 else none
 else
 inrO (bif decide (List.length (([] : List (D_runtime_errorAddressString)) ++ a) = List.length (([] : List (D_runtime_errorAddressString)) ++ a)) then
 Option.bind (p33 fu ((([] : List (D_runtime_errorAddressString)) ++ a), f, ())) fun ⟨_, ⟨w, x, _⟩⟩ =>
 Option.bind (p34 fu (a, f, ())) fun ⟨_, ⟨y, z, _⟩⟩ =>
 bif decide (List.length (([] : List (D_runtime_errorAddressString)) ++ a) = List.length (([] : List (D_runtime_errorAddressString)) ++ a)) then
 Option.bind (p15 fu ((([] : List (D_runtime_errorAddressString)) ++ a), j, ())) fun ⟨_, a0⟩ =>
 Option.bind (p35 fu (a, j, ())) fun ⟨_, c0⟩ =>
 bif decide (List.length a0 = List.length a0) then
 bif decide (List.length c0 = List.length c0) then
 Option.bind (p32 fu (a0, c0, ())) fun ⟨_, f0⟩ =>
 bif decide (List.length (([] : List (D_runtime_errorAddressString)) ++ a) = List.length (([] : List (D_runtime_errorAddressString)) ++ a)) then
 Option.bind (p16 fu ((([] : List (D_runtime_errorAddressString)) ++ a), c, j, k, ())) fun ⟨_, ⟨h0, i0, _⟩⟩ =>
 Option.bind (p36 fu (a, c, j, k, ())) fun ⟨_, ⟨j0, k0, _⟩⟩ =>
 bif decide (List.length h0 = List.length h0) then
 bif decide (List.length j0 = List.length j0) then
 Option.bind (p32 fu (h0, j0, ())) fun ⟨_, l0⟩ =>
 bif decide (List.length (([] : List (D_runtime_errorAddressString)) ++ a) = List.length (([] : List (D_runtime_errorAddressString)) ++ a)) then
 Option.bind (p32 fu ((([] : List (D_runtime_errorAddressString)) ++ a), a, ())) fun ⟨_, m0⟩ =>
 bif l then
 bif s then
 bif f0 then
 bif l0 then
 bif m0 then
 bif (n == q) then
 bif (w == y) then
 bif x == z then
 bif (i0 == k0) then
 Option.bind (p37 fu (f, ())) fun ⟨_, n0⟩ =>
 Option.bind (p38 fu (f, ())) fun ⟨_, o0⟩ =>
 bif n0 == o0 then
 bif decide (List.length (([] : List (D_runtime_errorAddressString)) ++ a) = List.length (([] : List (D_runtime_errorAddressString)) ++ a)) then
 Option.bind (p39 fu ((([] : List (D_runtime_errorAddressString)) ++ a), ())) fun ⟨_, q0⟩ =>
 Option.bind (p40 fu (a, ())) fun ⟨_, s0⟩ =>
 some ((), q0 == s0)
 else none
 else
 some ((), false)
 else
 some ((), false)
 else
 some ((), false)
 else
 some ((), false)
 else
 some ((), false)
 else
 some ((), false)
 else
 some ((), false)
 else
 some ((), false)
 else
 some ((), false)
 else
 some ((), false)
 else none
 else none
 else none
 else none
 else none
 else none
 else none
 else none))
 ((m, (0 : Int), ()), ())
 else none
 else none
 else none
 else none
 else none
else none
def e7 (fu : Nat) : Ent := ⟨7, (.cons Y3 .nil), .nil, (.hole .bool), p7 fu⟩
def d7 (fu : Nat) : DC := (.seq (.region [opD 1 (.box 61 7 (tD 0)), opD 2 (.mov (.const vB))] [[], []] false) (.seq (.region [oqD 28 (.call 11 []) (.ent (e11 fu)), mvD 3 28] [[], [0, 0, 0]] false) (.seq (.region [opD 29 (.faddr 0 (tD 1)), opD 30 (.load false 1 (tD 29)), mvD 4 30] [[], [0], [1, 0, 1]] false) (.seq (.region [opD 31 (.faddr 1 (tD 1)), opD 32 (.load false 1 (tD 31)), mvD 5 32] [[], [0], [1, 0, 1]] false) (.seq (.region [opD 33 (.faddr 2 (tD 1)), opD 34 (.load true 2 (tD 33)), opD 6 (.alloc 40 2 [vT, vU]), onD (.store 2 (tD 6) (tD 34))] [[], [0], [], [2, 1, 0, 1, 2]] false) (.seq (.region [opD 35 (.faddr 4 (tD 1)), opD 36 (.load false 1 (tD 35)), mvD 7 36] [[], [0], [1, 0, 1]] false) (.seq (.region [opD 37 (.faddr 5 (tD 1)), opD 38 (.load false 1 (tD 37)), mvD 8 38] [[], [0], [1, 0, 1]] false) (.seq (.region [opD 39 (.faddr 6 (tD 1)), opD 40 (.load false 1 (tD 39)), mvD 9 40] [[], [0], [1, 0, 1]] false) (.seq (.region [oqD 41 (.bslice 40 2 0 [vT, vU] []) (.ty T_runtime_errorAddressString), mvD 42 4, oqD 43 (.app 40 2 [vT, vU] 24 (tD 41) (tD 42)) (.ty T_runtime_errorAddressString), mvD 10 43] [[], [], [0, 1], [2, 2, 0, 1, 2]] false) (.seq (.region [mvD 45 10, opD 46 (.load true 2 (tD 6)), mvD 47 7, oqD 48 (.call 19 [(tD 45), (tD 46), (tD 47)]) (.ent (e19 fu)), mvD 44 48, opD 49 (.ext (tD 44) 0), opD 50 (.ext (tD 44) 1), mvD 11 49, mvD 12 50] [[], [], [], [0, 1, 2], [3], [4], [4], [5, 3, 0, 1, 2, 3, 4, 5], [6, 7, 0, 1, 2, 3, 4, 5, 6, 7]] false) (.seq (.region [mvD 52 4, opD 53 (.load true 2 (tD 6)), mvD 54 7, oqD 55 (.call 31 [(tD 52), (tD 53), (tD 54)]) (.ent (e31 fu)), mvD 51 55, opD 56 (.ext (tD 51) 0), opD 57 (.ext (tD 51) 1), mvD 13 56, mvD 14 57] [[], [], [], [0, 1, 2], [3], [4], [4], [5, 3, 0, 1, 2, 3, 4, 5], [6, 7, 0, 1, 2, 3, 4, 5, 6, 7]] false) (.seq (.region [mvD 58 11, mvD 59 13, oqD 60 (.call 32 [(tD 58), (tD 59)]) (.ent (e32 fu)), mvD 15 60] [[], [], [0, 1], [2, 2, 0, 1, 2]] false) (.seq (.seq (.region [opD 16 (.mov (cD 0))] [[]] false) (.block 0 (.loop ⟨[11, 16], (.cons (.own .own 40 T_runtime_errorAddressString) (.cons (.hole (.int .i64)) .nil)), [], .nil, [3, 4, 5, 6, 8, 9, 10, 12, 14, 15], [192, 368]⟩
 (.seq (.seq (.region [mvD 61 16, mvD 62 11, opD 63 (.len false (tD 62)), opD 64 (.bin .lss (tD 61) (tD 63))] [[], [], [1], [0, 2]] false) (.cond (.tmp 64) .skip (.exit 0))) (.seq (.block 1 (.region [mvD 67 11, mvD 68 16, opD 69 (.iaddr 2 (tD 67) (tD 68)), opD 70 (.faddr 1 (tD 69)), opD 71 (.load false 1 (tD 70)), opD 72 (.bin .add (tD 71) (.const (.int .u64 1))), opD 73 (.iaddr 2 (tD 67) (tD 68)), opD 74 (.faddr 1 (tD 73)), onD (.store 1 (tD 74) (tD 72))] [[], [], [0, 1], [2], [3], [4], [0, 1, 0, 1, 2, 3, 4, 5], [6, 0, 1, 2, 3, 4, 5], [7, 5, 0, 1, 2, 3, 4, 5]] false)) (.region [mvD 65 16, opD 66 (.bin .add (tD 65) (cD 1)), mvD 16 66] [[], [0], [1, 0, 1]] false)))))) (.seq (.region [mvD 76 10, opD 77 (.faddr 0 (tD 6)), opD 78 (.load false 1 (tD 77)), oqD 79 (.call 33 [(tD 76), (tD 78)]) (.ent (e33 fu)), mvD 75 79, opD 80 (.ext (tD 75) 0), opD 81 (.ext (tD 75) 1), mvD 17 80, mvD 18 81] [[], [], [1], [0, 2], [3], [4], [4], [5, 3, 0, 1, 2, 3, 4, 5], [6, 7, 0, 1, 2, 3, 4, 5, 6, 7]] false) (.seq (.region [mvD 83 4, opD 84 (.faddr 0 (tD 6)), opD 85 (.load false 1 (tD 84)), oqD 86 (.call 34 [(tD 83), (tD 85)]) (.ent (e34 fu)), mvD 82 86, opD 87 (.ext (tD 82) 0), opD 88 (.ext (tD 82) 1), mvD 19 87, mvD 20 88] [[], [], [1], [0, 2], [3], [4], [4], [5, 3, 0, 1, 2, 3, 4, 5], [6, 7, 0, 1, 2, 3, 4, 5, 6, 7]] false) (.seq (.region [mvD 89 10, mvD 90 8, oqD 91 (.call 15 [(tD 89), (tD 90)]) (.ent (e15 fu)), mvD 92 4, mvD 93 8, oqD 94 (.call 35 [(tD 92), (tD 93)]) (.ent (e35 fu)), oqD 95 (.call 32 [(tD 91), (tD 94)]) (.ent (e32 fu)), mvD 21 95] [[], [], [0, 1], [], [], [3, 4, 2], [2, 5, 5], [6, 6, 0, 1, 2, 3, 4, 5, 6]] false) (.seq (.region [mvD 97 10, mvD 98 5, mvD 99 8, mvD 100 9, oqD 101 (.call 16 [(tD 97), (tD 98), (tD 99), (tD 100)]) (.ent (e16 fu)), mvD 96 101, opD 102 (.ext (tD 96) 0), opD 103 (.ext (tD 96) 1), mvD 22 102, mvD 23 103] [[], [], [], [], [0, 1, 2, 3], [4], [5], [5], [6, 4, 0, 1, 2, 3, 4, 5, 6], [7, 8, 0, 1, 2, 3, 4, 5, 6, 7, 8]] false) (.seq (.region [mvD 105 4, mvD 106 5, mvD 107 8, mvD 108 9, oqD 109 (.call 36 [(tD 105), (tD 106), (tD 107), (tD 108)]) (.ent (e36 fu)), mvD 104 109, opD 110 (.ext (tD 104) 0), opD 111 (.ext (tD 104) 1), mvD 24 110, mvD 25 111] [[], [], [], [], [0, 1, 2, 3], [4], [5], [5], [6, 4, 0, 1, 2, 3, 4, 5, 6], [7, 8, 0, 1, 2, 3, 4, 5, 6, 7, 8]] false) (.seq (.region [mvD 112 22, mvD 113 24, oqD 114 (.call 32 [(tD 112), (tD 113)]) (.ent (e32 fu)), mvD 26 114] [[], [], [0, 1], [2, 2, 0, 1, 2]] false) (.seq (.region [mvD 115 10, mvD 116 4, oqD 117 (.call 32 [(tD 115), (tD 116)]) (.ent (e32 fu)), mvD 27 117] [[], [], [0, 1], [2, 2, 0, 1, 2]] false) (.seq (.region [mvD 118 3, mvD 119 118, ogD 120 119 true (.mov (tD 15)), opD 121 (.pick (tD 119) (tD 120) (.const vB)), mvD 122 121, ogD 123 122 true (.mov (tD 21)), opD 124 (.pick (tD 122) (tD 123) (.const vB)), mvD 125 124, ogD 126 125 true (.mov (tD 26)), opD 127 (.pick (tD 125) (tD 126) (.const vB)), mvD 128 127, ogD 129 128 true (.mov (tD 27)), opD 130 (.pick (tD 128) (tD 129) (.const vB)), mvD 131 130, ogD 132 131 true (.mov (tD 12)), ogD 133 131 true (.mov (tD 14)), ogD 134 131 true (.bin .eql (tD 132) (tD 133)), opD 135 (.pick (tD 131) (tD 134) (.const vB)), mvD 136 135, ogD 137 136 true (.mov (tD 17)), ogD 138 136 true (.mov (tD 19)), ogD 139 136 true (.bin .eql (tD 137) (tD 138)), opD 140 (.pick (tD 136) (tD 139) (.const vB)), mvD 141 140, ogD 142 141 true (.mov (tD 18)), ogD 143 141 true (.mov (tD 20)), ogD 144 141 true (.beq false (tD 142) (tD 143)), opD 145 (.pick (tD 141) (tD 144) (.const vB)), mvD 146 145, ogD 147 146 true (.mov (tD 23)), ogD 148 146 true (.mov (tD 25)), ogD 149 146 true (.bin .eql (tD 147) (tD 148)), opD 150 (.pick (tD 146) (tD 149) (.const vB)), mvD 151 150, ogD 152 151 true (.faddr 0 (tD 6)), ogD 153 151 true (.load false 1 (tD 152)), (⟨(some 154), (some (151, true)), (.call 37 [(tD 153)])⟩, (.ent (e37 fu))), ogD 155 151 true (.faddr 0 (tD 6)), ogD 156 151 true (.load false 1 (tD 155)), (⟨(some 157), (some (151, true)), (.call 38 [(tD 156)])⟩, (.ent (e38 fu))), ogD 158 151 true (.beq false (tD 154) (tD 157)), opD 159 (.pick (tD 151) (tD 158) (.const vB)), mvD 160 159, ogD 161 160 true (.mov (tD 10)), (⟨(some 162), (some (160, true)), (.call 39 [(tD 161)])⟩, (.ent (e39 fu))), ogD 163 160 true (.mov (tD 4)), (⟨(some 164), (some (160, true)), (.call 40 [(tD 163)])⟩, (.ent (e40 fu))), ogD 165 160 true (.beq false (tD 162) (tD 164)), opD 166 (.pick (tD 160) (tD 165) (.const vB)), mvD 2 166] [[], [0], [1], [1, 2], [3, 1], [4], [4, 5], [6, 4], [7], [7, 8], [9, 7], [10], [10, 11], [12, 10], [13], [13], [14, 15, 13], [13, 16], [17, 13], [18], [18], [19, 20, 18], [18, 21], [22, 18], [23], [23], [24, 25, 23], [23, 26], [27, 23], [28], [28], [29, 30, 28], [28, 31], [32, 28], [33], [34, 33], [35, 33, 33], [33], [37, 33], [38, 36, 33], [36, 39, 33], [33, 40], [41, 39], [42], [43, 42, 42], [42], [45, 44, 42], [44, 46, 42], [42, 47], [48, 46, 0, 1, 2, 3, 4, 5, 6, 7, 8, 9, 10, 11, 12, 13, 14, 15, 16, 17, 18, 19, 20, 21, 22, 23, 24, 25, 26, 27, 28, 29, 30, 31, 32, 33, 34, 35, 36, 37, 38, 39, 40, 41, 42, 43, 44, 45, 46, 47, 48]] true) .ret)))))))))))))))))))))
set_option maxRecDepth 1000000 in
theorem v7 (fu : Nat) : evF fu (d7 fu) rs7 167 (e7 fu).ash (e7 fu).osh (e7 fu).vsh = p7 fu := by kernel_rfl
set_option maxRecDepth 1000000 in
theorem b7 (fu : Nat) : BodyD Try.prog 7 167 (d7 fu).erase rs7 := bodyD_mk Try.func7 (by kernel_rfl) (by kernel_rfl) (by kernel_rfl) (by kernel_rfl)
theorem g7 (fu : Nat) : (e7 fu).Good Try.prog := good_by orders (b7 fu) (l := [e11 fu, e19 fu, e31 fu, e32 fu, e33 fu, e34 fu, e15 fu, e35 fu, e32 fu, e16 fu, e36 fu, e32 fu, e32 fu, e37 fu, e38 fu, e39 fu, e40 fu]) (by kernel_rfl) ⟨g11 fu, g19 fu, g31 fu, g32 fu, g33 fu, g34 fu, g15 fu, g35 fu, g32 fu, g16 fu, g36 fu, g32 fu, g32 fu, g37 fu, g38 fu, g39 fu, g40 fu, trivial⟩ (by kernel_rfl) (v7 fu)
end Go.Proofs.Ytgneanhmjkdkaaa
