/-
  The functions, typed.
-/
import Derived.Test.YtgneanhmjkdkaaaInC
import Derived.Test.YtgneanhmjkdkaaaCpE
import Derived.Test.YtgneanhmjkdkaaaNsE
import Derived.Test.YtgneanhmjkdkaaaDaL
import Derived.Test.YtgneanhmjkdkaaaRows
namespace Go.Proofs.Ytgneanhmjkdkaaa
open Go.RowKit
abbrev T_runtime_errorAddressString : Tp := (.pair .str (.int .u64))
abbrev D_runtime_errorAddressString := (ByteArray) × (Int)
abbrev T_api_Range : Tp := (.pair .str .str)
abbrev D_api_Range := (ByteArray) × (ByteArray)
abbrev T_keyrange_bound : Tp := (.pair .str .bool)
abbrev D_keyrange_bound := (ByteArray) × (Bool)
abbrev T_runtime_boundsError : Tp := (.pair (.int .i64) (.pair (.int .i64) (.pair .bool (.int .u8))))
abbrev D_runtime_boundsError := (Int) × ((Int) × ((Bool) × (Int)))
abbrev T_api_Record : Tp := (.pair (.int .u64) (.pair .str (.pair (.sl (.int .u8)) (.pair (.int .u64) (.int .u64)))))
abbrev D_api_Record := (Int) × ((ByteArray) × ((List (Int)) × ((Int) × (Int))))
abbrev T_gazettelaw14_Readers : Tp := (.pair (.sl T_runtime_errorAddressString) (.pair (.sl T_runtime_errorAddressString) (.pair T_runtime_errorAddressString (.pair (.int .u64) (.pair (.sl (.int .u64)) (.sl (.int .u64)))))))
abbrev D_gazettelaw14_Readers := (List (D_runtime_errorAddressString)) × ((List (D_runtime_errorAddressString)) × ((D_runtime_errorAddressString) × ((Int) × ((List (Int)) × (List (Int))))))
abbrev T_gazettelaw14_Logs : Tp := (.pair (.sl T_api_Record) (.pair (.int .u16) (.pair T_api_Record (.pair (.int .u64) (.int .i64)))))
abbrev D_gazettelaw14_Logs := (List (D_api_Record)) × ((Int) × ((D_api_Record) × ((Int) × (Int))))
abbrev T_gazettelaw14_Unread : Tp := (.pair (.sl T_api_Record) (.pair (.sl T_api_Record) (.pair T_api_Range (.pair (.int .u16) (.int .u16)))))
abbrev D_gazettelaw14_Unread := (List (D_api_Record)) × ((List (D_api_Record)) × ((D_api_Range) × ((Int) × (Int))))
theorem orders : Try.prog.follows .mixedOrders = true := by kernel_rfl
abbrev Y0 : Sh := (.agg 5 (.cons (.hole (.int .u64)) (.cons (.hole .str) (.cons (.hole (.sl (.int .u8))) (.cons (.hole (.int .u64)) (.cons (.hole (.int .u64)) .nil))))))
abbrev Y1 : Sh := (.agg 5 (.cons (.hole (.int .u64)) (.cons (.hole .str) (.cons (.own .own 5 (.int .u8)) (.cons (.hole (.int .u64)) (.cons (.hole (.int .u64)) .nil))))))
abbrev Y2 : Sh := (.box 83 3 (.cons (.hole (.sl T_api_Record)) (.cons (.own .own 27 (.int .u64)) (.cons (.mown false (.int .u64) (.sl (.int .u64))) .nil))))
abbrev Y3 : Sh := (.agg 3 (.cons (.hole (.sl T_api_Record)) (.cons (.own .own 27 (.int .u64)) (.cons (.mown false (.int .u64) (.sl (.int .u64))) .nil))))
abbrev Y4 : Sh := (.tup 4 (.cons (.own .own 30 T_api_Record) (.cons (.own .own 27 (.int .u64)) (.cons (.own .own 27 (.int .u64)) (.cons (.hole (.int .i64)) .nil)))))
def rs56 : List RVx := [(.tmp 2)]
/-- gazette/records.refuses -/
def p56 (_ : Nat) : ((Int) × ((ByteArray) × ((List (Int)) × ((Int) × ((Int) × (Unit)))))) × (Unit) → Option ((Unit) × (Int)) := fun ⟨⟨_, a, c, _, _, _⟩, _⟩ =>
bif decide ((ByteArray.size a : Int) > (32 : Int)) then
 some ((), (131 : Int))
else
 bif decide ((List.length c : Int) > (256 : Int)) then
 some ((), (144 : Int))
 else
 some ((), (0 : Int))
def e56 (fu : Nat) : Ent := ⟨56, (.cons Y0 .nil), .nil, (.hole (.int .i64)), p56 fu⟩
def d56 (_ : Nat) : DC := (.seq (.region [opD 1 (.box 30 5 (tD 0)), opD 2 (.mov (cD 0))] [[], []] false) (.seq (.block 0 (.seq (.region [opD 4 (.faddr 1 (tD 1)), opD 5 (.load false 1 (tD 4)), opD 6 (.len true (tD 5)), opD 7 (.bin .gtr (tD 6) (cD 32)), mvD 3 7] [[], [0], [1], [2], [3]] false) (.cond (.tmp 3) (.seq (.region [opD 2 (.mov (cD 131))] [[]] false) .ret) (.seq (.region [opD 9 (.faddr 2 (tD 1)), opD 10 (.load false 1 (tD 9)), opD 11 (.len false (tD 10)), opD 12 (.bin .gtr (tD 11) (cD 256)), mvD 8 12] [[], [0], [1], [2], [3]] false) (.cond (.tmp 8) (.seq (.region [opD 2 (.mov (cD 144))] [[]] false) .ret) .skip))))) (.seq (.region [opD 2 (.mov (cD 0))] [[]] false) .ret)))
set_option maxRecDepth 1000000 in
theorem v56 (fu : Nat) : evF fu (d56 fu) rs56 13 (e56 fu).ash (e56 fu).osh (e56 fu).vsh = p56 fu := by kernel_rfl
set_option maxRecDepth 1000000 in
theorem b56 (fu : Nat) : BodyD Try.prog 56 13 (d56 fu).erase rs56 := bodyD_mk Try.func56 (by kernel_rfl) (by kernel_rfl) (by kernel_rfl) (by kernel_rfl)
theorem g56 (fu : Nat) : (e56 fu).Good Try.prog := good_by orders (b56 fu) (l := []) (by kernel_rfl) trivial (by kernel_rfl) (v56 fu)
def rs27 : List RVx := [(.tmp 2)]
/-- gazette/records.Log -/
def p27 (fu : Nat) : (List (D_api_Record)) × (Unit) → Option ((Unit) × (Bool)) := fun ⟨a, _⟩ =>
loopO (S := ((Int) × (Unit)) × (Unit)) fu (fun ⟨⟨c, _⟩, _⟩ =>
 bif decide (c < (List.length a : Int)) then
 bif decide ((0 : Int) ≤ c ∧ c < (List.length a : Int)) then
 bif decide (Int.toNat c < List.length a) then
 bif (((List.getD a (Int.toNat c) (dflt T_api_Record)).1) != (IntKind.wrap .u64 c)) then
 inrO (some ((), false))
 else
 Option.bind (p56 fu (((List.getD a (Int.toNat c) (dflt T_api_Record)).1, ((List.getD a (Int.toNat c) (dflt T_api_Record)).2).1, (((List.getD a (Int.toNat c) (dflt T_api_Record)).2).2).1, ((((List.getD a (Int.toNat c) (dflt T_api_Record)).2).2).2).1, ((((List.getD a (Int.toNat c) (dflt T_api_Record)).2).2).2).2, ()), ())) fun ⟨_, f⟩ =>
 bif (f != (0 : Int)) then
 inrO (some ((), false))
 else
 some (.inl ((IntKind.wrap .i64 (c + (1 : Int)), ()), ()))
 else none
 else none
 else
 inrO (some ((), decide ((List.length a : Int) ≤ (4096 : Int)))))
 (((0 : Int), ()), ())
def e27 (fu : Nat) : Ent := ⟨27, (.cons (.hole (.sl T_api_Record)) .nil), .nil, (.hole .bool), p27 fu⟩
def d27 (fu : Nat) : DC := (.seq (.region [opD 2 (.mov (.const vB))] [[]] false) (.seq (.seq (.region [mvD 5 0, opD 6 (.len false (tD 5)), opD 7 (.mov (cD 0))] [[], [0], []] false) (.block 0 (.loop ⟨[7], (.cons (.hole (.int .i64)) .nil), [], .nil, [0, 5, 6], []⟩
 (.seq (.region [opD 8 (.bin .lss (tD 7) (tD 6))] [[]] false) (.seq (.cond (.tmp 8) .skip (.exit 0)) (.seq (.block 1 (.seq (.region [mvD 9 7, opD 10 (.iaddr 5 (tD 5) (tD 7)), opD 11 (.load true 5 (tD 10)), opD 4 (.alloc 30 5 [vU, vT, vS, vU, vU]), mvD 3 9, onD (.store 5 (tD 4) (tD 11))] [[], [], [1], [], [0, 0, 1, 2, 3], [3, 2, 4, 0, 1, 2, 3, 4]] false) (.seq (.region [opD 12 (.faddr 0 (tD 4)), opD 13 (.load false 1 (tD 12)), mvD 14 3, opD 15 (.conv .u64 (tD 14)), opD 16 (.bin .neq (tD 13) (tD 15)), mvD 17 16, ogD 18 17 false (.load true 5 (tD 4)), (⟨(some 19), (some (17, false)), (.call 56 [(tD 18)])⟩, (.ent (e56 fu))), ogD 20 17 false (.bin .neq (tD 19) (cD 0)), opD 21 (.pick (tD 17) (.const (.bool true)) (tD 20))] [[], [0], [], [2], [1, 3], [4], [5], [6, 5, 5], [7, 5], [5, 8]] false) (.cond (.tmp 21) (.seq (.region [opD 2 (.mov (.const vB))] [[]] false) .ret) .skip)))) (.region [opD 22 (.bin .add (tD 7) (cD 1)), mvD 7 22] [[], [0]] false))))))) (.seq (.region [mvD 23 0, opD 24 (.len false (tD 23)), opD 25 (.bin .leq (tD 24) (cD 4096)), mvD 2 25] [[], [0], [1], [2, 0, 1, 2]] false) .ret)))
set_option maxRecDepth 1000000 in
theorem v27 (fu : Nat) : evF fu (d27 fu) rs27 26 (e27 fu).ash (e27 fu).osh (e27 fu).vsh = p27 fu := by kernel_rfl
set_option maxRecDepth 1000000 in
theorem b27 (fu : Nat) : BodyD Try.prog 27 26 (d27 fu).erase rs27 := bodyD_mk Try.func27 (by kernel_rfl) (by kernel_rfl) (by kernel_rfl) (by kernel_rfl)
theorem g27 (fu : Nat) : (e27 fu).Good Try.prog := good_by orders (b27 fu) (l := [e56 fu]) (by kernel_rfl) ⟨g56 fu, trivial⟩ (by kernel_rfl) (v27 fu)
def rs75 : List RVx := [(.tmp 2)]
/-- gazette/copies.newRoom -/
def p75 (_ : Nat) : (Int) × (Unit) → Option ((Unit) × ((List (Int)) × (Unit))) := fun ⟨a, _⟩ =>
bif decide ((0 : Int) ≤ 0 ∧ (0 : Int) ≤ a ∧ (a : Int) ≤ 9223372036854775807 ∧ (1 : Int) * a ≤ 140737488355328) then
 bif decide (0 = List.length (List.replicate 0 (0 : Int) : List (Int))) then
 some ((), ((List.replicate 0 (0 : Int) : List (Int)), ()))
 else none
else none
def e75 (fu : Nat) : Ent := ⟨75, (.cons (.hole (.int .i64)) .nil), .nil, (.box 114 1 (.cons (.own .app 5 (.int .u8)) .nil)), p75 fu⟩
def d75 (_ : Nat) : DC := (.seq (.region [opD 2 (.mov (.const (.pointer none)))] [[]] false) (.seq (.region [mvD 4 0, oqD 5 (.make true 5 1 [(.int .u8 0)] 1 (cD 0) (tD 4)) (.ty (.int .u8)), opD 3 (.alloc 114 1 [vS]), onD (.store 1 (tD 3) (tD 5))] [[], [0], [], [2, 1, 0, 1, 2]] false) (.seq (.region [mvD 2 3] [[]] false) .ret)))
set_option maxRecDepth 1000000 in
theorem v75 (fu : Nat) : evF fu (d75 fu) rs75 6 (e75 fu).ash (e75 fu).osh (e75 fu).vsh = p75 fu := by kernel_rfl
set_option maxRecDepth 1000000 in
theorem b75 (fu : Nat) : BodyD Try.prog 75 6 (d75 fu).erase rs75 := bodyD_mk Try.func75 (by kernel_rfl) (by kernel_rfl) (by kernel_rfl) (by kernel_rfl)
theorem g75 (fu : Nat) : (e75 fu).Good Try.prog := good_by orders (b75 fu) (l := []) (by kernel_rfl) trivial (by kernel_rfl) (v75 fu)
def rs78 : List RVx := [(.tmp 4)]
/-- (*gazette/copies.room).copied -/
def p78 (_ : Nat) : ((List (Int)) × (Unit)) × ((List (Int)) × (Unit)) → Option ((((List (Int)) × (Unit)) × ((Unit) × (Unit))) × (List (Int))) := fun ⟨⟨a, _⟩, c, _⟩ =>
bif ((List.length c : Int) == (0 : Int)) then
 bif decide (List.length a = List.length a) then
 some (((a, ()), (), ()), [])
 else none
else
 bif decide (List.length a = List.length a) then
 bif decide (List.length a + List.length c ≤ maxLen ∧ (List.length a + List.length c) * 1 ≤ 140737488355328) then
 bif decide ((0 : Int) ≤ ((List.length (a ++ c)) : Int)) then
 bif decide ((0 : Int) ≤ ((List.length (a ++ c)) : Int)) then
 bif decide ((0 : Int) ≤ ((List.length a) : Int)) then
 bif decide (Int.toNat ((List.length a) : Int) ≤ Int.toNat ((List.length (a ++ c)) : Int) ∧ Int.toNat ((List.length (a ++ c)) : Int) ≤ Int.toNat ((List.length (a ++ c)) : Int) ∧ Int.toNat ((List.length (a ++ c)) : Int) ≤ List.length (a ++ c) ∧ 0 + (List.length (a ++ c)) ≤ List.length (a ++ c)) then
 bif decide (List.length (a ++ c) = List.length (a ++ c)) then
 some ((((a ++ c), ()), (), ()), slice' (a ++ c) (Int.toNat ((List.length a) : Int)) (some (Int.toNat ((List.length (a ++ c)) : Int))))
 else none
 else none
 else none
 else none
 else none
 else none
 else none
def e78 (fu : Nat) : Ent := ⟨78, (.cons (.box 114 1 (.cons (.own .app 5 (.int .u8)) .nil)) (.cons (.hole (.sl (.int .u8))) .nil)), (.cons (.agg 1 (.cons (.own .app 5 (.int .u8)) .nil)) (.cons .dead .nil)), (.hole (.sl (.int .u8))), p78 fu⟩
def d78 (_ : Nat) : DC := (.seq (.region [opD 4 (.mov (.const vS))] [[]] false) (.seq (.seq (.region [mvD 7 1, opD 8 (.len false (tD 7)), opD 9 (.bin .eql (tD 8) (cD 0))] [[], [0], [1]] false) (.cond (.tmp 9) (.seq (.region [opD 4 (.mov (.const vS))] [[]] false) .ret) .skip)) (.seq (.region [mvD 10 0, opD 11 (.pure .nilc [(tD 10)]), opD 12 (.load false 1 (tD 11)), opD 13 (.len false (tD 12)), mvD 5 13] [[], [0], [1], [2], [3, 0, 1, 2, 3]] false) (.seq (.region [mvD 14 0, mvD 15 0, opD 16 (.pure .nilc [(tD 15)]), opD 17 (.load false 1 (tD 16)), mvD 18 1, oqD 19 (.app 5 1 [(.int .u8 0)] 1 (tD 17) (tD 18)) (.ty (.int .u8)), opD 20 (.pure .nilc [(tD 14)]), onD (.store 1 (tD 20) (tD 19))] [[], [], [1], [2], [], [3, 4], [0, 0, 1, 2, 3, 4, 5], [6, 5, 5, 0, 1, 2, 3, 4, 5]] false) (.seq (.region [mvD 21 0, opD 22 (.pure .nilc [(tD 21)]), opD 23 (.load false 1 (tD 22)), opD 24 (.len false (tD 23)), mvD 6 24] [[], [0], [1], [2], [3, 0, 1, 2, 3]] false) (.seq (.region [mvD 25 0, opD 26 (.pure .nilc [(tD 25)]), opD 27 (.load false 1 (tD 26)), mvD 28 5, mvD 29 6, mvD 30 6, opD 31 (.slc3 1 (tD 27) (some (tD 28)) (some (tD 29)) (some (tD 30))), mvD 4 31] [[], [0], [1], [], [], [], [2, 3, 4, 5], [6, 0, 1, 2, 3, 4, 5, 6]] false) .ret))))))
set_option maxRecDepth 1000000 in
theorem v78 (fu : Nat) : evF fu (d78 fu) rs78 32 (e78 fu).ash (e78 fu).osh (e78 fu).vsh = p78 fu := by kernel_rfl
set_option maxRecDepth 1000000 in
theorem b78 (fu : Nat) : BodyD Try.prog 78 32 (d78 fu).erase rs78 := bodyD_mk Try.func78 (by kernel_rfl) (by kernel_rfl) (by kernel_rfl) (by kernel_rfl)
theorem g78 (fu : Nat) : (e78 fu).Good Try.prog := good_by orders (b78 fu) (l := []) (by kernel_rfl) trivial (by kernel_rfl) (v78 fu)
def rs77 : List RVx := [(.cell 3 true 5)]
/-- gazette/copies.Records$1 -/
def p77 (fu : Nat) : ((Int) × ((ByteArray) × ((List (Int)) × ((Int) × ((Int) × (Unit)))))) × ((((List (Int)) × (Unit)) × (Unit)) × (Unit)) → Option ((((Unit) × (Unit)) × (((List (Int)) × (Unit)) × ((Unit) × (Unit)))) × ((Int) × ((ByteArray) × ((List (Int)) × ((Int) × ((Int) × (Unit))))))) := fun ⟨⟨a, c, f, h, i, _⟩, ⟨⟨j, _⟩, _⟩, _⟩ =>
bif decide (List.length j = List.length j) then
 Option.bind (p78 fu ((j, ()), f, ())) fun ⟨⟨⟨k, _⟩, _, _⟩, l⟩ =>
 bif decide (List.length k = List.length k) then
 some ((((), ()), (k, ()), (), ()), (a, c, l, h, i, ()))
 else none
else none
def e77 (fu : Nat) : Ent := ⟨77, (.cons Y0 (.cons (.box 108 1 (.cons (.box 114 1 (.cons (.own .app 5 (.int .u8)) .nil)) .nil)) .nil)), (.cons (.agg 1 (.cons (.ptr 1) .nil)) (.cons (.agg 1 (.cons (.own .app 5 (.int .u8)) .nil)) (.cons .dead .nil))), Y0, p77 fu⟩
def d77 (fu : Nat) : DC := (.seq (.region [opD 2 (.box 30 5 (tD 0)), opD 3 (.alloc 30 5 [vU, vT, vS, vU, vU])] [[], []] false) (.seq (.region [opD 4 (.load false 1 (tD 1)), opD 5 (.faddr 2 (tD 2)), opD 6 (.load false 1 (tD 5)), oqD 7 (.call 78 [(tD 4), (tD 6)]) (.ent (e78 fu)), opD 8 (.faddr 2 (tD 2)), onD (.store 1 (tD 8) (tD 7))] [[], [], [1], [0, 2], [0, 1, 2, 3], [4, 3, 3, 0, 1, 2, 3]] false) (.seq (.region [opD 9 (.load true 5 (tD 2)), onD (.store 5 (tD 3) (tD 9))] [[], [0, 0]] false) .ret)))
set_option maxRecDepth 1000000 in
theorem v77 (fu : Nat) : evF fu (d77 fu) rs77 10 (e77 fu).ash (e77 fu).osh (e77 fu).vsh = p77 fu := by kernel_rfl
set_option maxRecDepth 1000000 in
theorem b77 (fu : Nat) : BodyD Try.prog 77 10 (d77 fu).erase rs77 := bodyD_mk Try.func77 (by kernel_rfl) (by kernel_rfl) (by kernel_rfl) (by kernel_rfl)
theorem g77 (fu : Nat) : (e77 fu).Good Try.prog := good_by orders (b77 fu) (l := [e78 fu]) (by kernel_rfl) ⟨g78 fu, trivial⟩ (by kernel_rfl) (v77 fu)
def rs76 : List RVx := [(.tmp 4)]
/-- gazette/copies.Each[gazette/api.Record] -/
def p76 (fu : Nat) : (List (D_api_Record)) × (((Unit) × ((((List (Int)) × (Unit)) × (Unit)) × (Unit))) × (Unit)) → Option ((((Unit) × (Unit)) × (((List (Int)) × (Unit)) × ((Unit) × (Unit)))) × (List (D_api_Record))) := fun ⟨a, ⟨_, ⟨⟨⟨c, _⟩, _⟩, _⟩⟩, _⟩ =>
bif ((List.length a : Int) == (0 : Int)) then
 bif decide (List.length c = List.length c) then
 some ((((), ()), (c, ()), (), ()), [])
 else none
else
 bif decide ((0 : Int) ≤ (List.length a : Int) ∧ ((List.length a : Int) : Int) ≤ (List.length a : Int) ∧ ((List.length a : Int) : Int) ≤ 9223372036854775807 ∧ (64 : Int) * (List.length a : Int) ≤ 140737488355328) then
 bif decide (Int.toNat (List.length a : Int) = List.length (List.replicate (Int.toNat (List.length a : Int)) ((0 : Int), (⟨#[]⟩ : ByteArray), [], (0 : Int), (0 : Int)) : List (D_api_Record))) then
 bif decide (List.length c = List.length c) then
 loopO (S := ((List (D_api_Record)) × ((Int) × (Unit))) × (((Unit) × (Unit)) × (((List (Int)) × (Unit)) × (Unit)))) fu (fun ⟨⟨f, h, _⟩, ⟨⟨_, _⟩, ⟨i, _⟩, _⟩⟩ =>
 bif decide (h < (List.length a : Int)) then
 bif decide ((0 : Int) ≤ h ∧ h < (List.length a : Int)) then
 bif decide (Int.toNat h < List.length a) then
 bif decide (List.length i = List.length i) then
 Option.bind (p77 fu (((List.getD a (Int.toNat h) (dflt T_api_Record)).1, ((List.getD a (Int.toNat h) (dflt T_api_Record)).2).1, (((List.getD a (Int.toNat h) (dflt T_api_Record)).2).2).1, ((((List.getD a (Int.toNat h) (dflt T_api_Record)).2).2).2).1, ((((List.getD a (Int.toNat h) (dflt T_api_Record)).2).2).2).2, ()), ((i, ()), ()), ())) fun ⟨⟨⟨_, _⟩, ⟨j, _⟩, _, _⟩, ⟨k, l, m, n, o, _⟩⟩ =>
 bif decide ((0 : Int) ≤ h ∧ h < (List.length f : Int)) then
 bif decide (Int.toNat h < List.length f) then
 bif decide (List.length f = List.length (List.set f (Int.toNat h) (k, l, m, n, o))) then
 bif decide (List.length j = List.length j) then
 some (.inl (((List.set f (Int.toNat h) (k, l, m, n, o)), IntKind.wrap .i64 (h + (1 : Int)), ()), (((), ()), (j, ()), ())))
 else none
 else none
 else none
 else none
 else none
 else none
 else none
 else
 inrO (bif decide (List.length i = List.length i) then
 bif decide (List.length f = List.length f) then
 some ((((), ()), (i, ()), (), ()), f)
 else none
 else none))
 (((List.replicate (Int.toNat (List.length a : Int)) ((0 : Int), (⟨#[]⟩ : ByteArray), [], (0 : Int), (0 : Int)) : List (D_api_Record)), (0 : Int), ()), (((), ()), (c, ()), ()))
 else none
 else none
 else none
def e76 (fu : Nat) : Ent := ⟨76, (.cons (.hole (.sl T_api_Record)) (.cons (.clo 77 0 .nil 1 (.cons (.box 108 1 (.cons (.box 114 1 (.cons (.own .app 5 (.int .u8)) .nil)) .nil)) .nil)) .nil)), (.cons (.agg 1 (.cons (.ptr 1) .nil)) (.cons (.agg 1 (.cons (.own .app 5 (.int .u8)) .nil)) (.cons .dead .nil))), (.own .own 30 T_api_Record), p76 fu⟩
def d76 (fu : Nat) : DC := (.seq (.region [opD 4 (.mov (.const vS))] [[]] false) (.seq (.seq (.region [mvD 8 0, opD 9 (.len false (tD 8)), opD 10 (.bin .eql (tD 9) (cD 0))] [[], [0], [1]] false) (.cond (.tmp 10) (.seq (.region [opD 4 (.mov (.const vS))] [[]] false) .ret) .skip)) (.seq (.region [mvD 11 0, opD 12 (.len false (tD 11)), oqD 13 (.make false 30 5 [vU, vT, vS, vU, vU] 64 (tD 12) (tD 12)) (.ty T_api_Record), mvD 5 13] [[], [0], [1, 1], [2, 0, 1, 2]] false) (.seq (.seq (.region [mvD 14 0, opD 15 (.len false (tD 14)), opD 16 (.mov (cD 0))] [[], [0], []] false) (.block 0 (.loop ⟨[5, 16], (.cons (.own .own 30 T_api_Record) (.cons (.hole (.int .i64)) .nil)), [(0, 108, 1), (1, 114, 1)], (.cons (.agg 1 (.cons (.ptr 1) .nil)) (.cons (.agg 1 (.cons (.own .app 5 (.int .u8)) .nil)) .nil)), [1, 14, 15], [2]⟩
 (.seq (.region [opD 17 (.bin .lss (tD 16) (tD 15))] [[]] false) (.seq (.cond (.tmp 17) .skip (.exit 0)) (.seq (.block 1 (.seq (.region [mvD 18 16, opD 19 (.iaddr 5 (tD 14) (tD 16)), opD 20 (.load true 5 (tD 19)), opD 7 (.alloc 30 5 [vU, vT, vS, vU, vU]), mvD 6 18, onD (.store 5 (tD 7) (tD 20))] [[], [], [1], [], [0, 0, 1, 2, 3], [3, 2, 4, 0, 1, 2, 3, 4]] false) (.region [mvD 21 5, mvD 22 6, mvD 23 1, opD 24 (.load true 5 (tD 7)), oqD 25 (.callv (tD 23) [(tD 24)]) (.ent (e77 fu)), opD 26 (.iaddr 5 (tD 21) (tD 22)), onD (.store 5 (tD 26) (tD 25))] [[], [], [], [], [2, 3], [0, 1, 0, 1, 2, 3, 4], [5, 4, 4, 0, 1, 2, 3, 4]] false))) (.region [opD 27 (.bin .add (tD 16) (cD 1)), mvD 16 27] [[], [0]] false))))))) (.seq (.region [mvD 28 5, mvD 4 28] [[], [0, 0]] false) .ret)))))
set_option maxRecDepth 1000000 in
theorem v76 (fu : Nat) : evF fu (d76 fu) rs76 29 (e76 fu).ash (e76 fu).osh (e76 fu).vsh = p76 fu := by kernel_rfl
set_option maxRecDepth 1000000 in
theorem b76 (fu : Nat) : BodyD Try.prog 76 29 (d76 fu).erase rs76 := bodyD_mk Try.func76 (by kernel_rfl) (by kernel_rfl) (by kernel_rfl) (by kernel_rfl)
theorem g76 (fu : Nat) : (e76 fu).Good Try.prog := good_by orders (b76 fu) (l := [e77 fu]) (by kernel_rfl) ⟨g77 fu, trivial⟩ (by kernel_rfl) (v76 fu)
def rs57 : List RVx := [(.tmp 2)]
/-- gazette/copies.Records -/
def p57 (fu : Nat) : (List (D_api_Record)) × (Unit) → Option ((Unit) × (List (D_api_Record))) := fun ⟨a, _⟩ =>
loopO (S := ((Int) × ((Int) × (Unit))) × (Unit)) fu (fun ⟨⟨c, f, _⟩, _⟩ =>
 bif decide (f < (List.length a : Int)) then
 bif decide ((0 : Int) ≤ f ∧ f < (List.length a : Int)) then
 bif decide (Int.toNat f < List.length a) then
 some (.inl ((IntKind.wrap .i64 (c + (List.length ((((List.getD a (Int.toNat f) (dflt T_api_Record)).2).2).1) : Int)), IntKind.wrap .i64 (f + (1 : Int)), ()), ()))
 else none
 else none
 else
 inrO (Option.bind (p75 fu (c, ())) fun ⟨_, ⟨h, _⟩⟩ =>
 bif decide (List.length h = List.length h) then
 Option.bind (p76 fu (a, ((), (((h, ()), ()), ())), ())) fun ⟨⟨⟨_, _⟩, ⟨_, _⟩, _, _⟩, i⟩ =>
 bif decide (List.length i = List.length i) then
 some ((), i)
 else none
 else none))
 (((0 : Int), (0 : Int), ()), ())
def e57 (fu : Nat) : Ent := ⟨57, (.cons (.hole (.sl T_api_Record)) .nil), .nil, (.own .own 30 T_api_Record), p57 fu⟩
def d57 (fu : Nat) : DC := (.seq (.region [opD 2 (.mov (.const vS))] [[]] false) (.seq (.region [opD 3 (.mov (cD 0))] [[]] false) (.seq (.seq (.region [mvD 6 0, opD 7 (.len false (tD 6)), opD 8 (.mov (cD 0))] [[], [0], []] false) (.block 0 (.loop ⟨[3, 8], (.cons (.hole (.int .i64)) (.cons (.hole (.int .i64)) .nil)), [], .nil, [0, 7], []⟩
 (.seq (.region [opD 9 (.bin .lss (tD 8) (tD 7))] [[]] false) (.seq (.cond (.tmp 9) .skip (.exit 0)) (.seq (.block 1 (.seq (.region [mvD 10 8, mvD 4 10] [[], [0, 0]] false) (.region [mvD 11 3, mvD 12 0, mvD 13 4, opD 14 (.iaddr 5 (tD 12) (tD 13)), opD 15 (.faddr 2 (tD 14)), opD 16 (.load false 1 (tD 15)), opD 17 (.len false (tD 16)), opD 18 (.bin .add (tD 11) (tD 17)), mvD 3 18] [[], [], [], [1, 2], [3], [4], [5], [0, 6], [7, 0, 1, 2, 3, 4, 5, 6, 7]] false))) (.region [opD 19 (.bin .add (tD 8) (cD 1)), mvD 8 19] [[], [0]] false))))))) (.seq (.region [mvD 20 3, oqD 21 (.call 75 [(tD 20)]) (.ent (e75 fu)), opD 5 (.alloc 108 1 [(.pointer none)]), onD (.store 1 (tD 5) (tD 21))] [[], [0], [], [2, 1, 1, 0, 1, 2]] false) (.seq (.region [mvD 22 0, opD 23 (.fn 77 [] [(tD 5)]), oqD 24 (.call 76 [(tD 22), (tD 23)]) (.ent (e76 fu)), mvD 2 24] [[], [], [0, 1], [2, 2, 0, 1, 2]] false) .ret)))))
set_option maxRecDepth 1000000 in
theorem v57 (fu : Nat) : evF fu (d57 fu) rs57 25 (e57 fu).ash (e57 fu).osh (e57 fu).vsh = p57 fu := by kernel_rfl
set_option maxRecDepth 1000000 in
theorem b57 (fu : Nat) : BodyD Try.prog 57 25 (d57 fu).erase rs57 := bodyD_mk Try.func57 (by kernel_rfl) (by kernel_rfl) (by kernel_rfl) (by kernel_rfl)
theorem g57 (fu : Nat) : (e57 fu).Good Try.prog := good_by orders (b57 fu) (l := [e75 fu, e76 fu]) (by kernel_rfl) ⟨g75 fu, g76 fu, trivial⟩ (by kernel_rfl) (v57 fu)
def rs79 : List RVx := [(.tmp 2)]
/-- gazette/copies.List[byte] -/
def p79 (_ : Nat) : (List (Int)) × (Unit) → Option ((Unit) × (List (Int))) := fun ⟨a, _⟩ =>
bif ((List.length a : Int) == (0 : Int)) then
 some ((), [])
else
 bif decide ((0 : Int) ≤ (List.length a : Int) ∧ ((List.length a : Int) : Int) ≤ (List.length a : Int) ∧ ((List.length a : Int) : Int) ≤ 9223372036854775807 ∧ (1 : Int) * (List.length a : Int) ≤ 140737488355328) then
 bif decide (Int.toNat (List.length a : Int) = List.length (List.replicate (Int.toNat (List.length a : Int)) (0 : Int) : List (Int))) then
 bif decide (Int.toNat (List.length a : Int) = List.length (copyL (List.replicate (Int.toNat (List.length a : Int)) (0 : Int) : List (Int)) 0 (Int.toNat (List.length a : Int)) a)) then
 some ((), (copyL (List.replicate (Int.toNat (List.length a : Int)) (0 : Int) : List (Int)) 0 (Int.toNat (List.length a : Int)) a))
 else none
 else none
 else none
def e79 (fu : Nat) : Ent := ⟨79, (.cons (.hole (.sl (.int .u8))) .nil), .nil, (.own .own 5 (.int .u8)), p79 fu⟩
def d79 (_ : Nat) : DC := (.seq (.region [opD 2 (.mov (.const vS))] [[]] false) (.seq (.seq (.region [mvD 4 0, opD 5 (.len false (tD 4)), opD 6 (.bin .eql (tD 5) (cD 0))] [[], [0], [1]] false) (.cond (.tmp 6) (.seq (.region [opD 2 (.mov (.const vS))] [[]] false) .ret) .skip)) (.seq (.region [mvD 7 0, opD 8 (.len false (tD 7)), oqD 9 (.make false 5 1 [(.int .u8 0)] 1 (tD 8) (tD 8)) (.ty (.int .u8)), mvD 3 9] [[], [0], [1, 1], [2, 0, 1, 2]] false) (.seq (.region [mvD 10 3, mvD 11 0, opD 12 (.copy 1 (tD 10) (tD 11))] [[], [], [0, 1]] false) (.seq (.region [mvD 13 3, mvD 2 13] [[], [0, 0]] false) .ret)))))
set_option maxRecDepth 1000000 in
theorem v79 (fu : Nat) : evF fu (d79 fu) rs79 14 (e79 fu).ash (e79 fu).osh (e79 fu).vsh = p79 fu := by kernel_rfl
set_option maxRecDepth 1000000 in
theorem b79 (fu : Nat) : BodyD Try.prog 79 14 (d79 fu).erase rs79 := bodyD_mk Try.func79 (by kernel_rfl) (by kernel_rfl) (by kernel_rfl) (by kernel_rfl)
theorem g79 (fu : Nat) : (e79 fu).Good Try.prog := good_by orders (b79 fu) (l := []) (by kernel_rfl) trivial (by kernel_rfl) (v79 fu)
def rs67 : List RVx := [(.cell 2 true 5)]
/-- gazette/copies.Record -/
def p67 (fu : Nat) : ((Int) × ((ByteArray) × ((List (Int)) × ((Int) × ((Int) × (Unit)))))) × (Unit) → Option ((Unit) × ((Int) × ((ByteArray) × ((List (Int)) × ((Int) × ((Int) × (Unit))))))) := fun ⟨⟨a, c, f, h, i, _⟩, _⟩ =>
Option.bind (p79 fu (f, ())) fun ⟨_, j⟩ =>
bif decide (List.length j = List.length j) then
 some ((), (a, c, j, h, i, ()))
else none
def e67 (fu : Nat) : Ent := ⟨67, (.cons Y0 .nil), .nil, Y1, p67 fu⟩
def d67 (fu : Nat) : DC := (.seq (.region [opD 1 (.box 30 5 (tD 0)), opD 2 (.alloc 30 5 [vU, vT, vS, vU, vU])] [[], []] false) (.seq (.region [opD 3 (.faddr 2 (tD 1)), opD 4 (.load false 1 (tD 3)), oqD 5 (.call 79 [(tD 4)]) (.ent (e79 fu)), opD 6 (.faddr 2 (tD 1)), onD (.store 1 (tD 6) (tD 5))] [[], [0], [1], [0, 1, 2], [3, 2, 2, 0, 1, 2]] false) (.seq (.region [opD 7 (.load true 5 (tD 1)), onD (.store 5 (tD 2) (tD 7))] [[], [0, 0]] false) .ret)))
set_option maxRecDepth 1000000 in
theorem v67 (fu : Nat) : evF fu (d67 fu) rs67 8 (e67 fu).ash (e67 fu).osh (e67 fu).vsh = p67 fu := by kernel_rfl
set_option maxRecDepth 1000000 in
theorem b67 (fu : Nat) : BodyD Try.prog 67 8 (d67 fu).erase rs67 := bodyD_mk Try.func67 (by kernel_rfl) (by kernel_rfl) (by kernel_rfl) (by kernel_rfl)
theorem g67 (fu : Nat) : (e67 fu).Good Try.prog := good_by orders (b67 fu) (l := [e79 fu]) (by kernel_rfl) ⟨g79 fu, trivial⟩ (by kernel_rfl) (v67 fu)
def rs46 : List RVx := [(.tmp 4)]
/-- gazette/records.behind -/
def p46 (fu : Nat) : (List (D_api_Record)) × (((Int) × ((ByteArray) × ((List (Int)) × ((Int) × ((Int) × (Unit)))))) × (Unit)) → Option (((Unit) × (Unit)) × (List (D_api_Record))) := fun ⟨a, ⟨c, f, h, i, j, _⟩, _⟩ =>
Option.bind (p67 fu ((c, f, h, i, j, ()), ())) fun ⟨_, ⟨_, k, l, m, n, _⟩⟩ =>
bif decide (List.length l = List.length l) then
 bif decide (List.length a = List.length a) then
 bif decide (List.length a + List.length ([(IntKind.wrap .u64 ((List.length a) : Int), k, l, m, n)]) ≤ maxLen ∧ (List.length a + List.length ([(IntKind.wrap .u64 ((List.length a) : Int), k, l, m, n)])) * 64 ≤ 140737488355328) then
 bif decide (List.length (a ++ [(IntKind.wrap .u64 ((List.length a) : Int), k, l, m, n)]) = List.length (a ++ [(IntKind.wrap .u64 ((List.length a) : Int), k, l, m, n)])) then
 some (((), ()), (a ++ [(IntKind.wrap .u64 ((List.length a) : Int), k, l, m, n)]))
 else none
 else none
 else none
else none
def e46 (fu : Nat) : Ent := ⟨46, (.cons (.own .own 30 T_api_Record) (.cons Y0 .nil)), (.cons .dead .nil), (.own .own 30 T_api_Record), p46 fu⟩
def d46 (fu : Nat) : DC := (.seq (.region [opD 3 (.box 30 5 (tD 1)), opD 4 (.mov (.const vS))] [[], []] false) (.seq (.region [opD 5 (.load true 5 (tD 3)), oqD 6 (.call 67 [(tD 5)]) (.ent (e67 fu)), onD (.store 5 (tD 3) (tD 6))] [[], [0], [1, 1, 0, 1]] false) (.seq (.region [mvD 7 0, opD 8 (.len false (tD 7)), opD 9 (.conv .u64 (tD 8)), opD 10 (.faddr 0 (tD 3)), onD (.store 1 (tD 10) (tD 9))] [[], [0], [1], [0, 1, 2], [3, 2, 0, 1, 2]] false) (.seq (.region [mvD 11 0, opD 12 (.load true 5 (tD 3)), oqD 13 (.bslice 30 5 1 [vU, vT, vS, vU, vU] [(0, (tD 12))]) (.ty T_api_Record), oqD 14 (.app 30 5 [vU, vT, vS, vU, vU] 64 (tD 11) (tD 13)) (.ty T_api_Record), mvD 4 14] [[], [], [1], [0, 2], [3, 3, 0, 1, 2, 3]] false) .ret))))
set_option maxRecDepth 1000000 in
theorem v46 (fu : Nat) : evF fu (d46 fu) rs46 15 (e46 fu).ash (e46 fu).osh (e46 fu).vsh = p46 fu := by kernel_rfl
set_option maxRecDepth 1000000 in
theorem b46 (fu : Nat) : BodyD Try.prog 46 15 (d46 fu).erase rs46 := bodyD_mk Try.func46 (by kernel_rfl) (by kernel_rfl) (by kernel_rfl) (by kernel_rfl)
theorem g46 (fu : Nat) : (e46 fu).Good Try.prog := good_by orders (b46 fu) (l := [e67 fu]) (by kernel_rfl) ⟨g67 fu, trivial⟩ (by kernel_rfl) (v46 fu)
def rs17 : List RVx := [(.tmp 4), (.tmp 5), (.tmp 6)]
/-- gazette/records.Append -/
def p17 (fu : Nat) : (List (D_api_Record)) × (((Int) × ((ByteArray) × ((List (Int)) × ((Int) × ((Int) × (Unit)))))) × (Unit)) → Option ((Unit) × ((List (D_api_Record)) × ((Int) × ((Int) × (Unit))))) := fun ⟨a, ⟨c, f, h, i, j, _⟩, _⟩ =>
Option.bind (p27 fu (a, ())) fun ⟨_, k⟩ =>
bif !k then
 some ((), ([], (0 : Int), (1 : Int), ()))
else
 Option.bind (p56 fu ((c, f, h, i, j, ()), ())) fun ⟨_, l⟩ =>
 bif (l != (0 : Int)) then
 some ((), ([], (0 : Int), l, ()))
 else
 bif decide ((List.length a : Int) ≥ (4096 : Int)) then
 some ((), ([], (0 : Int), (143 : Int), ()))
 else
 Option.bind (p57 fu (a, ())) fun ⟨_, m⟩ =>
 bif decide (List.length m = List.length m) then
 Option.bind (p46 fu (m, (c, f, h, i, j, ()), ())) fun ⟨⟨_, _⟩, n⟩ =>
 bif decide (List.length n = List.length n) then
 some ((), (n, IntKind.wrap .u64 (List.length a : Int), (0 : Int), ()))
 else none
 else none
def e17 (fu : Nat) : Ent := ⟨17, (.cons (.hole (.sl T_api_Record)) (.cons Y0 .nil)), .nil, (.tup 3 (.cons (.own .own 30 T_api_Record) (.cons (.hole (.int .u64)) (.cons (.hole (.int .i64)) .nil)))), p17 fu⟩
def d17 (fu : Nat) : DC := (.seq (.region [opD 3 (.box 30 5 (tD 1)), opD 4 (.mov (.const vS)), opD 5 (.mov (.const vU)), opD 6 (.mov (cD 0))] [[], [], [1], [2]] false) (.seq (.seq (.region [mvD 8 0, oqD 9 (.call 27 [(tD 8)]) (.ent (e27 fu)), opD 10 (.not (tD 9))] [[], [0], [1]] false) (.cond (.tmp 10) (.seq (.region [opD 4 (.mov (.const vS)), opD 5 (.mov (.const vU)), opD 6 (.mov (cD 1))] [[], [0, 0], [1, 0, 1]] false) .ret) .skip)) (.seq (.seq (.region [opD 11 (.load true 5 (tD 3)), oqD 12 (.call 56 [(tD 11)]) (.ent (e56 fu)), mvD 7 12] [[], [0], [1, 1, 0, 1]] false) (.seq (.region [mvD 13 7, opD 14 (.bin .neq (tD 13) (cD 0))] [[], [0]] false) (.cond (.tmp 14) (.seq (.region [mvD 15 7, opD 4 (.mov (.const vS)), opD 5 (.mov (.const vU)), mvD 6 15] [[], [], [1, 1], [0, 2, 0, 1, 2]] false) .ret) .skip))) (.seq (.seq (.region [mvD 16 0, opD 17 (.len false (tD 16)), opD 18 (.bin .geq (tD 17) (cD 4096))] [[], [0], [1]] false) (.cond (.tmp 18) (.seq (.region [opD 4 (.mov (.const vS)), opD 5 (.mov (.const vU)), opD 6 (.mov (cD 143))] [[], [0, 0], [1, 0, 1]] false) .ret) .skip)) (.seq (.region [mvD 19 0, oqD 20 (.call 57 [(tD 19)]) (.ent (e57 fu)), opD 21 (.load true 5 (tD 3)), oqD 22 (.call 46 [(tD 20), (tD 21)]) (.ent (e46 fu)), mvD 23 0, opD 24 (.len false (tD 23)), opD 25 (.conv .u64 (tD 24)), mvD 4 22, mvD 5 25, opD 6 (.mov (cD 0))] [[], [0], [], [1, 2, 1], [], [4], [5], [3, 3, 0, 1, 2, 3], [6, 7, 0, 1, 2, 3, 4, 5, 6, 7], [8, 0, 1, 2, 3, 4, 5, 6, 7, 8]] true) .ret)))))
set_option maxRecDepth 1000000 in
theorem v17 (fu : Nat) : evF fu (d17 fu) rs17 26 (e17 fu).ash (e17 fu).osh (e17 fu).vsh = p17 fu := by kernel_rfl
set_option maxRecDepth 1000000 in
theorem b17 (fu : Nat) : BodyD Try.prog 17 26 (d17 fu).erase rs17 := bodyD_mk Try.func17 (by kernel_rfl) (by kernel_rfl) (by kernel_rfl) (by kernel_rfl)
theorem g17 (fu : Nat) : (e17 fu).Good Try.prog := good_by orders (b17 fu) (l := [e27 fu, e56 fu, e57 fu, e46 fu]) (by kernel_rfl) ⟨g27 fu, g56 fu, g57 fu, g46 fu, trivial⟩ (by kernel_rfl) (v17 fu)
def rs37 : List RVx := [(.tmp 2)]
/-- gazette/records.Name -/
def p37 (fu : Nat) : (ByteArray) × (Unit) → Option ((Unit) × (Bool)) := fun ⟨a, _⟩ =>
loopO (S := ((Int) × (Unit)) × (Unit)) fu (fun ⟨⟨c, _⟩, _⟩ =>
 bif decide (c < (List.length (numsOf a) : Int)) then
 bif decide ((0 : Int) ≤ c ∧ c < (List.length (numsOf a) : Int)) then
 bif decide (Int.toNat c < List.length (numsOf a)) then
 bif decide ((List.getD (numsOf a) (Int.toNat c) (dflt (.int .u8))) < (97 : Int)) then
 bif decide ((List.getD (numsOf a) (Int.toNat c) (dflt (.int .u8))) < (48 : Int)) then
 bif ((List.getD (numsOf a) (Int.toNat c) (dflt (.int .u8))) != (45 : Int)) then
 bif ((List.getD (numsOf a) (Int.toNat c) (dflt (.int .u8))) != (95 : Int)) then
 bif ((List.getD (numsOf a) (Int.toNat c) (dflt (.int .u8))) != (46 : Int)) then
 inrO (some ((), false))
 else
 some (.inl ((IntKind.wrap .i64 (c + (1 : Int)), ()), ()))
 else
 some (.inl ((IntKind.wrap .i64 (c + (1 : Int)), ()), ()))
 else
 some (.inl ((IntKind.wrap .i64 (c + (1 : Int)), ()), ()))
 else
 bif decide ((List.getD (numsOf a) (Int.toNat c) (dflt (.int .u8))) > (57 : Int)) then
 bif ((List.getD (numsOf a) (Int.toNat c) (dflt (.int .u8))) != (45 : Int)) then
 bif ((List.getD (numsOf a) (Int.toNat c) (dflt (.int .u8))) != (95 : Int)) then
 bif ((List.getD (numsOf a) (Int.toNat c) (dflt (.int .u8))) != (46 : Int)) then
 inrO (some ((), false))
 else
 some (.inl ((IntKind.wrap .i64 (c + (1 : Int)), ()), ()))
 else
 some (.inl ((IntKind.wrap .i64 (c + (1 : Int)), ()), ()))
 else
 some (.inl ((IntKind.wrap .i64 (c + (1 : Int)), ()), ()))
 else
 some (.inl ((IntKind.wrap .i64 (c + (1 : Int)), ()), ()))
 else
 bif decide ((List.getD (numsOf a) (Int.toNat c) (dflt (.int .u8))) > (122 : Int)) then
 bif decide ((List.getD (numsOf a) (Int.toNat c) (dflt (.int .u8))) < (48 : Int)) then
 bif ((List.getD (numsOf a) (Int.toNat c) (dflt (.int .u8))) != (45 : Int)) then
 bif ((List.getD (numsOf a) (Int.toNat c) (dflt (.int .u8))) != (95 : Int)) then
 bif ((List.getD (numsOf a) (Int.toNat c) (dflt (.int .u8))) != (46 : Int)) then
 inrO (some ((), false))
 else
 some (.inl ((IntKind.wrap .i64 (c + (1 : Int)), ()), ()))
 else
 some (.inl ((IntKind.wrap .i64 (c + (1 : Int)), ()), ()))
 else
 some (.inl ((IntKind.wrap .i64 (c + (1 : Int)), ()), ()))
 else
 bif decide ((List.getD (numsOf a) (Int.toNat c) (dflt (.int .u8))) > (57 : Int)) then
 bif ((List.getD (numsOf a) (Int.toNat c) (dflt (.int .u8))) != (45 : Int)) then
 bif ((List.getD (numsOf a) (Int.toNat c) (dflt (.int .u8))) != (95 : Int)) then
 bif ((List.getD (numsOf a) (Int.toNat c) (dflt (.int .u8))) != (46 : Int)) then
 inrO (some ((), false))
 else
 some (.inl ((IntKind.wrap .i64 (c + (1 : Int)), ()), ()))
 else
 some (.inl ((IntKind.wrap .i64 (c + (1 : Int)), ()), ()))
 else
 some (.inl ((IntKind.wrap .i64 (c + (1 : Int)), ()), ()))
 else
 some (.inl ((IntKind.wrap .i64 (c + (1 : Int)), ()), ()))
 else
 some (.inl ((IntKind.wrap .i64 (c + (1 : Int)), ()), ()))
 else none
 else none
 else
 inrO (bif decide ((ByteArray.size a : Int) ≥ (1 : Int)) then
 some ((), decide ((ByteArray.size a : Int) ≤ (32 : Int)))
 else
 some ((), false)))
 (((0 : Int), ()), ())
def e37 (fu : Nat) : Ent := ⟨37, (.cons (.hole .str) .nil), .nil, (.hole .bool), p37 fu⟩
def d37 (_ : Nat) : DC := (.seq (.region [opD 2 (.mov (.const vB))] [[]] false) (.seq (.seq (.region [mvD 5 0, opD 6 (.s2b 5 (tD 5)), opD 7 (.len false (tD 6)), opD 8 (.mov (cD 0))] [[], [0], [1], []] false) (.block 0 (.loop ⟨[8], (.cons (.hole (.int .i64)) .nil), [], .nil, [0, 6, 7], []⟩
 (.seq (.region [opD 9 (.bin .lss (tD 8) (tD 7))] [[]] false) (.seq (.cond (.tmp 9) .skip (.exit 0)) (.seq (.block 1 (.seq (.region [opD 10 (.iaddr 1 (tD 6) (tD 8)), opD 11 (.load false 1 (tD 10)), mvD 4 11] [[], [0], [1, 0, 1]] false) (.seq (.region [mvD 12 4, opD 13 (.bin .lss (tD 12) (.const (.int .u8 97))), mvD 14 13, ogD 15 14 false (.mov (tD 4)), ogD 16 14 false (.bin .gtr (tD 15) (.const (.int .u8 122))), opD 17 (.pick (tD 14) (.const (.bool true)) (tD 16)), mvD 18 17, ogD 19 18 true (.mov (tD 4)), ogD 20 18 true (.bin .lss (tD 19) (.const (.int .u8 48))), ogD 21 18 true (.mov (tD 20)), ogD 22 21 false (.mov (tD 4)), ogD 23 21 false (.bin .gtr (tD 22) (.const (.int .u8 57))), ogD 24 18 true (.pick (tD 21) (.const (.bool true)) (tD 23)), opD 25 (.pick (tD 18) (tD 24) (.const vB)), mvD 26 25, ogD 27 26 true (.mov (tD 4)), ogD 28 26 true (.bin .neq (tD 27) (.const (.int .u8 45))), opD 29 (.pick (tD 26) (tD 28) (.const vB)), mvD 30 29, ogD 31 30 true (.mov (tD 4)), ogD 32 30 true (.bin .neq (tD 31) (.const (.int .u8 95))), opD 33 (.pick (tD 30) (tD 32) (.const vB)), mvD 34 33, ogD 35 34 true (.mov (tD 4)), ogD 36 34 true (.bin .neq (tD 35) (.const (.int .u8 46))), opD 37 (.pick (tD 34) (tD 36) (.const vB))] [[], [0], [1], [2], [3, 2], [2, 4], [5, 2], [6], [7, 6], [8, 6, 6], [9], [10, 9], [9, 11, 6], [6, 12], [13, 9], [14], [15, 14], [14, 16], [17, 14], [18], [19, 18], [18, 20], [21, 18], [22], [23, 22], [22, 24]] false) (.cond (.tmp 37) (.seq (.region [opD 2 (.mov (.const vB))] [[]] false) .ret) .skip)))) (.region [opD 38 (.bin .add (tD 8) (cD 1)), mvD 8 38] [[], [0]] false))))))) (.seq (.region [mvD 39 0, opD 40 (.len true (tD 39)), opD 41 (.bin .geq (tD 40) (cD 1)), mvD 42 41, ogD 43 42 true (.mov (tD 0)), ogD 44 42 true (.len true (tD 43)), ogD 45 42 true (.bin .leq (tD 44) (cD 32)), opD 46 (.pick (tD 42) (tD 45) (.const vB)), mvD 2 46] [[], [0], [1], [2], [3], [4, 3], [5, 3], [3, 6], [7, 3, 0, 1, 2, 3, 4, 5, 6, 7]] false) .ret)))
set_option maxRecDepth 1000000 in
theorem v37 (fu : Nat) : evF fu (d37 fu) rs37 47 (e37 fu).ash (e37 fu).osh (e37 fu).vsh = p37 fu := by kernel_rfl
set_option maxRecDepth 1000000 in
theorem b37 (fu : Nat) : BodyD Try.prog 37 47 (d37 fu).erase rs37 := bodyD_mk Try.func37 (by kernel_rfl) (by kernel_rfl) (by kernel_rfl) (by kernel_rfl)
theorem g37 (fu : Nat) : (e37 fu).Good Try.prog := good_by orders (b37 fu) (l := []) (by kernel_rfl) trivial (by kernel_rfl) (v37 fu)
def rs11 : List RVx := [(.tmp 0)]
/-- gazette/gazettelaw14.lives -/
def p11 (fu : Nat) : Unit → Option ((Unit) × (Bool)) := fun _ =>
Option.bind (p17 fu ([], ((0 : Int), (⟨#[107]⟩ : ByteArray), ([] : List Int), (0 : Int), (0 : Int), ()), ())) fun ⟨_, ⟨a, c, f, _⟩⟩ =>
bif (f == (0 : Int)) then
 bif (c == (0 : Int)) then
 bif (((List.length a) : Int) == (1 : Int)) then
 bif decide ((0 : Int) ≤ 0 ∧ 0 < (List.length a : Int)) then
 bif decide (0 < List.length a) then
 bif ByteArray.toList (((List.getD a 0 (dflt T_api_Record)).2).1) == ByteArray.toList (⟨#[107]⟩ : ByteArray) then
 Option.bind (p37 fu ((⟨#[97, 45, 49]⟩ : ByteArray), ())) fun ⟨_, h⟩ =>
 some ((), h)
 else
 some ((), false)
 else none
 else none
 else
 some ((), false)
 else
 some ((), false)
else
 some ((), false)
def e11 (fu : Nat) : Ent := ⟨11, .nil, .nil, (.hole .bool), p11 fu⟩
def d11 (fu : Nat) : DC := (.seq (.region [opD 0 (.mov (.const vB))] [[]] false) (.seq (.region [opD 5 (.build 5 [vU, vT, vS, vU, vU] [(1, (1, (.const (.string ⟨#[107]⟩))))]), oqD 6 (.call 17 [(.const vS), (tD 5)]) (.ent (e17 fu)), mvD 4 6, opD 7 (.ext (tD 4) 0), opD 8 (.ext (tD 4) 1), opD 9 (.ext (tD 4) 2), mvD 1 7, mvD 2 8, mvD 3 9] [[], [0], [1], [2], [2], [2], [3, 1, 0, 1, 2, 3], [4, 6, 0, 1, 2, 3, 4, 6], [5, 7, 0, 1, 2, 3, 4, 5, 6, 7]] false) (.seq (.region [mvD 10 3, opD 11 (.bin .eql (tD 10) (cD 0)), mvD 12 11, ogD 13 12 true (.mov (tD 2)), ogD 14 12 true (.bin .eql (tD 13) (.const vU)), opD 15 (.pick (tD 12) (tD 14) (.const vB)), mvD 16 15, ogD 17 16 true (.mov (tD 1)), ogD 18 16 true (.len false (tD 17)), ogD 19 16 true (.bin .eql (tD 18) (cD 1)), opD 20 (.pick (tD 16) (tD 19) (.const vB)), mvD 21 20, ogD 22 21 true (.mov (tD 1)), ogD 23 21 true (.iaddr 5 (tD 22) (cD 0)), ogD 24 21 true (.faddr 1 (tD 23)), ogD 25 21 true (.load false 1 (tD 24)), ogD 26 21 true (.bin .eql (tD 25) (.const (.string ⟨#[107]⟩))), opD 27 (.pick (tD 21) (tD 26) (.const vB)), mvD 28 27, (⟨(some 29), (some (28, true)), (.call 37 [(.const (.string ⟨#[97, 45, 49]⟩))])⟩, (.ent (e37 fu))), opD 30 (.pick (tD 28) (tD 29) (.const vB)), mvD 0 30] [[], [0], [1], [2], [3, 2], [2, 4], [5, 2], [6], [7, 6], [8, 6], [6, 9], [10, 6], [11], [12, 11], [13, 11], [14, 11], [15, 11], [11, 16], [17, 11], [18, 18], [18, 19], [20, 19, 0, 1, 2, 3, 4, 5, 6, 7, 8, 9, 10, 11, 12, 13, 14, 15, 16, 17, 18, 19, 20]] false) .ret)))
set_option maxRecDepth 1000000 in
theorem v11 (fu : Nat) : evF fu (d11 fu) rs11 31 (e11 fu).ash (e11 fu).osh (e11 fu).vsh = p11 fu := by kernel_rfl
set_option maxRecDepth 1000000 in
theorem b11 (fu : Nat) : BodyD Try.prog 11 31 (d11 fu).erase rs11 := bodyD_mk Try.func11 (by kernel_rfl) (by kernel_rfl) (by kernel_rfl) (by kernel_rfl)
theorem g11 (fu : Nat) : (e11 fu).Good Try.prog := good_by orders (b11 fu) (l := [e17 fu, e37 fu]) (by kernel_rfl) ⟨g17 fu, g37 fu, trivial⟩ (by kernel_rfl) (v11 fu)
def rs64 : List RVx := [(.tmp 2)]
/-- gazette/keyrange.isKey -/
def p64 (_ : Nat) : (ByteArray) × (Unit) → Option ((Unit) × (Bool)) := fun ⟨a, _⟩ =>
some ((), decide ((ByteArray.size a : Int) ≤ (32 : Int)))
def e64 (fu : Nat) : Ent := ⟨64, (.cons (.hole .str) .nil), .nil, (.hole .bool), p64 fu⟩
def d64 (_ : Nat) : DC := (.seq (.region [opD 2 (.mov (.const vB))] [[]] false) (.seq (.region [mvD 3 0, opD 4 (.len true (tD 3)), opD 5 (.bin .leq (tD 4) (cD 32)), mvD 2 5] [[], [0], [1], [2, 0, 1, 2]] false) .ret))
set_option maxRecDepth 1000000 in
theorem v64 (fu : Nat) : evF fu (d64 fu) rs64 6 (e64 fu).ash (e64 fu).osh (e64 fu).vsh = p64 fu := by kernel_rfl
set_option maxRecDepth 1000000 in
theorem b64 (fu : Nat) : BodyD Try.prog 64 6 (d64 fu).erase rs64 := bodyD_mk Try.func64 (by kernel_rfl) (by kernel_rfl) (by kernel_rfl) (by kernel_rfl)
theorem g64 (fu : Nat) : (e64 fu).Good Try.prog := good_by orders (b64 fu) (l := []) (by kernel_rfl) trivial (by kernel_rfl) (v64 fu)
def rs65 : List RVx := [(.cell 2 true 2)]
/-- gazette/keyrange.upper -/
def p65 (_ : Nat) : ((ByteArray) × ((ByteArray) × (Unit))) × (Unit) → Option ((Unit) × ((ByteArray) × ((Bool) × (Unit)))) := fun ⟨⟨_, a, _⟩, _⟩ =>
some ((), (a, ByteArray.toList a == ByteArray.toList (⟨#[]⟩ : ByteArray), ()))
def e65 (fu : Nat) : Ent := ⟨65, (.cons (.agg 2 (.cons (.hole .str) (.cons (.hole .str) .nil))) .nil), .nil, (.agg 2 (.cons (.hole .str) (.cons (.hole .bool) .nil))), p65 fu⟩
def d65 (_ : Nat) : DC := (.seq (.region [opD 1 (.box 32 2 (tD 0)), opD 2 (.alloc 96 2 [vT, vB])] [[], []] false) (.seq (.region [opD 3 (.faddr 1 (tD 1)), opD 4 (.load false 1 (tD 3)), opD 5 (.faddr 1 (tD 1)), opD 6 (.load false 1 (tD 5)), opD 7 (.bin .eql (tD 6) (.const vT)), opD 8 (.build 2 [vT, vB] [(0, (1, (tD 4))), (1, (1, (tD 7)))]), onD (.store 2 (tD 2) (tD 8))] [[], [0], [], [2], [3], [1, 4], [5, 0, 1, 2, 3, 4, 5]] false) .ret))
set_option maxRecDepth 1000000 in
theorem v65 (fu : Nat) : evF fu (d65 fu) rs65 9 (e65 fu).ash (e65 fu).osh (e65 fu).vsh = p65 fu := by kernel_rfl
set_option maxRecDepth 1000000 in
theorem b65 (fu : Nat) : BodyD Try.prog 65 9 (d65 fu).erase rs65 := bodyD_mk Try.func65 (by kernel_rfl) (by kernel_rfl) (by kernel_rfl) (by kernel_rfl)
theorem g65 (fu : Nat) : (e65 fu).Good Try.prog := good_by orders (b65 fu) (l := []) (by kernel_rfl) trivial (by kernel_rfl) (v65 fu)
def rs66 : List RVx := [(.tmp 4)]
/-- (gazette/keyrange.bound).above -/
def p66 (_ : Nat) : ((ByteArray) × ((Bool) × (Unit))) × ((ByteArray) × (Unit)) → Option ((Unit) × (Bool)) := fun ⟨⟨a, c, _⟩, f, _⟩ =>
bif c then
 some ((), true)
else
 some ((), !(Op.bytesLess (ByteArray.toList a) (ByteArray.toList f) || ByteArray.toList a == ByteArray.toList f))
def e66 (fu : Nat) : Ent := ⟨66, (.cons (.agg 2 (.cons (.hole .str) (.cons (.hole .bool) .nil))) (.cons (.hole .str) .nil)), .nil, (.hole .bool), p66 fu⟩
def d66 (_ : Nat) : DC := (.seq (.region [opD 2 (.box 96 2 (tD 0)), opD 4 (.mov (.const vB))] [[], []] false) (.seq (.region [opD 5 (.faddr 1 (tD 2)), opD 6 (.load false 1 (tD 5)), mvD 7 6, ogD 8 7 false (.faddr 0 (tD 2)), ogD 9 7 false (.load false 1 (tD 8)), ogD 10 7 false (.mov (tD 1)), ogD 11 7 false (.bin .gtr (tD 9) (tD 10)), opD 12 (.pick (tD 7) (.const (.bool true)) (tD 11)), mvD 4 12] [[], [0], [1], [2], [3, 2], [2], [4, 5, 2], [2, 6], [7, 2, 0, 1, 2, 3, 4, 5, 6, 7]] false) .ret))
set_option maxRecDepth 1000000 in
theorem v66 (fu : Nat) : evF fu (d66 fu) rs66 13 (e66 fu).ash (e66 fu).osh (e66 fu).vsh = p66 fu := by kernel_rfl
set_option maxRecDepth 1000000 in
theorem b66 (fu : Nat) : BodyD Try.prog 66 13 (d66 fu).erase rs66 := bodyD_mk Try.func66 (by kernel_rfl) (by kernel_rfl) (by kernel_rfl) (by kernel_rfl)
theorem g66 (fu : Nat) : (e66 fu).Good Try.prog := good_by orders (b66 fu) (l := []) (by kernel_rfl) trivial (by kernel_rfl) (v66 fu)
def rs41 : List RVx := [(.tmp 2)]
/-- gazette/keyrange.Check -/
def p41 (fu : Nat) : ((ByteArray) × ((ByteArray) × (Unit))) × (Unit) → Option ((Unit) × (Int)) := fun ⟨⟨a, c, _⟩, _⟩ =>
Option.bind (p64 fu (a, ())) fun ⟨_, f⟩ =>
bif !f then
 some ((), (131 : Int))
else
 Option.bind (p64 fu (c, ())) fun ⟨_, h⟩ =>
 bif !h then
 some ((), (131 : Int))
 else
 Option.bind (p65 fu ((a, c, ()), ())) fun ⟨_, ⟨i, j, _⟩⟩ =>
 Option.bind (p66 fu ((i, j, ()), a, ())) fun ⟨_, k⟩ =>
 bif !k then
 some ((), (132 : Int))
 else
 some ((), (0 : Int))
def e41 (fu : Nat) : Ent := ⟨41, (.cons (.agg 2 (.cons (.hole .str) (.cons (.hole .str) .nil))) .nil), .nil, (.hole (.int .i64)), p41 fu⟩
def d41 (fu : Nat) : DC := (.seq (.region [opD 1 (.box 32 2 (tD 0)), opD 2 (.mov (cD 0))] [[], []] false) (.seq (.seq (.region [opD 3 (.faddr 0 (tD 1)), opD 4 (.load false 1 (tD 3)), oqD 5 (.call 64 [(tD 4)]) (.ent (e64 fu)), opD 6 (.not (tD 5)), mvD 7 6, ogD 8 7 false (.faddr 1 (tD 1)), ogD 9 7 false (.load false 1 (tD 8)), (⟨(some 10), (some (7, false)), (.call 64 [(tD 9)])⟩, (.ent (e64 fu))), ogD 11 7 false (.not (tD 10)), opD 12 (.pick (tD 7) (.const (.bool true)) (tD 11))] [[], [0], [1], [2], [3, 2], [4], [5, 4], [6, 4, 4], [7, 4], [4, 8]] false) (.cond (.tmp 12) (.seq (.region [opD 2 (.mov (cD 131))] [[]] false) .ret) .skip)) (.seq (.seq (.region [opD 13 (.load true 2 (tD 1)), oqD 14 (.call 65 [(tD 13)]) (.ent (e65 fu)), opD 15 (.faddr 0 (tD 1)), opD 16 (.load false 1 (tD 15)), oqD 17 (.call 66 [(tD 14), (tD 16)]) (.ent (e66 fu)), opD 18 (.not (tD 17))] [[], [0], [], [2], [1, 3, 1], [4]] true) (.cond (.tmp 18) (.seq (.region [opD 2 (.mov (cD 132))] [[]] false) .ret) .skip)) (.seq (.region [opD 2 (.mov (cD 0))] [[]] false) .ret))))
set_option maxRecDepth 1000000 in
theorem v41 (fu : Nat) : evF fu (d41 fu) rs41 19 (e41 fu).ash (e41 fu).osh (e41 fu).vsh = p41 fu := by kernel_rfl
set_option maxRecDepth 1000000 in
theorem b41 (fu : Nat) : BodyD Try.prog 41 19 (d41 fu).erase rs41 := bodyD_mk Try.func41 (by kernel_rfl) (by kernel_rfl) (by kernel_rfl) (by kernel_rfl)
theorem g41 (fu : Nat) : (e41 fu).Good Try.prog := good_by orders (b41 fu) (l := [e64 fu, e64 fu, e65 fu, e66 fu]) (by kernel_rfl) ⟨g64 fu, g64 fu, g65 fu, g66 fu, trivial⟩ (by kernel_rfl) (v41 fu)
def rs42 : List RVx := [(.tmp 4)]
/-- gazette/keyrange.Has -/
def p42 (fu : Nat) : ((ByteArray) × ((ByteArray) × (Unit))) × ((ByteArray) × (Unit)) → Option ((Unit) × (Bool)) := fun ⟨⟨a, c, _⟩, f, _⟩ =>
Option.bind (p41 fu ((a, c, ()), ())) fun ⟨_, h⟩ =>
bif (h == (0 : Int)) then
 Option.bind (p64 fu (f, ())) fun ⟨_, i⟩ =>
 bif i then
 bif !Op.bytesLess (ByteArray.toList f) (ByteArray.toList a) then
 Option.bind (p65 fu ((a, c, ()), ())) fun ⟨_, ⟨j, k, _⟩⟩ =>
 Option.bind (p66 fu ((j, k, ()), f, ())) fun ⟨_, l⟩ =>
 some ((), l)
 else
 some ((), false)
 else
 some ((), false)
else
 some ((), false)
def e42 (fu : Nat) : Ent := ⟨42, (.cons (.agg 2 (.cons (.hole .str) (.cons (.hole .str) .nil))) (.cons (.hole .str) .nil)), .nil, (.hole .bool), p42 fu⟩
def d42 (fu : Nat) : DC := (.seq (.region [opD 2 (.box 32 2 (tD 0)), opD 4 (.mov (.const vB))] [[], []] false) (.seq (.region [opD 5 (.load true 2 (tD 2)), oqD 6 (.call 41 [(tD 5)]) (.ent (e41 fu)), opD 7 (.bin .eql (tD 6) (cD 0)), mvD 8 7, ogD 9 8 true (.mov (tD 1)), (⟨(some 10), (some (8, true)), (.call 64 [(tD 9)])⟩, (.ent (e64 fu))), opD 11 (.pick (tD 8) (tD 10) (.const vB)), mvD 12 11, ogD 13 12 true (.mov (tD 1)), ogD 14 12 true (.faddr 0 (tD 2)), ogD 15 12 true (.load false 1 (tD 14)), ogD 16 12 true (.bin .geq (tD 13) (tD 15)), opD 17 (.pick (tD 12) (tD 16) (.const vB)), mvD 18 17, ogD 19 18 true (.load true 2 (tD 2)), (⟨(some 20), (some (18, true)), (.call 65 [(tD 19)])⟩, (.ent (e65 fu))), ogD 21 18 true (.mov (tD 1)), (⟨(some 22), (some (18, true)), (.call 66 [(tD 20), (tD 21)])⟩, (.ent (e66 fu))), opD 23 (.pick (tD 18) (tD 22) (.const vB)), mvD 4 23] [[], [0], [1], [2, 1], [3], [4, 3, 3], [3, 5], [6, 5], [7], [7], [9, 7], [8, 10, 7], [7, 11], [12, 7], [13], [14, 13, 13], [13], [15, 16, 15, 13], [13, 17], [18, 17, 0, 1, 2, 3, 4, 5, 6, 7, 8, 9, 10, 11, 12, 13, 14, 15, 16, 17, 18]] false) .ret))
set_option maxRecDepth 1000000 in
theorem v42 (fu : Nat) : evF fu (d42 fu) rs42 24 (e42 fu).ash (e42 fu).osh (e42 fu).vsh = p42 fu := by kernel_rfl
set_option maxRecDepth 1000000 in
theorem b42 (fu : Nat) : BodyD Try.prog 42 24 (d42 fu).erase rs42 := bodyD_mk Try.func42 (by kernel_rfl) (by kernel_rfl) (by kernel_rfl) (by kernel_rfl)
theorem g42 (fu : Nat) : (e42 fu).Good Try.prog := good_by orders (b42 fu) (l := [e41 fu, e64 fu, e65 fu, e66 fu]) (by kernel_rfl) ⟨g41 fu, g64 fu, g65 fu, g66 fu, trivial⟩ (by kernel_rfl) (v42 fu)
def rs12 : List RVx := [(.tmp 4), (.tmp 5)]
/-- gazette/records.Keep -/
def p12 (fu : Nat) : (List (D_api_Record)) × (((ByteArray) × ((ByteArray) × (Unit))) × (Unit)) → Option ((Unit) × ((List (D_api_Record)) × ((List (Int)) × (Unit)))) := fun ⟨a, ⟨c, f, _⟩, _⟩ =>
Option.bind (p27 fu (a, ())) fun ⟨_, h⟩ =>
bif !h then
 some ((), ([], [], ()))
else
 Option.bind (p41 fu ((c, f, ()), ())) fun ⟨_, i⟩ =>
 bif (i != (0 : Int)) then
 some ((), ([], [], ()))
 else
 loopO (S := ((List (D_api_Record)) × ((List (Int)) × ((Int) × (Unit)))) × (Unit)) fu (fun ⟨⟨j, k, l, _⟩, _⟩ =>
 bif decide (l < (List.length a : Int)) then
 bif decide ((0 : Int) ≤ l ∧ l < (List.length a : Int)) then
 bif decide (Int.toNat l < List.length a) then
 bif decide (List.length k = List.length k) then
 bif decide (List.length k + List.length ([IntKind.wrap .u64 ((List.length j) : Int)]) ≤ maxLen ∧ (List.length k + List.length ([IntKind.wrap .u64 ((List.length j) : Int)])) * 8 ≤ 140737488355328) then
 Option.bind (p42 fu ((c, f, ()), ((List.getD a (Int.toNat l) (dflt T_api_Record)).2).1, ())) fun ⟨_, m⟩ =>
 bif m then
 bif decide (List.length j = List.length j) then
 Option.bind (p46 fu (j, ((List.getD a (Int.toNat l) (dflt T_api_Record)).1, ((List.getD a (Int.toNat l) (dflt T_api_Record)).2).1, (((List.getD a (Int.toNat l) (dflt T_api_Record)).2).2).1, ((((List.getD a (Int.toNat l) (dflt T_api_Record)).2).2).2).1, ((((List.getD a (Int.toNat l) (dflt T_api_Record)).2).2).2).2, ()), ())) fun ⟨⟨_, _⟩, n⟩ =>
 bif decide (List.length n = List.length n) then
 bif decide (List.length (k ++ [IntKind.wrap .u64 ((List.length j) : Int)]) = List.length (k ++ [IntKind.wrap .u64 ((List.length j) : Int)])) then
 some (.inl ((n, (k ++ [IntKind.wrap .u64 ((List.length j) : Int)]), IntKind.wrap .i64 (l + (1 : Int)), ()), ()))
 else none
 else none
 else none
 else
 bif decide (List.length j = List.length j) then
 bif decide (List.length (k ++ [IntKind.wrap .u64 ((List.length j) : Int)]) = List.length (k ++ [IntKind.wrap .u64 ((List.length j) : Int)])) then
 some (.inl ((j, (k ++ [IntKind.wrap .u64 ((List.length j) : Int)]), IntKind.wrap .i64 (l + (1 : Int)), ()), ()))
 else none
 else none
 else none
 else none
 else none
 else none
 else
 inrO (bif decide (List.length k = List.length k) then
 bif decide (List.length k + List.length ([IntKind.wrap .u64 ((List.length j) : Int)]) ≤ maxLen ∧ (List.length k + List.length ([IntKind.wrap .u64 ((List.length j) : Int)])) * 8 ≤ 140737488355328) then
 bif decide (List.length j = List.length j) then
 bif decide (List.length (k ++ [IntKind.wrap .u64 ((List.length j) : Int)]) = List.length (k ++ [IntKind.wrap .u64 ((List.length j) : Int)])) then
 some ((), (j, (k ++ [IntKind.wrap .u64 ((List.length j) : Int)]), ()))
 else none
 else none
 else none
 else none))
 (([], [], (0 : Int), ()), ())
def e12 (fu : Nat) : Ent := ⟨12, (.cons (.hole (.sl T_api_Record)) (.cons (.agg 2 (.cons (.hole .str) (.cons (.hole .str) .nil))) .nil)), .nil, (.tup 2 (.cons (.own .own 30 T_api_Record) (.cons (.own .own 27 (.int .u64)) .nil))), p12 fu⟩
def d12 (fu : Nat) : DC := (.seq (.region [opD 3 (.box 32 2 (tD 1)), opD 4 (.mov (.const vS)), opD 5 (.mov (.const vS))] [[], [], [1]] false) (.seq (.seq (.region [mvD 10 0, oqD 11 (.call 27 [(tD 10)]) (.ent (e27 fu)), opD 12 (.not (tD 11)), mvD 13 12, ogD 14 13 false (.load true 2 (tD 3)), (⟨(some 15), (some (13, false)), (.call 41 [(tD 14)])⟩, (.ent (e41 fu))), ogD 16 13 false (.bin .neq (tD 15) (cD 0)), opD 17 (.pick (tD 13) (.const (.bool true)) (tD 16))] [[], [0], [1], [2, 1], [3], [4, 3, 3], [5, 3], [3, 6]] false) (.cond (.tmp 17) (.seq (.region [opD 4 (.mov (.const vS)), opD 5 (.mov (.const vS))] [[], [0, 0]] false) .ret) .skip)) (.seq (.region [opD 6 (.mov (.const vS))] [[]] false) (.seq (.region [opD 7 (.mov (.const vS))] [[]] false) (.seq (.seq (.region [mvD 18 0, opD 19 (.len false (tD 18)), opD 20 (.mov (cD 0))] [[], [0], []] false) (.block 0 (.loop ⟨[6, 7, 20], (.cons (.own .own 30 T_api_Record) (.cons (.own .own 27 (.int .u64)) (.cons (.hole (.int .i64)) .nil))), [], .nil, [3, 18, 19], [0]⟩
 (.seq (.region [opD 21 (.bin .lss (tD 20) (tD 19))] [[]] false) (.seq (.cond (.tmp 21) .skip (.exit 0)) (.seq (.block 1 (.seq (.region [opD 22 (.iaddr 5 (tD 18) (tD 20)), opD 23 (.load true 5 (tD 22)), opD 9 (.alloc 30 5 [vU, vT, vS, vU, vU]), onD (.store 5 (tD 9) (tD 23))] [[], [0], [], [2, 1, 0, 1, 2]] false) (.seq (.region [mvD 24 7, mvD 25 6, opD 26 (.len false (tD 25)), opD 27 (.conv .u64 (tD 26)), oqD 28 (.bslice 27 1 1 [vU] [(0, (tD 27))]) (.ty (.int .u64)), oqD 29 (.app 27 1 [vU] 8 (tD 24) (tD 28)) (.ty (.int .u64)), mvD 7 29] [[], [], [1], [2], [3], [0, 4], [5, 5, 0, 1, 2, 3, 4, 5]] false) (.seq (.region [opD 30 (.load true 2 (tD 3)), opD 31 (.faddr 1 (tD 9)), opD 32 (.load false 1 (tD 31)), oqD 33 (.call 42 [(tD 30), (tD 32)]) (.ent (e42 fu))] [[], [], [1], [0, 2]] false) (.cond (.tmp 33) (.region [mvD 34 6, opD 35 (.load true 5 (tD 9)), oqD 36 (.call 46 [(tD 34), (tD 35)]) (.ent (e46 fu)), mvD 6 36] [[], [], [0, 1], [2, 2, 0, 1, 2]] false) .skip))))) (.region [opD 37 (.bin .add (tD 20) (cD 1)), mvD 20 37] [[], [0]] false))))))) (.seq (.region [mvD 38 6, mvD 39 7, mvD 40 6, opD 41 (.len false (tD 40)), opD 42 (.conv .u64 (tD 41)), oqD 43 (.bslice 27 1 1 [vU] [(0, (tD 42))]) (.ty (.int .u64)), oqD 44 (.app 27 1 [vU] 8 (tD 39) (tD 43)) (.ty (.int .u64)), mvD 4 38, mvD 5 44] [[], [], [], [2], [3], [4], [1, 5], [0, 6, 0], [6, 7, 0, 1, 2, 3, 4, 5, 6, 7]] false) .ret))))))
set_option maxRecDepth 1000000 in
theorem v12 (fu : Nat) : evF fu (d12 fu) rs12 45 (e12 fu).ash (e12 fu).osh (e12 fu).vsh = p12 fu := by kernel_rfl
set_option maxRecDepth 1000000 in
theorem b12 (fu : Nat) : BodyD Try.prog 12 45 (d12 fu).erase rs12 := bodyD_mk Try.func12 (by kernel_rfl) (by kernel_rfl) (by kernel_rfl) (by kernel_rfl)
theorem g12 (fu : Nat) : (e12 fu).Good Try.prog := good_by orders (b12 fu) (l := [e27 fu, e41 fu, e42 fu, e46 fu]) (by kernel_rfl) ⟨g27 fu, g41 fu, g42 fu, g46 fu, trivial⟩ (by kernel_rfl) (v12 fu)
def rs14 : List RVx := [(.cell 6 true 5)]
/-- gazette/gazettelaw14.x -/
def p14 (_ : Nat) : (Int) × ((Int) × ((Int) × (Unit))) → Option ((Unit) × ((Int) × ((ByteArray) × ((List (Int)) × ((Int) × ((Int) × (Unit))))))) := fun ⟨a, c, f, _⟩ =>
some ((), (f, (⟨#[]⟩ : ByteArray), [], a, c, ()))
def e14 (fu : Nat) : Ent := ⟨14, (.cons (.hole (.int .u64)) (.cons (.hole (.int .u64)) (.cons (.hole (.int .u64)) .nil))), .nil, Y0, p14 fu⟩
def d14 (_ : Nat) : DC := (.seq (.region [opD 6 (.alloc 30 5 [vU, vT, vS, vU, vU])] [[]] false) (.seq (.region [mvD 7 2, mvD 8 0, mvD 9 1, opD 10 (.build 5 [vU, vT, vS, vU, vU] [(0, (1, (tD 7))), (3, (1, (tD 8))), (4, (1, (tD 9)))]), onD (.store 5 (tD 6) (tD 10))] [[], [], [], [0, 1, 2], [3, 0, 1, 2, 3]] false) .ret))
set_option maxRecDepth 1000000 in
theorem v14 (fu : Nat) : evF fu (d14 fu) rs14 11 (e14 fu).ash (e14 fu).osh (e14 fu).vsh = p14 fu := by kernel_rfl
set_option maxRecDepth 1000000 in
theorem b14 (fu : Nat) : BodyD Try.prog 14 11 (d14 fu).erase rs14 := bodyD_mk Try.func14 (by kernel_rfl) (by kernel_rfl) (by kernel_rfl) (by kernel_rfl)
theorem g14 (fu : Nat) : (e14 fu).Good Try.prog := good_by orders (b14 fu) (l := []) (by kernel_rfl) trivial (by kernel_rfl) (v14 fu)
def rs48 : List RVx := [(.tmp 2)]
/-- (*gazette/records.source).some -/
def p48_1 (_ : Nat) : ((List (D_api_Record)) × ((List (Int)) × ((List ((Int) × (List (Int)))) × (Unit)))) × (Unit) → Option ((((List (D_api_Record)) × ((List (Int)) × ((List ((Int) × (List (Int)))) × (Unit)))) × ((Unit) × ((Unit) × (Unit)))) × (Bool)) := fun ⟨⟨a, c, f, _⟩, _⟩ =>
bif decide (List.length c = List.length c) then
 some (((a, c, f, ()), (), (), ()), decide ((List.length a : Int) > (0 : Int)))
else none
def e48_1 (fu : Nat) : Ent := ⟨48, (.cons Y2 .nil), (.cons Y3 (.cons .dead (.cons .dead .nil))), (.hole .bool), p48_1 fu⟩
def d48_1 (_ : Nat) : DC := (.seq (.region [opD 2 (.mov (.const vB))] [[]] false) (.seq (.region [mvD 3 0, opD 4 (.pure .nilc [(tD 3)]), opD 5 (.faddr 0 (tD 4)), opD 6 (.load false 1 (tD 5)), opD 7 (.len false (tD 6)), opD 8 (.bin .gtr (tD 7) (cD 0)), mvD 2 8] [[], [0], [1], [2], [3], [4], [5, 0, 1, 2, 3, 4, 5]] false) .ret))
set_option maxRecDepth 1000000 in
theorem v48_1 (fu : Nat) : evF fu (d48_1 fu) rs48 9 (e48_1 fu).ash (e48_1 fu).osh (e48_1 fu).vsh = p48_1 fu := by kernel_rfl
set_option maxRecDepth 1000000 in
theorem b48_1 (fu : Nat) : BodyD Try.prog 48 9 (d48_1 fu).erase rs48 := bodyD_mk Try.func48 (by kernel_rfl) (by kernel_rfl) (by kernel_rfl) (by kernel_rfl)
theorem g48_1 (fu : Nat) : (e48_1 fu).Good Try.prog := good_by orders (b48_1 fu) (l := []) (by kernel_rfl) trivial (by kernel_rfl) (v48_1 fu)
def rs49 : List RVx := [(.tmp 4)]
/-- (*gazette/records.source).goesAhead -/
def p49_1 (fu : Nat) : ((List (D_api_Record)) × ((List (Int)) × ((List ((Int) × (List (Int)))) × (Unit)))) × (((List (D_api_Record)) × ((List (Int)) × ((List ((Int) × (List (Int)))) × (Unit)))) × (Unit)) → Option ((((List (D_api_Record)) × ((List (Int)) × ((List ((Int) × (List (Int)))) × (Unit)))) × ((Unit) × ((Unit) × (((List (D_api_Record)) × ((List (Int)) × ((List ((Int) × (List (Int)))) × (Unit)))) × ((Unit) × ((Unit) × (Unit))))))) × (Bool)) := fun ⟨⟨a, c, f, _⟩, ⟨h, i, j, _⟩, _⟩ =>
bif decide (List.length c = List.length c) then
 Option.bind (p48_1 fu ((a, c, f, ()), ())) fun ⟨⟨⟨k, l, m, _⟩, _, _, _⟩, n⟩ =>
 bif !n then
 bif decide (List.length l = List.length l) then
 bif decide (List.length i = List.length i) then
 some (((k, l, m, ()), (), (), (h, i, j, ()), (), (), ()), false)
 else none
 else none
 else
 bif decide ((0 : Int) ≤ 0 ∧ 0 < (List.length k : Int)) then
 bif decide (0 < List.length k) then
 bif ((List.length (Option.getD (lookM (.int .u64) j (((((List.getD k 0 (dflt T_api_Record)).2).2).2).1)) ([])) : Int) == (0 : Int)) then
 bif decide (List.length l = List.length l) then
 bif decide (List.length i = List.length i) then
 some (((k, l, m, ()), (), (), (h, i, j, ()), (), (), ()), true)
 else none
 else none
 else
 bif decide ((0 : Int) ≤ 0 ∧ 0 < (List.length (Option.getD (lookM (.int .u64) j (((((List.getD k 0 (dflt T_api_Record)).2).2).2).1)) ([])) : Int)) then
 bif decide (0 < List.length (Option.getD (lookM (.int .u64) j (((((List.getD k 0 (dflt T_api_Record)).2).2).2).1)) ([]))) then
 bif decide (List.length l = List.length l) then
 bif decide (List.length i = List.length i) then
 some (((k, l, m, ()), (), (), (h, i, j, ()), (), (), ()), decide ((List.getD (Option.getD (lookM (.int .u64) j (((((List.getD k 0 (dflt T_api_Record)).2).2).2).1)) ([])) 0 (dflt (.int .u64))) ≥ (((((List.getD k 0 (dflt T_api_Record)).2).2).2).2)))
 else none
 else none
 else none
 else none
 else none
 else none
else none
def e49_1 (fu : Nat) : Ent := ⟨49, (.cons Y2 (.cons Y2 .nil)), (.cons Y3 (.cons .dead (.cons .dead (.cons Y3 (.cons .dead (.cons .dead .nil)))))), (.hole .bool), p49_1 fu⟩
def d49_1 (fu : Nat) : DC := (.seq (.region [opD 4 (.mov (.const vB))] [[]] false) (.seq (.seq (.region [mvD 7 0, oqD 8 (.call 48 [(tD 7)]) (.ent (e48_1 fu)), opD 9 (.not (tD 8))] [[], [0], [1]] false) (.cond (.tmp 9) (.seq (.region [opD 4 (.mov (.const vB))] [[]] false) .ret) .skip)) (.seq (.region [mvD 10 0, opD 11 (.pure .nilc [(tD 10)]), opD 12 (.faddr 0 (tD 11)), opD 13 (.load false 1 (tD 12)), opD 14 (.iaddr 5 (tD 13) (cD 0)), opD 15 (.load true 5 (tD 14)), opD 5 (.alloc 30 5 [vU, vT, vS, vU, vU]), onD (.store 5 (tD 5) (tD 15))] [[], [0], [1], [2], [3], [4], [], [6, 5, 0, 1, 2, 3, 4, 5, 6]] false) (.seq (.region [mvD 16 1, opD 17 (.pure .nilc [(tD 16)]), opD 18 (.faddr 2 (tD 17)), opD 19 (.load false 1 (tD 18)), opD 20 (.faddr 3 (tD 5)), opD 21 (.load false 1 (tD 20)), opD 22 (.mlook (.int .u64) false false 1 [vS] (tD 19) (tD 21)), mvD 6 22] [[], [0], [1], [2], [], [4], [3, 5], [6, 0, 1, 2, 3, 4, 5, 6]] true) (.seq (.region [mvD 23 6, opD 24 (.len false (tD 23)), opD 25 (.bin .eql (tD 24) (cD 0)), mvD 26 25, ogD 27 26 false (.mov (tD 6)), ogD 28 26 false (.iaddr 1 (tD 27) (cD 0)), ogD 29 26 false (.load false 1 (tD 28)), ogD 30 26 false (.faddr 4 (tD 5)), ogD 31 26 false (.load false 1 (tD 30)), ogD 32 26 false (.bin .geq (tD 29) (tD 31)), opD 33 (.pick (tD 26) (.const (.bool true)) (tD 32)), mvD 4 33] [[], [0], [1], [2], [3], [4, 3], [5, 3], [3], [7, 3], [6, 8, 3], [3, 9], [10, 3, 0, 1, 2, 3, 4, 5, 6, 7, 8, 9, 10]] true) .ret)))))
set_option maxRecDepth 1000000 in
theorem v49_1 (fu : Nat) : evF fu (d49_1 fu) rs49 34 (e49_1 fu).ash (e49_1 fu).osh (e49_1 fu).vsh = p49_1 fu := by kernel_rfl
set_option maxRecDepth 1000000 in
theorem b49_1 (fu : Nat) : BodyD Try.prog 49 34 (d49_1 fu).erase rs49 := bodyD_mk Try.func49 (by kernel_rfl) (by kernel_rfl) (by kernel_rfl) (by kernel_rfl)
theorem g49_1 (fu : Nat) : (e49_1 fu).Good Try.prog := good_by orders (b49_1 fu) (l := [e48_1 fu]) (by kernel_rfl) ⟨g48_1 fu, trivial⟩ (by kernel_rfl) (v49_1 fu)
def rs50 : List RVx := [(.cell 4 true 5)]
/-- (*gazette/records.source).take -/
def p50_1 (_ : Nat) : ((List (D_api_Record)) × ((List (Int)) × ((List ((Int) × (List (Int)))) × (Unit)))) × ((Int) × (Unit)) → Option ((((List (D_api_Record)) × ((List (Int)) × ((List ((Int) × (List (Int)))) × (Unit)))) × ((Unit) × ((Unit) × (Unit)))) × ((Int) × ((ByteArray) × ((List (Int)) × ((Int) × ((Int) × (Unit))))))) := fun ⟨⟨a, c, f, _⟩, h, _⟩ =>
bif decide ((0 : Int) ≤ 0 ∧ 0 < (List.length a : Int)) then
 bif decide (0 < List.length a) then
 bif decide (1 ≤ List.length a) then
 bif decide (List.length c = List.length c) then
 bif decide (List.length c + List.length ([h]) ≤ maxLen ∧ (List.length c + List.length ([h])) * 8 ≤ 140737488355328) then
 bif decide (1 ≤ List.length (Option.getD (lookM (.int .u64) f (((((List.getD a 0 (dflt T_api_Record)).2).2).2).1)) ([]))) then
 bif decide (List.length (c ++ [h]) = List.length (c ++ [h])) then
 some (((List.drop 1 a, (c ++ [h]), (setM (.int .u64) f (((((List.getD a 0 (dflt T_api_Record)).2).2).2).1) (List.drop 1 (Option.getD (lookM (.int .u64) f (((((List.getD a 0 (dflt T_api_Record)).2).2).2).1)) ([])))), ()), (), (), ()), ((List.getD a 0 (dflt T_api_Record)).1, ((List.getD a 0 (dflt T_api_Record)).2).1, (((List.getD a 0 (dflt T_api_Record)).2).2).1, ((((List.getD a 0 (dflt T_api_Record)).2).2).2).1, ((((List.getD a 0 (dflt T_api_Record)).2).2).2).2, ()))
 else none
 else none
 else none
 else none
 else none
 else none
else none
def e50_1 (fu : Nat) : Ent := ⟨50, (.cons Y2 (.cons (.hole (.int .u64)) .nil)), (.cons Y3 (.cons .dead (.cons .dead .nil))), Y0, p50_1 fu⟩
def d50_1 (_ : Nat) : DC := (.seq (.region [opD 4 (.alloc 30 5 [vU, vT, vS, vU, vU])] [[]] false) (.seq (.region [mvD 6 0, opD 7 (.pure .nilc [(tD 6)]), opD 8 (.faddr 0 (tD 7)), opD 9 (.load false 1 (tD 8)), opD 10 (.iaddr 5 (tD 9) (cD 0)), opD 11 (.load true 5 (tD 10)), opD 5 (.alloc 30 5 [vU, vT, vS, vU, vU]), onD (.store 5 (tD 5) (tD 11))] [[], [0], [1], [2], [3], [4], [], [6, 5, 0, 1, 2, 3, 4, 5, 6]] false) (.seq (.region [mvD 12 0, mvD 13 0, opD 14 (.pure .nilc [(tD 13)]), opD 15 (.faddr 0 (tD 14)), opD 16 (.load false 1 (tD 15)), opD 17 (.slc 5 (tD 16) (some (cD 1)) none), opD 18 (.pure .nilc [(tD 12)]), opD 19 (.faddr 0 (tD 18)), onD (.store 1 (tD 19) (tD 17))] [[], [], [1], [2], [3], [4], [0, 0, 1, 2, 3, 4, 5], [6, 0, 1, 2, 3, 4, 5], [7, 5, 0, 1, 2, 3, 4, 5]] false) (.seq (.region [mvD 20 0, mvD 21 0, opD 22 (.pure .nilc [(tD 21)]), opD 23 (.faddr 1 (tD 22)), opD 24 (.load false 1 (tD 23)), mvD 25 1, oqD 26 (.bslice 27 1 1 [vU] [(0, (tD 25))]) (.ty (.int .u64)), oqD 27 (.app 27 1 [vU] 8 (tD 24) (tD 26)) (.ty (.int .u64)), opD 28 (.pure .nilc [(tD 20)]), opD 29 (.faddr 1 (tD 28)), onD (.store 1 (tD 29) (tD 27))] [[], [], [1], [2], [3], [], [5], [4, 6], [0, 0, 1, 2, 3, 4, 5, 6, 7], [8, 0, 1, 2, 3, 4, 5, 6, 7], [9, 7, 7, 0, 1, 2, 3, 4, 5, 6, 7]] false) (.seq (.region [mvD 30 0, opD 31 (.pure .nilc [(tD 30)]), opD 32 (.faddr 2 (tD 31)), opD 33 (.load false 1 (tD 32)), opD 34 (.faddr 3 (tD 5)), opD 35 (.load false 1 (tD 34)), mvD 36 0, opD 37 (.pure .nilc [(tD 36)]), opD 38 (.faddr 2 (tD 37)), opD 39 (.load false 1 (tD 38)), opD 40 (.faddr 3 (tD 5)), opD 41 (.load false 1 (tD 40)), opD 42 (.mlook (.int .u64) false false 1 [vS] (tD 39) (tD 41)), opD 43 (.slc 1 (tD 42) (some (cD 1)) none), onD (.mset (.int .u64) false 1 (tD 33) (tD 35) (tD 43))] [[], [0], [1], [2], [], [4], [], [6], [7], [8], [], [10], [9, 11], [12], [3, 5, 13, 0, 1, 2, 3, 4, 5, 6, 7, 8, 9, 10, 11, 12, 13]] true) (.seq (.region [opD 44 (.load true 5 (tD 5)), onD (.store 5 (tD 4) (tD 44))] [[], [0, 0]] false) .ret))))))
set_option maxRecDepth 1000000 in
theorem v50_1 (fu : Nat) : evF fu (d50_1 fu) rs50 45 (e50_1 fu).ash (e50_1 fu).osh (e50_1 fu).vsh = p50_1 fu := by kernel_rfl
set_option maxRecDepth 1000000 in
theorem b50_1 (fu : Nat) : BodyD Try.prog 50 45 (d50_1 fu).erase rs50 := bodyD_mk Try.func50 (by kernel_rfl) (by kernel_rfl) (by kernel_rfl) (by kernel_rfl)
theorem g50_1 (fu : Nat) : (e50_1 fu).Good Try.prog := good_by orders (b50_1 fu) (l := []) (by kernel_rfl) trivial (by kernel_rfl) (v50_1 fu)
def rs13 : List RVx := [(.tmp 4), (.tmp 5), (.tmp 6), (.tmp 7)]
/-- gazette/records.Join -/
def p13 (fu : Nat) : (List (D_api_Record)) × ((List (D_api_Record)) × (Unit)) → Option ((Unit) × ((List (D_api_Record)) × ((List (Int)) × ((List (Int)) × ((Int) × (Unit)))))) := fun ⟨a, c, _⟩ =>
orK (E := ((Bool) × (Unit)) × (Unit))
 (Option.bind (p27 fu (a, ())) fun ⟨_, f⟩ =>
 bif !f then
 some (.inl ((true, ()), ()))
 else
 Option.bind (p27 fu (c, ())) fun ⟨_, h⟩ =>
 some (.inl ((!h, ()), ())))
 fun ⟨⟨i, _⟩, _⟩ =>
bif i then
 some ((), ([], [], [], (1 : Int), ()))
else
 bif decide ((IntKind.wrap .i64 ((List.length a : Int) + (List.length c : Int))) > (4096 : Int)) then
 some ((), ([], [], [], (143 : Int), ()))
 else
 Option.bind (pNewSrc fu (a, ())) fun ⟨_, ⟨j, _, k, _⟩⟩ =>
 Option.bind (pNewSrc fu (c, ())) fun ⟨_, ⟨l, _, m, _⟩⟩ =>
 loopO (S := ((List (D_api_Record)) × (Unit)) × (((List (D_api_Record)) × ((List (Int)) × ((List ((Int) × (List (Int)))) × (Unit)))) × (((List (D_api_Record)) × ((List (Int)) × ((List ((Int) × (List (Int)))) × (Unit)))) × (Unit)))) fu (fun ⟨⟨n, _⟩, ⟨⟨o, q, s, _⟩, ⟨t, u, w, _⟩, _⟩⟩ =>
 orK (E := (Unit) × (((List (D_api_Record)) × ((List (Int)) × ((List ((Int) × (List (Int)))) × (Unit)))) × (((List (D_api_Record)) × ((List (Int)) × ((List ((Int) × (List (Int)))) × (Unit)))) × (Unit))))
 (bif decide (List.length q = List.length q) then
 Option.bind (p48_1 fu ((o, q, s, ()), ())) fun ⟨⟨⟨x, y, z, _⟩, _, _, _⟩, a0⟩ =>
 bif a0 then
 bif decide (List.length y = List.length y) then
 bif decide (List.length u = List.length u) then
 some (.inl ((), ((x, y, z, ()), (t, u, w, ()), ())))
 else none
 else none
 else
 bif decide (List.length u = List.length u) then
 Option.bind (p48_1 fu ((t, u, w, ()), ())) fun ⟨⟨⟨c0, f0, h0, _⟩, _, _, _⟩, i0⟩ =>
 bif i0 then
 bif decide (List.length y = List.length y) then
 bif decide (List.length f0 = List.length f0) then
 some (.inl ((), ((x, y, z, ()), (c0, f0, h0, ()), ())))
 else none
 else none
 else
 inrO (inrO (bif decide (List.length y = List.length y) then
 bif decide (List.length y + List.length ([IntKind.wrap .u64 ((List.length n) : Int)]) ≤ maxLen ∧ (List.length y + List.length ([IntKind.wrap .u64 ((List.length n) : Int)])) * 8 ≤ 140737488355328) then
 bif decide (List.length f0 = List.length f0) then
 bif decide (List.length f0 + List.length ([IntKind.wrap .u64 ((List.length n) : Int)]) ≤ maxLen ∧ (List.length f0 + List.length ([IntKind.wrap .u64 ((List.length n) : Int)])) * 8 ≤ 140737488355328) then
 bif decide (List.length n = List.length n) then
 bif decide (List.length (y ++ [IntKind.wrap .u64 ((List.length n) : Int)]) = List.length (y ++ [IntKind.wrap .u64 ((List.length n) : Int)])) then
 bif decide (List.length (f0 ++ [IntKind.wrap .u64 ((List.length n) : Int)]) = List.length (f0 ++ [IntKind.wrap .u64 ((List.length n) : Int)])) then
 some ((), (n, (y ++ [IntKind.wrap .u64 ((List.length n) : Int)]), (f0 ++ [IntKind.wrap .u64 ((List.length n) : Int)]), (0 : Int), ()))
 else none
 else none
 else none
 else none
 else none
 else none
 else none))
 else none
 else none)
 fun ⟨_, ⟨⟨o, q, s, _⟩, ⟨t, u, w, _⟩, _⟩⟩ =>
 bif decide (List.length q = List.length q) then
 bif decide (List.length u = List.length u) then
 Option.bind (p49_1 fu ((o, q, s, ()), (t, u, w, ()), ())) fun ⟨⟨⟨j0, k0, l0, _⟩, _, _, ⟨m0, n0, o0, _⟩, _, _, _⟩, q0⟩ =>
 bif q0 then
 bif decide (List.length k0 = List.length k0) then
 Option.bind (p50_1 fu ((j0, k0, l0, ()), IntKind.wrap .u64 ((List.length n) : Int), ())) fun ⟨⟨⟨s0, t0, u0, _⟩, _, _, _⟩, ⟨w0, x0, y0, z0, a1, _⟩⟩ =>
 bif decide (List.length n = List.length n) then
 Option.bind (p46 fu (n, (w0, x0, y0, z0, a1, ()), ())) fun ⟨⟨_, _⟩, c1⟩ =>
 bif decide (List.length c1 = List.length c1) then
 bif decide (List.length t0 = List.length t0) then
 bif decide (List.length n0 = List.length n0) then
 some (.inl ((c1, ()), ((s0, t0, u0, ()), (m0, n0, o0, ()), ())))
 else none
 else none
 else none
 else none
 else none
 else
 bif decide (List.length n0 = List.length n0) then
 bif decide (List.length k0 = List.length k0) then
 Option.bind (p49_1 fu ((m0, n0, o0, ()), (j0, k0, l0, ()), ())) fun ⟨⟨⟨f1, h1, i1, _⟩, _, _, ⟨j1, k1, l1, _⟩, _, _, _⟩, m1⟩ =>
 bif m1 then
 bif decide (List.length h1 = List.length h1) then
 Option.bind (p50_1 fu ((f1, h1, i1, ()), IntKind.wrap .u64 ((List.length n) : Int), ())) fun ⟨⟨⟨n1, o1, q1, _⟩, _, _, _⟩, ⟨s1, t1, u1, w1, x1, _⟩⟩ =>
 bif decide (List.length n = List.length n) then
 Option.bind (p46 fu (n, (s1, t1, u1, w1, x1, ()), ())) fun ⟨⟨_, _⟩, y1⟩ =>
 bif decide (List.length y1 = List.length y1) then
 bif decide (List.length k1 = List.length k1) then
 bif decide (List.length o1 = List.length o1) then
 some (.inl ((y1, ()), ((j1, k1, l1, ()), (n1, o1, q1, ()), ())))
 else none
 else none
 else none
 else none
 else none
 else
 inrO (some ((), ([], [], [], (145 : Int), ())))
 else none
 else none
 else none
 else none)
 (([], ()), ((j, [], k, ()), (l, [], m, ()), ()))
def e13 (fu : Nat) : Ent := ⟨13, (.cons (.hole (.sl T_api_Record)) (.cons (.hole (.sl T_api_Record)) .nil)), .nil, Y4, p13 fu⟩
def d13 (fu : Nat) : DC := (.seq (.region [opD 4 (.mov (.const vS)), opD 5 (.mov (.const vS)), opD 6 (.mov (.const vS)), opD 7 (.mov (cD 0))] [[], [0], [1], [2]] false) (.seq (.join ⟨[20], (.cons (.hole .bool) .nil), [], .nil, [0, 1], []⟩
 (.region [mvD 13 0, oqD 14 (.call 27 [(tD 13)]) (.ent (e27 fu)), opD 15 (.not (tD 14)), mvD 16 15, ogD 17 16 false (.mov (tD 1)), (⟨(some 18), (some (16, false)), (.call 27 [(tD 17)])⟩, (.ent (e27 fu))), ogD 19 16 false (.not (tD 18)), opD 20 (.pick (tD 16) (.const (.bool true)) (tD 19))] [[], [0], [1], [2, 1], [3], [4, 3, 3], [5, 3], [3, 6]] false)
 (.cond (.tmp 20) (.seq (.region [opD 4 (.mov (.const vS)), opD 5 (.mov (.const vS)), opD 6 (.mov (.const vS)), opD 7 (.mov (cD 1))] [[], [0, 0], [1, 0, 1], [2, 0, 1, 2]] false) .ret) .skip)) (.seq (.seq (.region [mvD 21 0, opD 22 (.len false (tD 21)), mvD 23 1, opD 24 (.len false (tD 23)), opD 25 (.bin .add (tD 22) (tD 24)), opD 26 (.bin .gtr (tD 25) (cD 4096))] [[], [0], [], [2], [1, 3], [4]] false) (.cond (.tmp 26) (.seq (.region [opD 4 (.mov (.const vS)), opD 5 (.mov (.const vS)), opD 6 (.mov (.const vS)), opD 7 (.mov (cD 143))] [[], [0, 0], [1, 0, 1], [2, 0, 1, 2]] false) .ret) .skip)) (.seq (.region [opD 8 (.mov (.const vS))] [[]] false) (.seq (.region [mvD 27 0, oqD 28 (.call 47 [(tD 27)]) (.ent (eNewSrc fu)), mvD 29 1, oqD 30 (.call 47 [(tD 29)]) (.ent (eNewSrc fu)), mvD 9 28, mvD 10 30] [[], [0], [], [2, 1], [1, 3, 0, 1], [3, 4, 0, 1, 2, 3, 4]] false) (.seq (.block 0 (.loop ⟨[8], (.cons (.own .own 30 T_api_Record) .nil), [(192, 83, 3), (224, 83, 3)], (.cons Y3 (.cons Y3 .nil)), [9, 10], []⟩
 (.join ⟨[], .nil, [(192, 83, 3), (224, 83, 3)], (.cons Y3 (.cons Y3 .nil)), [8, 9, 10], [272]⟩
 (.seq (.region [mvD 31 9, oqD 32 (.call 48 [(tD 31)]) (.ent (e48_1 fu)), mvD 33 32, ogD 34 33 false (.mov (tD 10)), (⟨(some 35), (some (33, false)), (.call 48 [(tD 34)])⟩, (.ent (e48_1 fu))), opD 36 (.pick (tD 33) (.const (.bool true)) (tD 35))] [[], [0], [1, 1], [2], [3, 2, 2], [2, 4]] false) (.cond (.tmp 36) .skip (.exit 0)))
 (.block 1 (.seq (.region [opD 11 (.mov (.const (.pointer none)))] [[]] false) (.seq (.block 2 (.seq (.region [mvD 38 9, mvD 39 10, oqD 40 (.call 49 [(tD 38), (tD 39)]) (.ent (e49_1 fu)), mvD 37 40] [[], [], [0, 1], [2, 2]] false) (.cond (.tmp 37) (.region [mvD 41 9, mvD 11 41] [[], [0, 0]] false) (.seq (.region [mvD 43 10, mvD 44 9, oqD 45 (.call 49 [(tD 43), (tD 44)]) (.ent (e49_1 fu)), mvD 42 45] [[], [], [0, 1], [2, 2]] false) (.cond (.tmp 42) (.region [mvD 46 10, mvD 11 46] [[], [0, 0]] false) (.seq (.region [opD 4 (.mov (.const vS)), opD 5 (.mov (.const vS)), opD 6 (.mov (.const vS)), opD 7 (.mov (cD 145))] [[], [0, 0], [1, 0, 1], [2, 0, 1, 2]] false) .ret)))))) (.region [mvD 47 8, mvD 48 11, mvD 49 8, opD 50 (.len false (tD 49)), opD 51 (.conv .u64 (tD 50)), oqD 52 (.call 50 [(tD 48), (tD 51)]) (.ent (e50_1 fu)), oqD 53 (.call 46 [(tD 47), (tD 52)]) (.ent (e46 fu)), mvD 8 53] [[], [], [], [2], [3], [1, 4], [0, 5, 5], [6, 6, 0, 1, 2, 3, 4, 5, 6]] false))))))) (.seq (.region [mvD 54 8, opD 55 (.len false (tD 54)), opD 56 (.conv .u64 (tD 55)), mvD 12 56] [[], [0], [1], [2, 0, 1, 2]] false) (.seq (.region [mvD 57 8, mvD 58 9, opD 59 (.pure .nilc [(tD 58)]), opD 60 (.faddr 1 (tD 59)), opD 61 (.load false 1 (tD 60)), mvD 62 12, oqD 63 (.bslice 27 1 1 [vU] [(0, (tD 62))]) (.ty (.int .u64)), oqD 64 (.app 27 1 [vU] 8 (tD 61) (tD 63)) (.ty (.int .u64)), mvD 65 10, opD 66 (.pure .nilc [(tD 65)]), opD 67 (.faddr 1 (tD 66)), opD 68 (.load false 1 (tD 67)), mvD 69 12, oqD 70 (.bslice 27 1 1 [vU] [(0, (tD 69))]) (.ty (.int .u64)), oqD 71 (.app 27 1 [vU] 8 (tD 68) (tD 70)) (.ty (.int .u64)), mvD 4 57, mvD 5 64, mvD 6 71, opD 7 (.mov (cD 0))] [[], [], [1], [2], [3], [], [5], [4, 6], [], [8], [9], [10], [], [12], [11, 13, 7], [0, 14, 0], [7, 15, 0, 1, 2, 3, 4, 5, 6, 7, 15], [14, 16, 0, 1, 2, 3, 4, 5, 6, 7, 8, 9, 10, 11, 12, 13, 14, 15, 16], [17, 0, 1, 2, 3, 4, 5, 6, 7, 8, 9, 10, 11, 12, 13, 14, 15, 16, 17]] true) .ret))))))))
set_option maxRecDepth 1000000 in
theorem v13 (fu : Nat) : evF fu (d13 fu) rs13 72 (e13 fu).ash (e13 fu).osh (e13 fu).vsh = p13 fu := by kernel_rfl
set_option maxRecDepth 1000000 in
theorem b13 (fu : Nat) : BodyD Try.prog 13 72 (d13 fu).erase rs13 := bodyD_mk Try.func13 (by kernel_rfl) (by kernel_rfl) (by kernel_rfl) (by kernel_rfl)
theorem g13 (fu : Nat) : (e13 fu).Good Try.prog := good_by orders (b13 fu) (l := [e27 fu, e27 fu, eNewSrc fu, eNewSrc fu, e48_1 fu, e48_1 fu, e49_1 fu, e49_1 fu, e50_1 fu, e46 fu]) (by kernel_rfl) ⟨g27 fu, g27 fu, gNewSrc fu, gNewSrc fu, g48_1 fu, g48_1 fu, g49_1 fu, g49_1 fu, g50_1 fu, g46 fu, trivial⟩ (by kernel_rfl) (v13 fu)
def rs52 : List RVx := [(.tmp 4)]
/-- (gazette/records.offsets).at -/
def p52 (_ : Nat) : (List (Int)) × ((Int) × (Unit)) → Option ((Unit) × (Int)) := fun ⟨a, c, _⟩ =>
bif decide ((0 : Int) ≤ (if IntKind.wrap .u64 (IntKind.wrap .i64 ((List.length a : Int) - (1 : Int))) < c then IntKind.wrap .u64 (IntKind.wrap .i64 ((List.length a : Int) - (1 : Int))) else c) ∧ (if IntKind.wrap .u64 (IntKind.wrap .i64 ((List.length a : Int) - (1 : Int))) < c then IntKind.wrap .u64 (IntKind.wrap .i64 ((List.length a : Int) - (1 : Int))) else c) < (List.length a : Int)) then
 bif decide (Int.toNat (if IntKind.wrap .u64 (IntKind.wrap .i64 ((List.length a : Int) - (1 : Int))) < c then IntKind.wrap .u64 (IntKind.wrap .i64 ((List.length a : Int) - (1 : Int))) else c) < List.length a) then
 some ((), (List.getD a (Int.toNat (if IntKind.wrap .u64 (IntKind.wrap .i64 ((List.length a : Int) - (1 : Int))) < c then IntKind.wrap .u64 (IntKind.wrap .i64 ((List.length a : Int) - (1 : Int))) else c)) (dflt (.int .u64))))
 else none
else none
def e52 (fu : Nat) : Ent := ⟨52, (.cons (.hole (.sl (.int .u64))) (.cons (.hole (.int .u64)) .nil)), .nil, (.hole (.int .u64)), p52 fu⟩
def d52 (_ : Nat) : DC := (.seq (.region [opD 4 (.mov (.const vU))] [[]] false) (.seq (.region [mvD 5 0, mvD 6 1, mvD 7 0, opD 8 (.len false (tD 7)), opD 9 (.bin .sub (tD 8) (cD 1)), opD 10 (.conv .u64 (tD 9)), opD 11 (.mm false (tD 6) (tD 10)), opD 12 (.iaddr 1 (tD 5) (tD 11)), opD 13 (.load false 1 (tD 12)), mvD 4 13] [[], [], [], [2], [3], [4], [1, 5], [0, 6], [7], [8, 0, 1, 2, 3, 4, 5, 6, 7, 8]] false) .ret))
set_option maxRecDepth 1000000 in
theorem v52 (fu : Nat) : evF fu (d52 fu) rs52 14 (e52 fu).ash (e52 fu).osh (e52 fu).vsh = p52 fu := by kernel_rfl
set_option maxRecDepth 1000000 in
theorem b52 (fu : Nat) : BodyD Try.prog 52 14 (d52 fu).erase rs52 := bodyD_mk Try.func52 (by kernel_rfl) (by kernel_rfl) (by kernel_rfl) (by kernel_rfl)
theorem g52 (fu : Nat) : (e52 fu).Good Try.prog := good_by orders (b52 fu) (l := []) (by kernel_rfl) trivial (by kernel_rfl) (v52 fu)
def rs69 : List RVx := [(.cell 3 true 2)]
/-- gazette/records.moved$1 -/
def p69 (fu : Nat) : ((ByteArray) × ((Int) × (Unit))) × (((((List (Int)) × (Unit)) × (Unit)) × (Unit)) × (Unit)) → Option ((((((List (Int)) × (Unit)) × (Unit)) × (Unit)) × (Unit)) × ((ByteArray) × ((Int) × (Unit)))) := fun ⟨⟨a, c, _⟩, ⟨⟨⟨f, _⟩, _⟩, _⟩, _⟩ =>
Option.bind (p52 fu (f, c, ())) fun ⟨_, h⟩ =>
some (((((f, ()), ()), ()), ()), (a, h, ()))
def e69 (fu : Nat) : Ent := ⟨69, (.cons (.agg 2 (.cons (.hole .str) (.cons (.hole (.int .u64)) .nil))) (.cons (.box 85 1 (.cons (.clo 52 1 (.cons (.hole (.sl (.int .u64))) .nil) 0 .nil) .nil)) .nil)), (.cons (.agg 1 (.cons (.clo 52 1 (.cons (.hole (.sl (.int .u64))) .nil) 0 .nil) .nil)) .nil), (.agg 2 (.cons (.hole .str) (.cons (.hole (.int .u64)) .nil))), p69 fu⟩
def d69 (fu : Nat) : DC := (.seq (.region [opD 2 (.box 40 2 (tD 0)), opD 3 (.alloc 40 2 [vT, vU])] [[], []] false) (.seq (.region [opD 4 (.faddr 0 (tD 2)), opD 5 (.load false 1 (tD 4)), opD 6 (.load false 1 (tD 1)), opD 7 (.faddr 1 (tD 2)), opD 8 (.load false 1 (tD 7)), oqD 9 (.callv (tD 6) [(tD 8)]) (.ent (e52 fu)), opD 10 (.build 2 [vT, vU] [(0, (1, (tD 5))), (1, (1, (tD 9)))]), onD (.store 2 (tD 3) (tD 10))] [[], [0], [], [], [3], [2, 4], [1, 5], [6, 5, 0, 1, 2, 3, 4, 5, 6]] true) .ret))
set_option maxRecDepth 1000000 in
theorem v69 (fu : Nat) : evF fu (d69 fu) rs69 11 (e69 fu).ash (e69 fu).osh (e69 fu).vsh = p69 fu := by kernel_rfl
set_option maxRecDepth 1000000 in
theorem b69 (fu : Nat) : BodyD Try.prog 69 11 (d69 fu).erase rs69 := bodyD_mk Try.func69 (by kernel_rfl) (by kernel_rfl) (by kernel_rfl) (by kernel_rfl)
theorem g69 (fu : Nat) : (e69 fu).Good Try.prog := good_by orders (b69 fu) (l := [e52 fu]) (by kernel_rfl) ⟨g52 fu, trivial⟩ (by kernel_rfl) (v69 fu)
def rs68 : List RVx := [(.tmp 4)]
/-- gazette/copies.Each[gazette/api.Consumer] -/
def p68 (fu : Nat) : (List (D_runtime_errorAddressString)) × (((Unit) × (((((List (Int)) × (Unit)) × (Unit)) × (Unit)) × (Unit))) × (Unit)) → Option ((((((List (Int)) × (Unit)) × (Unit)) × (Unit)) × (Unit)) × (List (D_runtime_errorAddressString))) := fun ⟨a, ⟨_, ⟨⟨⟨⟨c, _⟩, _⟩, _⟩, _⟩⟩, _⟩ =>
bif ((List.length a : Int) == (0 : Int)) then
 some (((((c, ()), ()), ()), ()), [])
else
 bif decide ((0 : Int) ≤ (List.length a : Int) ∧ ((List.length a : Int) : Int) ≤ (List.length a : Int) ∧ ((List.length a : Int) : Int) ≤ 9223372036854775807 ∧ (24 : Int) * (List.length a : Int) ≤ 140737488355328) then
 bif decide (Int.toNat (List.length a : Int) = List.length (List.replicate (Int.toNat (List.length a : Int)) ((⟨#[]⟩ : ByteArray), (0 : Int)) : List (D_runtime_errorAddressString))) then
 loopO (S := ((List (D_runtime_errorAddressString)) × ((Int) × (Unit))) × (((((List (Int)) × (Unit)) × (Unit)) × (Unit)) × (Unit))) fu (fun ⟨⟨f, h, _⟩, ⟨⟨⟨⟨i, _⟩, _⟩, _⟩, _⟩⟩ =>
 bif decide (h < (List.length a : Int)) then
 bif decide ((0 : Int) ≤ h ∧ h < (List.length a : Int)) then
 bif decide (Int.toNat h < List.length a) then
 Option.bind (p69 fu (((List.getD a (Int.toNat h) (dflt T_runtime_errorAddressString)).1, (List.getD a (Int.toNat h) (dflt T_runtime_errorAddressString)).2, ()), (((i, ()), ()), ()), ())) fun ⟨⟨⟨⟨⟨j, _⟩, _⟩, _⟩, _⟩, ⟨k, l, _⟩⟩ =>
 bif decide ((0 : Int) ≤ h ∧ h < (List.length f : Int)) then
 bif decide (Int.toNat h < List.length f) then
 bif decide (List.length f = List.length (List.set f (Int.toNat h) (k, l))) then
 some (.inl (((List.set f (Int.toNat h) (k, l)), IntKind.wrap .i64 (h + (1 : Int)), ()), ((((j, ()), ()), ()), ())))
 else none
 else none
 else none
 else none
 else none
 else
 inrO (bif decide (List.length f = List.length f) then
 some (((((i, ()), ()), ()), ()), f)
 else none))
 (((List.replicate (Int.toNat (List.length a : Int)) ((⟨#[]⟩ : ByteArray), (0 : Int)) : List (D_runtime_errorAddressString)), (0 : Int), ()), ((((c, ()), ()), ()), ()))
 else none
 else none
def e68 (fu : Nat) : Ent := ⟨68, (.cons (.hole (.sl T_runtime_errorAddressString)) (.cons (.clo 69 0 .nil 1 (.cons (.box 85 1 (.cons (.clo 52 1 (.cons (.hole (.sl (.int .u64))) .nil) 0 .nil) .nil)) .nil)) .nil)), (.cons (.agg 1 (.cons (.clo 52 1 (.cons (.hole (.sl (.int .u64))) .nil) 0 .nil) .nil)) .nil), (.own .own 40 T_runtime_errorAddressString), p68 fu⟩
def d68 (fu : Nat) : DC := (.seq (.region [opD 4 (.mov (.const vS))] [[]] false) (.seq (.seq (.region [mvD 8 0, opD 9 (.len false (tD 8)), opD 10 (.bin .eql (tD 9) (cD 0))] [[], [0], [1]] false) (.cond (.tmp 10) (.seq (.region [opD 4 (.mov (.const vS))] [[]] false) .ret) .skip)) (.seq (.region [mvD 11 0, opD 12 (.len false (tD 11)), oqD 13 (.make false 40 2 [vT, vU] 24 (tD 12) (tD 12)) (.ty T_runtime_errorAddressString), mvD 5 13] [[], [0], [1, 1], [2, 0, 1, 2]] false) (.seq (.seq (.region [mvD 14 0, opD 15 (.len false (tD 14)), opD 16 (.mov (cD 0))] [[], [0], []] false) (.block 0 (.loop ⟨[5, 16], (.cons (.own .own 40 T_runtime_errorAddressString) (.cons (.hole (.int .i64)) .nil)), [(0, 85, 1)], (.cons (.agg 1 (.cons (.clo 52 1 (.cons (.hole (.sl (.int .u64))) .nil) 0 .nil) .nil)) .nil), [1, 14, 15], []⟩
 (.seq (.region [opD 17 (.bin .lss (tD 16) (tD 15))] [[]] false) (.seq (.cond (.tmp 17) .skip (.exit 0)) (.seq (.block 1 (.seq (.region [mvD 18 16, opD 19 (.iaddr 2 (tD 14) (tD 16)), opD 20 (.load true 2 (tD 19)), opD 7 (.alloc 40 2 [vT, vU]), mvD 6 18, onD (.store 2 (tD 7) (tD 20))] [[], [], [1], [], [0, 0, 1, 2, 3], [3, 2, 4, 0, 1, 2, 3, 4]] false) (.region [mvD 21 5, mvD 22 6, mvD 23 1, opD 24 (.load true 2 (tD 7)), oqD 25 (.callv (tD 23) [(tD 24)]) (.ent (e69 fu)), opD 26 (.iaddr 2 (tD 21) (tD 22)), onD (.store 2 (tD 26) (tD 25))] [[], [], [], [], [2, 3], [0, 1, 0, 1, 2, 3, 4], [5, 4, 4, 0, 1, 2, 3, 4]] false))) (.region [opD 27 (.bin .add (tD 16) (cD 1)), mvD 16 27] [[], [0]] false))))))) (.seq (.region [mvD 28 5, mvD 4 28] [[], [0, 0]] false) .ret)))))
set_option maxRecDepth 1000000 in
theorem v68 (fu : Nat) : evF fu (d68 fu) rs68 29 (e68 fu).ash (e68 fu).osh (e68 fu).vsh = p68 fu := by kernel_rfl
set_option maxRecDepth 1000000 in
theorem b68 (fu : Nat) : BodyD Try.prog 68 29 (d68 fu).erase rs68 := bodyD_mk Try.func68 (by kernel_rfl) (by kernel_rfl) (by kernel_rfl) (by kernel_rfl)
theorem g68 (fu : Nat) : (e68 fu).Good Try.prog := good_by orders (b68 fu) (l := [e69 fu]) (by kernel_rfl) ⟨g69 fu, trivial⟩ (by kernel_rfl) (v68 fu)
def rs51 : List RVx := [(.tmp 4)]
/-- gazette/records.moved -/
def p51 (fu : Nat) : (List (D_runtime_errorAddressString)) × ((((List (Int)) × (Unit)) × (Unit)) × (Unit)) → Option ((Unit) × (List (D_runtime_errorAddressString))) := fun ⟨a, ⟨⟨c, _⟩, _⟩, _⟩ =>
Option.bind (p68 fu (a, ((), ((((c, ()), ()), ()), ())), ())) fun ⟨⟨⟨⟨⟨_, _⟩, _⟩, _⟩, _⟩, f⟩ =>
bif decide (List.length f = List.length f) then
 some ((), f)
else none
def e51 (fu : Nat) : Ent := ⟨51, (.cons (.hole (.sl T_runtime_errorAddressString)) (.cons (.clo 52 1 (.cons (.hole (.sl (.int .u64))) .nil) 0 .nil) .nil)), .nil, (.own .own 40 T_runtime_errorAddressString), p51 fu⟩
def d51 (fu : Nat) : DC := (.seq (.region [opD 3 (.box 85 1 (tD 1)), opD 4 (.mov (.const vS))] [[], []] false) (.seq (.region [mvD 5 0, opD 6 (.fn 69 [] [(tD 3)]), oqD 7 (.call 68 [(tD 5), (tD 6)]) (.ent (e68 fu)), mvD 4 7] [[], [], [0, 1], [2, 2, 0, 1, 2]] false) .ret))
set_option maxRecDepth 1000000 in
theorem v51 (fu : Nat) : evF fu (d51 fu) rs51 8 (e51 fu).ash (e51 fu).osh (e51 fu).vsh = p51 fu := by kernel_rfl
set_option maxRecDepth 1000000 in
theorem b51 (fu : Nat) : BodyD Try.prog 51 8 (d51 fu).erase rs51 := bodyD_mk Try.func51 (by kernel_rfl) (by kernel_rfl) (by kernel_rfl) (by kernel_rfl)
theorem g51 (fu : Nat) : (e51 fu).Good Try.prog := good_by orders (b51 fu) (l := [e68 fu]) (by kernel_rfl) ⟨g68 fu, trivial⟩ (by kernel_rfl) (v51 fu)
def rs15 : List RVx := [(.tmp 4)]
/-- gazette/records.Map -/
def p15 (fu : Nat) : (List (D_runtime_errorAddressString)) × ((List (Int)) × (Unit)) → Option ((Unit) × (List (D_runtime_errorAddressString))) := fun ⟨a, c, _⟩ =>
bif ((List.length c : Int) == (0 : Int)) then
 some ((), [])
else
 Option.bind (p51 fu (a, ((c, ()), ()), ())) fun ⟨_, f⟩ =>
 bif decide (List.length f = List.length f) then
 some ((), f)
 else none
def e15 (fu : Nat) : Ent := ⟨15, (.cons (.hole (.sl T_runtime_errorAddressString)) (.cons (.hole (.sl (.int .u64))) .nil)), .nil, (.own .own 40 T_runtime_errorAddressString), p15 fu⟩
def d15 (fu : Nat) : DC := (.seq (.region [opD 4 (.mov (.const vS))] [[]] false) (.seq (.seq (.region [mvD 5 1, opD 6 (.len false (tD 5)), opD 7 (.bin .eql (tD 6) (cD 0))] [[], [0], [1]] false) (.cond (.tmp 7) (.seq (.region [opD 4 (.mov (.const vS))] [[]] false) .ret) .skip)) (.seq (.region [mvD 8 0, mvD 9 1, opD 10 (.fn 52 [(tD 9)] []), oqD 11 (.call 51 [(tD 8), (tD 10)]) (.ent (e51 fu)), mvD 4 11] [[], [], [1], [0, 2], [3, 3, 0, 1, 2, 3]] false) .ret)))
set_option maxRecDepth 1000000 in
theorem v15 (fu : Nat) : evF fu (d15 fu) rs15 12 (e15 fu).ash (e15 fu).osh (e15 fu).vsh = p15 fu := by kernel_rfl
set_option maxRecDepth 1000000 in
theorem b15 (fu : Nat) : BodyD Try.prog 15 12 (d15 fu).erase rs15 := bodyD_mk Try.func15 (by kernel_rfl) (by kernel_rfl) (by kernel_rfl) (by kernel_rfl)
theorem g15 (fu : Nat) : (e15 fu).Good Try.prog := good_by orders (b15 fu) (l := [e51 fu]) (by kernel_rfl) ⟨g51 fu, trivial⟩ (by kernel_rfl) (v15 fu)
def rs39 : List RVx := [(.tmp 2)]
/-- gazette/records.Consumers -/
def p39 (fu : Nat) : (List (D_runtime_errorAddressString)) × (Unit) → Option ((Unit) × (Bool)) := fun ⟨a, _⟩ =>
loopO (S := ((Int) × (Unit)) × (Unit)) fu (fun ⟨⟨c, _⟩, _⟩ =>
 bif decide (c < (List.length a : Int)) then
 bif decide ((0 : Int) ≤ c ∧ c < (List.length a : Int)) then
 bif decide (Int.toNat c < List.length a) then
 Option.bind (p37 fu ((List.getD a (Int.toNat c) (dflt T_runtime_errorAddressString)).1, ())) fun ⟨_, f⟩ =>
 bif !f then
 inrO (some ((), false))
 else
 bif decide (c > (0 : Int)) then
 bif decide ((0 : Int) ≤ IntKind.wrap .i64 (c - (1 : Int)) ∧ IntKind.wrap .i64 (c - (1 : Int)) < (List.length a : Int)) then
 bif decide (Int.toNat (IntKind.wrap .i64 (c - (1 : Int))) < List.length a) then
 bif !Op.bytesLess (ByteArray.toList ((List.getD a (Int.toNat (IntKind.wrap .i64 (c - (1 : Int)))) (dflt T_runtime_errorAddressString)).1)) (ByteArray.toList ((List.getD a (Int.toNat c) (dflt T_runtime_errorAddressString)).1)) then
 inrO (some ((), false))
 else
 some (.inl ((IntKind.wrap .i64 (c + (1 : Int)), ()), ()))
 else none
 else none
 else
 some (.inl ((IntKind.wrap .i64 (c + (1 : Int)), ()), ()))
 else none
 else none
 else
 inrO (some ((), decide ((List.length a : Int) ≤ (64 : Int)))))
 (((0 : Int), ()), ())
def e39 (fu : Nat) : Ent := ⟨39, (.cons (.hole (.sl T_runtime_errorAddressString)) .nil), .nil, (.hole .bool), p39 fu⟩
def d39 (fu : Nat) : DC := (.seq (.region [opD 2 (.mov (.const vB))] [[]] false) (.seq (.seq (.region [mvD 5 0, opD 6 (.len false (tD 5)), opD 7 (.mov (cD 0))] [[], [0], []] false) (.block 0 (.loop ⟨[7], (.cons (.hole (.int .i64)) .nil), [], .nil, [0, 5, 6], []⟩
 (.seq (.region [opD 8 (.bin .lss (tD 7) (tD 6))] [[]] false) (.seq (.cond (.tmp 8) .skip (.exit 0)) (.seq (.block 1 (.seq (.region [mvD 9 7, opD 10 (.iaddr 2 (tD 5) (tD 7)), opD 11 (.load true 2 (tD 10)), opD 4 (.alloc 40 2 [vT, vU]), mvD 3 9, onD (.store 2 (tD 4) (tD 11))] [[], [], [1], [], [0, 0, 1, 2, 3], [3, 2, 4, 0, 1, 2, 3, 4]] false) (.seq (.region [opD 12 (.faddr 0 (tD 4)), opD 13 (.load false 1 (tD 12)), oqD 14 (.call 37 [(tD 13)]) (.ent (e37 fu)), opD 15 (.not (tD 14)), mvD 16 15, ogD 17 16 false (.mov (tD 3)), ogD 18 16 false (.bin .gtr (tD 17) (cD 0)), ogD 19 16 false (.mov (tD 18)), ogD 20 19 true (.mov (tD 0)), ogD 21 19 true (.mov (tD 3)), ogD 22 19 true (.bin .sub (tD 21) (cD 1)), ogD 23 19 true (.iaddr 2 (tD 20) (tD 22)), ogD 24 19 true (.faddr 0 (tD 23)), ogD 25 19 true (.load false 1 (tD 24)), ogD 26 19 true (.faddr 0 (tD 4)), ogD 27 19 true (.load false 1 (tD 26)), ogD 28 19 true (.bin .geq (tD 25) (tD 27)), ogD 29 16 false (.pick (tD 19) (tD 28) (.const vB)), opD 30 (.pick (tD 16) (.const (.bool true)) (tD 29))] [[], [0], [1], [2], [3, 2], [4], [5, 4], [6, 4, 4], [7], [7], [9, 7], [8, 10, 7], [11, 7], [12, 7], [7], [14, 7], [13, 15, 7], [7, 16, 4], [4, 17]] true) (.cond (.tmp 30) (.seq (.region [opD 2 (.mov (.const vB))] [[]] false) .ret) .skip)))) (.region [opD 31 (.bin .add (tD 7) (cD 1)), mvD 7 31] [[], [0]] false))))))) (.seq (.region [mvD 32 0, opD 33 (.len false (tD 32)), opD 34 (.bin .leq (tD 33) (cD 64)), mvD 2 34] [[], [0], [1], [2, 0, 1, 2]] false) .ret)))
set_option maxRecDepth 1000000 in
theorem v39 (fu : Nat) : evF fu (d39 fu) rs39 35 (e39 fu).ash (e39 fu).osh (e39 fu).vsh = p39 fu := by kernel_rfl
set_option maxRecDepth 1000000 in
theorem b39 (fu : Nat) : BodyD Try.prog 39 35 (d39 fu).erase rs39 := bodyD_mk Try.func39 (by kernel_rfl) (by kernel_rfl) (by kernel_rfl) (by kernel_rfl)
theorem g39 (fu : Nat) : (e39 fu).Good Try.prog := good_by orders (b39 fu) (l := [e37 fu]) (by kernel_rfl) ⟨g37 fu, trivial⟩ (by kernel_rfl) (v39 fu)
def rs70 : List RVx := [(.tmp 4)]
/-- slices.Grow[[]gazette/api.Consumer,gazette/api.Consumer] -/
def p70 (_ : Nat) : (Unit) × ((Int) × (Unit)) → Option ((Unit) × (List (D_runtime_errorAddressString))) := fun ⟨_, a, _⟩ =>
bif decide (a < (0 : Int)) then
 none
else
 bif decide ((IntKind.wrap .i64 (a - (0 : Int))) > (0 : Int)) then
 bif decide ((0 : Int) < IntKind.wrap .i64 (a - (0 : Int)) ∧ (IntKind.wrap .i64 (a - (0 : Int)) : Int) * 24 ≤ 140737488355328 ∧ (IntKind.wrap .i64 (a - (0 : Int)) : Int) ≤ 9223372036854775807) then
 bif decide (0 ≤ 0 ∧ 0 ≤ List.length (List.replicate (Int.toNat (IntKind.wrap .i64 (a - (0 : Int)))) ((⟨#[]⟩ : ByteArray), (0 : Int)) : List (D_runtime_errorAddressString))) then
 bif decide (0 = List.length (List.take 0 (List.replicate (Int.toNat (IntKind.wrap .i64 (a - (0 : Int)))) ((⟨#[]⟩ : ByteArray), (0 : Int)) : List (D_runtime_errorAddressString)))) then
 some ((), List.take 0 (List.replicate (Int.toNat (IntKind.wrap .i64 (a - (0 : Int)))) ((⟨#[]⟩ : ByteArray), (0 : Int)) : List (D_runtime_errorAddressString)))
 else none
 else none
 else none
 else
 some ((), [])
def e70 (fu : Nat) : Ent := ⟨70, (.cons .nils (.cons (.hole (.int .i64)) .nil)), .nil, (.own .own 40 T_runtime_errorAddressString), p70 fu⟩
def d70 (_ : Nat) : DC := (.seq (.region [opD 4 (.mov (.const vS))] [[]] false) (.seq (.seq (.region [mvD 5 1, opD 6 (.bin .lss (tD 5) (cD 0))] [[], [0]] false) (.cond (.tmp 6) (.region [opD 7 (.ifc 9 (.const (.string ⟨#[99, 97, 110, 110, 111, 116, 32, 98, 101, 32, 110, 101, 103, 97, 116, 105, 118, 101]⟩))), onD .bad] [[], [0]] false) .skip)) (.seq (.seq (.region [mvD 8 1, mvD 9 0, opD 10 (.pure .capn [(tD 9)]), mvD 11 0, opD 12 (.len false (tD 11)), opD 13 (.bin .sub (tD 10) (tD 12)), opD 14 (.bin .sub (tD 8) (tD 13)), mvD 1 14] [[], [], [1], [], [3], [2, 4], [0, 5], [6, 0, 1, 2, 3, 4, 5, 6]] false) (.seq (.region [mvD 15 1, opD 16 (.bin .gtr (tD 15) (cD 0))] [[], [0]] false) (.cond (.tmp 16) (.region [mvD 17 0, mvD 18 0, opD 19 (.pure .capn [(tD 18)]), opD 20 (.slc 2 (tD 17) none (some (tD 19))), mvD 21 1, oqD 22 (.appz 40 2 [vT, vU] 24 (tD 20) (tD 21)) (.ty T_runtime_errorAddressString), mvD 23 0, opD 24 (.len false (tD 23)), opD 25 (.slc 2 (tD 22) none (some (tD 24))), mvD 0 25] [[], [], [1], [0, 2], [], [3, 4], [], [6], [5, 7], [8, 5, 0, 1, 2, 3, 4, 5, 6, 7, 8]] false) .skip))) (.seq (.region [mvD 26 0, mvD 4 26] [[], [0, 0]] false) .ret))))
set_option maxRecDepth 1000000 in
theorem v70 (fu : Nat) : evF fu (d70 fu) rs70 27 (e70 fu).ash (e70 fu).osh (e70 fu).vsh = p70 fu := by kernel_rfl
set_option maxRecDepth 1000000 in
theorem b70 (fu : Nat) : BodyD Try.prog 70 27 (d70 fu).erase rs70 := bodyD_mk Try.func70 (by kernel_rfl) (by kernel_rfl) (by kernel_rfl) (by kernel_rfl)
theorem g70 (fu : Nat) : (e70 fu).Good Try.prog := good_by orders (b70 fu) (l := []) (by kernel_rfl) trivial (by kernel_rfl) (v70 fu)
def rs53 : List RVx := [(.tmp 2)]
/-- slices.Concat[[]gazette/api.Consumer,gazette/api.Consumer] -/
def p53 (fu : Nat) : (List (List (D_runtime_errorAddressString))) × (Unit) → Option ((Unit) × (List (D_runtime_errorAddressString))) := fun ⟨a, _⟩ =>
loopO (S := ((Int) × ((Int) × (Unit))) × (Unit)) fu (fun ⟨⟨c, f, _⟩, _⟩ =>
 bif decide (f < (List.length a : Int)) then
 bif decide ((0 : Int) ≤ f ∧ f < (List.length a : Int)) then
 bif decide (Int.toNat f < List.length a) then
 bif decide ((IntKind.wrap .i64 (c + (List.length (List.getD a (Int.toNat f) (dflt (.sl T_runtime_errorAddressString))) : Int))) < (0 : Int)) then
 none
 else
 some (.inl ((IntKind.wrap .i64 (c + (List.length (List.getD a (Int.toNat f) (dflt (.sl T_runtime_errorAddressString))) : Int)), IntKind.wrap .i64 (f + (1 : Int)), ()), ()))
 else none
 else none
 else
 inrO (Option.bind (p70 fu ((), c, ())) fun ⟨_, h⟩ =>
 bif decide (List.length h = List.length h) then
 loopO (S := ((List (D_runtime_errorAddressString)) × ((Int) × (Unit))) × (Unit)) fu (fun ⟨⟨i, j, _⟩, _⟩ =>
 bif decide (j < (List.length a : Int)) then
 bif decide ((0 : Int) ≤ j ∧ j < (List.length a : Int)) then
 bif decide (Int.toNat j < List.length a) then
 bif decide (List.length i = List.length i) then
 bif decide (List.length i + List.length (List.getD a (Int.toNat j) (dflt (.sl T_runtime_errorAddressString))) ≤ maxLen ∧ (List.length i + List.length (List.getD a (Int.toNat j) (dflt (.sl T_runtime_errorAddressString)))) * 24 ≤ 140737488355328) then
 bif decide (List.length (i ++ (List.getD a (Int.toNat j) (dflt (.sl T_runtime_errorAddressString)))) = List.length (i ++ (List.getD a (Int.toNat j) (dflt (.sl T_runtime_errorAddressString))))) then
 some (.inl (((i ++ (List.getD a (Int.toNat j) (dflt (.sl T_runtime_errorAddressString)))), IntKind.wrap .i64 (j + (1 : Int)), ()), ()))
 else none
 else none
 else none
 else none
 else none
 else
 inrO (bif decide (List.length i = List.length i) then
 some ((), i)
 else none))
 ((h, (0 : Int), ()), ())
 else none))
 (((0 : Int), (0 : Int), ()), ())
def e53 (fu : Nat) : Ent := ⟨53, (.cons (.hole (.sl (.sl T_runtime_errorAddressString))) .nil), .nil, (.own .own 40 T_runtime_errorAddressString), p53 fu⟩
def d53 (fu : Nat) : DC := (.seq (.region [opD 2 (.mov (.const vS))] [[]] false) (.seq (.region [opD 3 (.mov (cD 0))] [[]] false) (.seq (.seq (.region [mvD 9 0, opD 10 (.len false (tD 9)), opD 11 (.mov (cD 0))] [[], [0], []] false) (.block 0 (.loop ⟨[3, 11], (.cons (.hole (.int .i64)) (.cons (.hole (.int .i64)) .nil)), [], .nil, [0, 9, 10], []⟩
 (.seq (.region [opD 12 (.bin .lss (tD 11) (tD 10))] [[]] false) (.seq (.cond (.tmp 12) .skip (.exit 0)) (.seq (.block 1 (.seq (.region [opD 13 (.iaddr 1 (tD 9) (tD 11)), opD 14 (.load false 1 (tD 13)), mvD 5 14] [[], [0], [1, 0, 1]] false) (.seq (.region [mvD 15 3, mvD 16 5, opD 17 (.len false (tD 16)), opD 18 (.bin .add (tD 15) (tD 17)), mvD 3 18] [[], [], [1], [0, 2], [3, 0, 1, 2, 3]] false) (.seq (.region [mvD 19 3, opD 20 (.bin .lss (tD 19) (cD 0))] [[], [0]] false) (.cond (.tmp 20) (.region [opD 21 (.ifc 9 (.const (.string ⟨#[108, 101, 110, 32, 111, 117, 116, 32, 111, 102, 32, 114, 97, 110, 103, 101]⟩))), onD .bad] [[], [0]] false) .skip))))) (.region [opD 22 (.bin .add (tD 11) (cD 1)), mvD 11 22] [[], [0]] false))))))) (.seq (.region [mvD 23 3, oqD 24 (.call 70 [(.const vS), (tD 23)]) (.ent (e70 fu)), mvD 6 24] [[], [0], [1, 1, 0, 1]] false) (.seq (.seq (.region [mvD 25 0, opD 26 (.len false (tD 25)), opD 27 (.mov (cD 0))] [[], [0], []] false) (.block 2 (.loop ⟨[6, 27], (.cons (.own .own 40 T_runtime_errorAddressString) (.cons (.hole (.int .i64)) .nil)), [], .nil, [25, 26], []⟩
 (.seq (.region [opD 28 (.bin .lss (tD 27) (tD 26))] [[]] false) (.seq (.cond (.tmp 28) .skip (.exit 2)) (.seq (.block 3 (.seq (.region [opD 29 (.iaddr 1 (tD 25) (tD 27)), opD 30 (.load false 1 (tD 29)), mvD 8 30] [[], [0], [1, 0, 1]] false) (.region [mvD 31 6, mvD 32 8, oqD 33 (.app 40 2 [vT, vU] 24 (tD 31) (tD 32)) (.ty T_runtime_errorAddressString), mvD 6 33] [[], [], [0, 1], [2, 2, 0, 1, 2]] false))) (.region [opD 34 (.bin .add (tD 27) (cD 1)), mvD 27 34] [[], [0]] false))))))) (.seq (.region [mvD 35 6, mvD 2 35] [[], [0, 0]] false) .ret))))))
set_option maxRecDepth 1000000 in
theorem v53 (fu : Nat) : evF fu (d53 fu) rs53 36 (e53 fu).ash (e53 fu).osh (e53 fu).vsh = p53 fu := by kernel_rfl
set_option maxRecDepth 1000000 in
theorem b53 (fu : Nat) : BodyD Try.prog 53 36 (d53 fu).erase rs53 := bodyD_mk Try.func53 (by kernel_rfl) (by kernel_rfl) (by kernel_rfl) (by kernel_rfl)
theorem g53 (fu : Nat) : (e53 fu).Good Try.prog := good_by orders (b53 fu) (l := [e70 fu]) (by kernel_rfl) ⟨g70 fu, trivial⟩ (by kernel_rfl) (v53 fu)
def rs33 : List RVx := [(.tmp 4), (.tmp 5)]
/-- gazette/records.Read -/
def p33 (fu : Nat) : (List (D_runtime_errorAddressString)) × ((ByteArray) × (Unit)) → Option ((Unit) × ((Int) × ((Bool) × (Unit)))) := fun ⟨a, c, _⟩ =>
loopO (S := ((Int) × (Unit)) × (Unit)) fu (fun ⟨⟨f, _⟩, _⟩ =>
 bif decide (f < (List.length a : Int)) then
 bif decide ((0 : Int) ≤ f ∧ f < (List.length a : Int)) then
 bif decide (Int.toNat f < List.length a) then
 bif ByteArray.toList ((List.getD a (Int.toNat f) (dflt T_runtime_errorAddressString)).1) == ByteArray.toList c then
 inrO (some ((), ((List.getD a (Int.toNat f) (dflt T_runtime_errorAddressString)).2, true, ())))
 else
 some (.inl ((IntKind.wrap .i64 (f + (1 : Int)), ()), ()))
 else none
 else none
 else
 inrO (some ((), ((0 : Int), false, ()))))
 (((0 : Int), ()), ())
def e33 (fu : Nat) : Ent := ⟨33, (.cons (.hole (.sl T_runtime_errorAddressString)) (.cons (.hole .str) .nil)), .nil, (.tup 2 (.cons (.hole (.int .u64)) (.cons (.hole .bool) .nil))), p33 fu⟩
def d33 (_ : Nat) : DC := (.seq (.region [opD 4 (.mov (.const vU)), opD 5 (.mov (.const vB))] [[], [0]] false) (.seq (.seq (.region [mvD 8 0, opD 9 (.len false (tD 8)), opD 10 (.mov (cD 0))] [[], [0], []] false) (.block 0 (.loop ⟨[10], (.cons (.hole (.int .i64)) .nil), [], .nil, [1, 8, 9], []⟩
 (.seq (.region [opD 11 (.bin .lss (tD 10) (tD 9))] [[]] false) (.seq (.cond (.tmp 11) .skip (.exit 0)) (.seq (.block 1 (.seq (.region [opD 12 (.iaddr 2 (tD 8) (tD 10)), opD 13 (.load true 2 (tD 12)), opD 7 (.alloc 40 2 [vT, vU]), onD (.store 2 (tD 7) (tD 13))] [[], [0], [], [2, 1, 0, 1, 2]] false) (.seq (.region [opD 14 (.faddr 0 (tD 7)), opD 15 (.load false 1 (tD 14)), mvD 16 1, opD 17 (.bin .eql (tD 15) (tD 16))] [[], [0], [], [1, 2]] false) (.cond (.tmp 17) (.seq (.region [opD 18 (.faddr 1 (tD 7)), opD 19 (.load false 1 (tD 18)), mvD 4 19, opD 5 (.mov (.const (.bool true)))] [[], [0], [1, 0, 1], [2, 0, 1, 2]] false) .ret) .skip)))) (.region [opD 20 (.bin .add (tD 10) (cD 1)), mvD 10 20] [[], [0]] false))))))) (.seq (.region [opD 4 (.mov (.const vU)), opD 5 (.mov (.const vB))] [[], [0, 0]] false) .ret)))
set_option maxRecDepth 1000000 in
theorem v33 (fu : Nat) : evF fu (d33 fu) rs33 21 (e33 fu).ash (e33 fu).osh (e33 fu).vsh = p33 fu := by kernel_rfl
set_option maxRecDepth 1000000 in
theorem b33 (fu : Nat) : BodyD Try.prog 33 21 (d33 fu).erase rs33 := bodyD_mk Try.func33 (by kernel_rfl) (by kernel_rfl) (by kernel_rfl) (by kernel_rfl)
theorem g33 (fu : Nat) : (e33 fu).Good Try.prog := good_by orders (b33 fu) (l := []) (by kernel_rfl) trivial (by kernel_rfl) (v33 fu)
def rs74 : List RVx := [(.tmp 4)]
/-- strings.Compare -/
def p74 (fu : Nat) : (ByteArray) × ((ByteArray) × (Unit)) → Option ((Unit) × (Int)) := fun ⟨a, c, _⟩ =>
Option.bind (pCmpS fu (a, c, ())) fun ⟨_, f⟩ =>
some ((), f)
def e74 (fu : Nat) : Ent := ⟨74, (.cons (.hole .str) (.cons (.hole .str) .nil)), .nil, (.hole (.int .i64)), p74 fu⟩
def d74 (fu : Nat) : DC := (.seq (.region [opD 4 (.mov (cD 0))] [[]] false) (.seq (.region [mvD 5 0, mvD 6 1, oqD 7 (.call 82 [(tD 5), (tD 6)]) (.ent (eCmpS fu)), mvD 4 7] [[], [], [0, 1], [2, 2, 0, 1, 2]] false) .ret))
set_option maxRecDepth 1000000 in
theorem v74 (fu : Nat) : evF fu (d74 fu) rs74 8 (e74 fu).ash (e74 fu).osh (e74 fu).vsh = p74 fu := by kernel_rfl
set_option maxRecDepth 1000000 in
theorem b74 (fu : Nat) : BodyD Try.prog 74 8 (d74 fu).erase rs74 := bodyD_mk Try.func74 (by kernel_rfl) (by kernel_rfl) (by kernel_rfl) (by kernel_rfl)
theorem g74 (fu : Nat) : (e74 fu).Good Try.prog := good_by orders (b74 fu) (l := [eCmpS fu]) (by kernel_rfl) ⟨gCmpS fu, trivial⟩ (by kernel_rfl) (v74 fu)
def rs55 : List RVx := [(.tmp 4)]
/-- gazette/records.byName -/
def p55 (fu : Nat) : ((ByteArray) × ((Int) × (Unit))) × (((ByteArray) × ((Int) × (Unit))) × (Unit)) → Option ((Unit) × (Int)) := fun ⟨⟨a, _, _⟩, ⟨c, _, _⟩, _⟩ =>
Option.bind (p74 fu (a, c, ())) fun ⟨_, f⟩ =>
some ((), f)
def e55 (fu : Nat) : Ent := ⟨55, (.cons (.agg 2 (.cons (.hole .str) (.cons (.hole (.int .u64)) .nil))) (.cons (.agg 2 (.cons (.hole .str) (.cons (.hole (.int .u64)) .nil))) .nil)), .nil, (.hole (.int .i64)), p55 fu⟩
def d55 (fu : Nat) : DC := (.seq (.region [opD 2 (.box 40 2 (tD 0)), opD 3 (.box 40 2 (tD 1)), opD 4 (.mov (cD 0))] [[], [], []] false) (.seq (.region [opD 5 (.faddr 0 (tD 2)), opD 6 (.load false 1 (tD 5)), opD 7 (.faddr 0 (tD 3)), opD 8 (.load false 1 (tD 7)), oqD 9 (.call 74 [(tD 6), (tD 8)]) (.ent (e74 fu)), mvD 4 9] [[], [0], [], [2], [1, 3], [4, 4, 0, 1, 2, 3, 4]] false) .ret))
set_option maxRecDepth 1000000 in
theorem v55 (fu : Nat) : evF fu (d55 fu) rs55 10 (e55 fu).ash (e55 fu).osh (e55 fu).vsh = p55 fu := by kernel_rfl
set_option maxRecDepth 1000000 in
theorem b55 (fu : Nat) : BodyD Try.prog 55 10 (d55 fu).erase rs55 := bodyD_mk Try.func55 (by kernel_rfl) (by kernel_rfl) (by kernel_rfl) (by kernel_rfl)
theorem g55 (fu : Nat) : (e55 fu).Good Try.prog := good_by orders (b55 fu) (l := [e74 fu]) (by kernel_rfl) ⟨g74 fu, trivial⟩ (by kernel_rfl) (v55 fu)
def rs71 : List RVx := [(.tmp 6), (.tmp 7)]
/-- slices.BinarySearchFunc[[]gazette/api.Consumer,gazette/api.Consumer,gazette/api.Consumer] -/
def p71 (fu : Nat) : (List (D_runtime_errorAddressString)) × (((ByteArray) × ((Int) × (Unit))) × (((Unit) × (Unit)) × (Unit))) → Option ((Unit) × ((Int) × ((Bool) × (Unit)))) := fun ⟨a, ⟨c, f, _⟩, ⟨_, _⟩, _⟩ =>
loopO (S := ((Int) × ((Int) × (Unit))) × (Unit)) fu (fun ⟨⟨h, i, _⟩, _⟩ =>
 bif decide (h < i) then
 bif decide ((0 : Int) ≤ IntKind.wrap .i64 (Int.fdiv (IntKind.wrap .u64 (IntKind.wrap .i64 (h + i))) (2 ^ (min (Int.toNat (1 : Int)) (IntKind.bits .u64)))) ∧ IntKind.wrap .i64 (Int.fdiv (IntKind.wrap .u64 (IntKind.wrap .i64 (h + i))) (2 ^ (min (Int.toNat (1 : Int)) (IntKind.bits .u64)))) < (List.length a : Int)) then
 bif decide (Int.toNat (IntKind.wrap .i64 (Int.fdiv (IntKind.wrap .u64 (IntKind.wrap .i64 (h + i))) (2 ^ (min (Int.toNat (1 : Int)) (IntKind.bits .u64))))) < List.length a) then
 Option.bind (p55 fu (((List.getD a (Int.toNat (IntKind.wrap .i64 (Int.fdiv (IntKind.wrap .u64 (IntKind.wrap .i64 (h + i))) (2 ^ (min (Int.toNat (1 : Int)) (IntKind.bits .u64)))))) (dflt T_runtime_errorAddressString)).1, (List.getD a (Int.toNat (IntKind.wrap .i64 (Int.fdiv (IntKind.wrap .u64 (IntKind.wrap .i64 (h + i))) (2 ^ (min (Int.toNat (1 : Int)) (IntKind.bits .u64)))))) (dflt T_runtime_errorAddressString)).2, ()), (c, f, ()), ())) fun ⟨_, j⟩ =>
 bif decide (j < (0 : Int)) then
 some (.inl ((IntKind.wrap .i64 ((IntKind.wrap .i64 (Int.fdiv (IntKind.wrap .u64 (IntKind.wrap .i64 (h + i))) (2 ^ (min (Int.toNat (1 : Int)) (IntKind.bits .u64))))) + (1 : Int)), i, ()), ()))
 else
 some (.inl ((h, IntKind.wrap .i64 (Int.fdiv (IntKind.wrap .u64 (IntKind.wrap .i64 (h + i))) (2 ^ (min (Int.toNat (1 : Int)) (IntKind.bits .u64)))), ()), ()))
 else none
 else none
 else
 inrO (bif decide (h < (List.length a : Int)) then
 bif decide ((0 : Int) ≤ h ∧ h < (List.length a : Int)) then
 bif decide (Int.toNat h < List.length a) then
 Option.bind (p55 fu (((List.getD a (Int.toNat h) (dflt T_runtime_errorAddressString)).1, (List.getD a (Int.toNat h) (dflt T_runtime_errorAddressString)).2, ()), (c, f, ()), ())) fun ⟨_, k⟩ =>
 some ((), (h, (k == (0 : Int)), ()))
 else none
 else none
 else
 some ((), (h, false, ()))))
 (((0 : Int), (List.length a : Int), ()), ())
def e71 (fu : Nat) : Ent := ⟨71, (.cons (.hole (.sl T_runtime_errorAddressString)) (.cons (.agg 2 (.cons (.hole .str) (.cons (.hole (.int .u64)) .nil))) (.cons (.clo 55 0 .nil 0 .nil) .nil))), .nil, (.tup 2 (.cons (.hole (.int .i64)) (.cons (.hole .bool) .nil))), p71 fu⟩
def d71 (fu : Nat) : DC := (.seq (.region [opD 4 (.box 40 2 (tD 1)), opD 6 (.mov (cD 0)), opD 7 (.mov (.const vB))] [[], [], [1]] false) (.seq (.region [mvD 12 0, opD 13 (.len false (tD 12)), mvD 8 13] [[], [0], [1, 0, 1]] false) (.seq (.region [mvD 14 8, opD 9 (.mov (cD 0)), mvD 10 14] [[], [], [0, 1, 0, 1]] false) (.seq (.block 0 (.loop ⟨[9, 10], (.cons (.hole (.int .i64)) (.cons (.hole (.int .i64)) .nil)), [], .nil, [0, 2, 4, 8], [0]⟩
 (.seq (.seq (.region [mvD 15 9, mvD 16 10, opD 17 (.bin .lss (tD 15) (tD 16))] [[], [], [0, 1]] false) (.cond (.tmp 17) .skip (.exit 0))) (.block 1 (.seq (.region [mvD 18 9, mvD 19 10, opD 20 (.bin .add (tD 18) (tD 19)), opD 21 (.conv .u64 (tD 20)), opD 22 (.bin .shr (tD 21) (.const (.int .u64 1))), opD 23 (.conv .i64 (tD 22)), mvD 11 23] [[], [], [0, 1], [2], [3], [4], [5, 0, 1, 2, 3, 4, 5]] false) (.seq (.region [mvD 24 2, mvD 25 0, mvD 26 11, opD 27 (.iaddr 2 (tD 25) (tD 26)), opD 28 (.load true 2 (tD 27)), opD 29 (.load true 2 (tD 4)), oqD 30 (.callv (tD 24) [(tD 28), (tD 29)]) (.ent (e55 fu)), opD 31 (.bin .lss (tD 30) (cD 0))] [[], [], [], [1, 2], [3], [], [0, 4, 5], [6]] true) (.cond (.tmp 31) (.region [mvD 32 11, opD 33 (.bin .add (tD 32) (cD 1)), mvD 9 33] [[], [0], [1, 0, 1]] false) (.region [mvD 34 11, mvD 10 34] [[], [0, 0]] false)))))))) (.seq (.region [mvD 35 9, mvD 36 9, mvD 37 8, opD 38 (.bin .lss (tD 36) (tD 37)), mvD 39 38, ogD 40 39 true (.mov (tD 2)), ogD 41 39 true (.mov (tD 0)), ogD 42 39 true (.mov (tD 9)), ogD 43 39 true (.iaddr 2 (tD 41) (tD 42)), ogD 44 39 true (.load true 2 (tD 43)), ogD 45 39 true (.load true 2 (tD 4)), (⟨(some 46), (some (39, true)), (.callv (tD 40) [(tD 44), (tD 45)])⟩, (.ent (e55 fu))), ogD 47 39 true (.bin .eql (tD 46) (cD 0)), opD 48 (.pick (tD 39) (tD 47) (.const vB)), mvD 6 35, mvD 7 48] [[], [], [], [1, 2], [3], [4], [4], [4], [6, 7, 4], [8, 4], [4], [5, 9, 10, 4, 4], [11, 4], [4, 12], [0, 11, 0], [13, 14, 0, 1, 2, 3, 4, 5, 6, 7, 8, 9, 10, 11, 12, 13, 14]] true) .ret)))))
set_option maxRecDepth 1000000 in
theorem v71 (fu : Nat) : evF fu (d71 fu) rs71 49 (e71 fu).ash (e71 fu).osh (e71 fu).vsh = p71 fu := by kernel_rfl
set_option maxRecDepth 1000000 in
theorem b71 (fu : Nat) : BodyD Try.prog 71 49 (d71 fu).erase rs71 := bodyD_mk Try.func71 (by kernel_rfl) (by kernel_rfl) (by kernel_rfl) (by kernel_rfl)
theorem g71 (fu : Nat) : (e71 fu).Good Try.prog := good_by orders (b71 fu) (l := [e55 fu, e55 fu]) (by kernel_rfl) ⟨g55 fu, g55 fu, trivial⟩ (by kernel_rfl) (v71 fu)
def rs72 : List RVx := [(.tmp 2)]
/-- gazette/copies.List[gazette/api.Consumer] -/
def p72 (_ : Nat) : (List (D_runtime_errorAddressString)) × (Unit) → Option ((Unit) × (List (D_runtime_errorAddressString))) := fun ⟨a, _⟩ =>
bif ((List.length a : Int) == (0 : Int)) then
 some ((), [])
else
 bif decide ((0 : Int) ≤ (List.length a : Int) ∧ ((List.length a : Int) : Int) ≤ (List.length a : Int) ∧ ((List.length a : Int) : Int) ≤ 9223372036854775807 ∧ (24 : Int) * (List.length a : Int) ≤ 140737488355328) then
 bif decide (Int.toNat (List.length a : Int) = List.length (List.replicate (Int.toNat (List.length a : Int)) ((⟨#[]⟩ : ByteArray), (0 : Int)) : List (D_runtime_errorAddressString))) then
 bif decide (Int.toNat (List.length a : Int) = List.length (copyL (List.replicate (Int.toNat (List.length a : Int)) ((⟨#[]⟩ : ByteArray), (0 : Int)) : List (D_runtime_errorAddressString)) 0 (Int.toNat (List.length a : Int)) a)) then
 some ((), (copyL (List.replicate (Int.toNat (List.length a : Int)) ((⟨#[]⟩ : ByteArray), (0 : Int)) : List (D_runtime_errorAddressString)) 0 (Int.toNat (List.length a : Int)) a))
 else none
 else none
 else none
def e72 (fu : Nat) : Ent := ⟨72, (.cons (.hole (.sl T_runtime_errorAddressString)) .nil), .nil, (.own .own 40 T_runtime_errorAddressString), p72 fu⟩
def d72 (_ : Nat) : DC := (.seq (.region [opD 2 (.mov (.const vS))] [[]] false) (.seq (.seq (.region [mvD 4 0, opD 5 (.len false (tD 4)), opD 6 (.bin .eql (tD 5) (cD 0))] [[], [0], [1]] false) (.cond (.tmp 6) (.seq (.region [opD 2 (.mov (.const vS))] [[]] false) .ret) .skip)) (.seq (.region [mvD 7 0, opD 8 (.len false (tD 7)), oqD 9 (.make false 40 2 [vT, vU] 24 (tD 8) (tD 8)) (.ty T_runtime_errorAddressString), mvD 3 9] [[], [0], [1, 1], [2, 0, 1, 2]] false) (.seq (.region [mvD 10 3, mvD 11 0, opD 12 (.copy 2 (tD 10) (tD 11))] [[], [], [0, 1]] false) (.seq (.region [mvD 13 3, mvD 2 13] [[], [0, 0]] false) .ret)))))
set_option maxRecDepth 1000000 in
theorem v72 (fu : Nat) : evF fu (d72 fu) rs72 14 (e72 fu).ash (e72 fu).osh (e72 fu).vsh = p72 fu := by kernel_rfl
set_option maxRecDepth 1000000 in
theorem b72 (fu : Nat) : BodyD Try.prog 72 14 (d72 fu).erase rs72 := bodyD_mk Try.func72 (by kernel_rfl) (by kernel_rfl) (by kernel_rfl) (by kernel_rfl)
theorem g72 (fu : Nat) : (e72 fu).Good Try.prog := good_by orders (b72 fu) (l := []) (by kernel_rfl) trivial (by kernel_rfl) (v72 fu)
def rs54 : List RVx := [(.tmp 6)]
/-- gazette/records.place[gazette/api.Consumer] -/
def p54 (fu : Nat) : (List (D_runtime_errorAddressString)) × (((ByteArray) × ((Int) × (Unit))) × (((Unit) × (Unit)) × (Unit))) → Option ((Unit) × (List (D_runtime_errorAddressString))) := fun ⟨a, ⟨c, f, _⟩, ⟨_, _⟩, _⟩ =>
Option.bind (p71 fu (a, (c, f, ()), ((), ()), ())) fun ⟨_, ⟨h, i, _⟩⟩ =>
Option.bind (p72 fu (a, ())) fun ⟨_, j⟩ =>
bif i then
 bif decide ((0 : Int) ≤ h ∧ h < (List.length j : Int)) then
 bif decide (Int.toNat h < List.length j) then
 bif decide (List.length j = List.length (List.set j (Int.toNat h) (c, f))) then
 some ((), (List.set j (Int.toNat h) (c, f)))
 else none
 else none
 else none
else
 bif decide (List.length j = List.length j) then
 Option.bind (pInsertC fu (j, h, [(c, f)], ())) fun ⟨⟨_, _, _⟩, k⟩ =>
 bif decide (List.length k = List.length k) then
 some ((), k)
 else none
 else none
def e54 (fu : Nat) : Ent := ⟨54, (.cons (.hole (.sl T_runtime_errorAddressString)) (.cons (.agg 2 (.cons (.hole .str) (.cons (.hole (.int .u64)) .nil))) (.cons (.clo 55 0 .nil 0 .nil) .nil))), .nil, (.own .own 40 T_runtime_errorAddressString), p54 fu⟩
def d54 (fu : Nat) : DC := (.seq (.region [opD 4 (.box 40 2 (tD 1)), opD 6 (.mov (.const vS))] [[], []] false) (.seq (.region [mvD 11 0, opD 12 (.load true 2 (tD 4)), mvD 13 2, oqD 14 (.call 71 [(tD 11), (tD 12), (tD 13)]) (.ent (e71 fu)), mvD 10 14, opD 15 (.ext (tD 10) 0), opD 16 (.ext (tD 10) 1), mvD 7 15, mvD 8 16] [[], [], [], [0, 1, 2], [3], [4], [4], [5, 3, 0, 1, 2, 3, 4, 5], [6, 7, 0, 1, 2, 3, 4, 5, 6, 7]] false) (.seq (.region [mvD 17 0, oqD 18 (.call 72 [(tD 17)]) (.ent (e72 fu)), mvD 9 18] [[], [0], [1, 1, 0, 1]] false) (.seq (.seq (.region [mvD 19 8] [[]] false) (.cond (.tmp 19) (.seq (.region [mvD 20 9, mvD 21 7, opD 22 (.load true 2 (tD 4)), opD 23 (.iaddr 2 (tD 20) (tD 21)), onD (.store 2 (tD 23) (tD 22))] [[], [], [], [0, 1, 0, 1, 2], [3, 2, 0, 1, 2]] false) (.seq (.region [mvD 24 9, mvD 6 24] [[], [0, 0]] false) .ret)) .skip)) (.seq (.region [mvD 25 9, mvD 26 7, opD 27 (.load true 2 (tD 4)), oqD 28 (.bslice 40 2 1 [vT, vU] [(0, (tD 27))]) (.ty T_runtime_errorAddressString), oqD 29 (.call 73 [(tD 25), (tD 26), (tD 28)]) (.ent (eInsertC fu)), mvD 6 29] [[], [], [], [2], [0, 1, 3], [4, 4, 0, 1, 2, 3, 4]] false) .ret)))))
set_option maxRecDepth 1000000 in
theorem v54 (fu : Nat) : evF fu (d54 fu) rs54 30 (e54 fu).ash (e54 fu).osh (e54 fu).vsh = p54 fu := by kernel_rfl
set_option maxRecDepth 1000000 in
theorem b54 (fu : Nat) : BodyD Try.prog 54 30 (d54 fu).erase rs54 := bodyD_mk Try.func54 (by kernel_rfl) (by kernel_rfl) (by kernel_rfl) (by kernel_rfl)
theorem g54 (fu : Nat) : (e54 fu).Good Try.prog := good_by orders (b54 fu) (l := [e71 fu, e72 fu, eInsertC fu]) (by kernel_rfl) ⟨g71 fu, g72 fu, gInsertC fu, trivial⟩ (by kernel_rfl) (v54 fu)
def rs16 : List RVx := [(.tmp 8), (.tmp 9)]
/-- gazette/records.Both -/
def p16 (fu : Nat) : (List (D_runtime_errorAddressString)) × ((List (D_runtime_errorAddressString)) × ((List (Int)) × ((List (Int)) × (Unit)))) → Option ((Unit) × ((List (D_runtime_errorAddressString)) × ((Int) × (Unit)))) := fun ⟨a, c, f, h, _⟩ =>
Option.bind (p39 fu (a, ())) fun ⟨_, i⟩ =>
bif !i then
 some ((), ([], (1 : Int), ()))
else
 Option.bind (p39 fu (c, ())) fun ⟨_, j⟩ =>
 bif !j then
 some ((), ([], (1 : Int), ()))
 else
 bif ((List.length f : Int) == (0 : Int)) then
 some ((), ([], (1 : Int), ()))
 else
 bif ((List.length h : Int) == (0 : Int)) then
 some ((), ([], (1 : Int), ()))
 else
 Option.bind (p53 fu ([a, c], ())) fun ⟨_, k⟩ =>
 loopO (S := ((List (D_runtime_errorAddressString)) × ((Int) × (Unit))) × (Unit)) fu (fun ⟨⟨l, m, _⟩, _⟩ =>
 bif decide (m < ((List.length k) : Int)) then
 bif decide ((0 : Int) ≤ m ∧ m < (List.length k : Int)) then
 bif decide (Int.toNat m < List.length k) then
 Option.bind (p33 fu (a, (List.getD k (Int.toNat m) (dflt T_runtime_errorAddressString)).1, ())) fun ⟨_, ⟨n, _, _⟩⟩ =>
 Option.bind (p33 fu (c, (List.getD k (Int.toNat m) (dflt T_runtime_errorAddressString)).1, ())) fun ⟨_, ⟨o, _, _⟩⟩ =>
 Option.bind (p52 fu (f, n, ())) fun ⟨_, q⟩ =>
 Option.bind (p52 fu (h, o, ())) fun ⟨_, s⟩ =>
 bif decide (List.length l = List.length l) then
 Option.bind (p54 fu (l, ((List.getD k (Int.toNat m) (dflt T_runtime_errorAddressString)).1, (if s < q then s else q), ()), ((), ()), ())) fun ⟨_, t⟩ =>
 bif decide (List.length t = List.length t) then
 some (.inl ((t, IntKind.wrap .i64 (m + (1 : Int)), ()), ()))
 else none
 else none
 else none
 else none
 else
 inrO (bif decide (((List.length l) : Int) > (64 : Int)) then
 some ((), ([], (143 : Int), ()))
 else
 bif decide (List.length l = List.length l) then
 some ((), (l, (0 : Int), ()))
 else none))
 (([], (0 : Int), ()), ())
def e16 (fu : Nat) : Ent := ⟨16, (.cons (.hole (.sl T_runtime_errorAddressString)) (.cons (.hole (.sl T_runtime_errorAddressString)) (.cons (.hole (.sl (.int .u64))) (.cons (.hole (.sl (.int .u64))) .nil)))), .nil, (.tup 2 (.cons (.own .own 40 T_runtime_errorAddressString) (.cons (.hole (.int .i64)) .nil))), p16 fu⟩
def d16 (fu : Nat) : DC := (.seq (.region [opD 8 (.mov (.const vS)), opD 9 (.mov (cD 0))] [[], [0]] false) (.seq (.seq (.region [mvD 18 0, oqD 19 (.call 39 [(tD 18)]) (.ent (e39 fu)), opD 20 (.not (tD 19)), mvD 21 20, ogD 22 21 false (.mov (tD 1)), (⟨(some 23), (some (21, false)), (.call 39 [(tD 22)])⟩, (.ent (e39 fu))), ogD 24 21 false (.not (tD 23)), opD 25 (.pick (tD 21) (.const (.bool true)) (tD 24)), mvD 26 25, ogD 27 26 false (.mov (tD 2)), ogD 28 26 false (.len false (tD 27)), ogD 29 26 false (.bin .eql (tD 28) (cD 0)), opD 30 (.pick (tD 26) (.const (.bool true)) (tD 29)), mvD 31 30, ogD 32 31 false (.mov (tD 3)), ogD 33 31 false (.len false (tD 32)), ogD 34 31 false (.bin .eql (tD 33) (cD 0)), opD 35 (.pick (tD 31) (.const (.bool true)) (tD 34))] [[], [0], [1], [2, 1], [3], [4, 3, 3], [5, 3], [3, 6], [7, 5], [8], [9, 8], [10, 8], [8, 11], [12, 8], [13], [14, 13], [15, 13], [13, 16]] false) (.cond (.tmp 35) (.seq (.region [opD 8 (.mov (.const vS)), opD 9 (.mov (cD 1))] [[], [0, 0]] false) .ret) .skip)) (.seq (.region [opD 10 (.mov (.const vS))] [[]] false) (.seq (.seq (.region [mvD 36 0, mvD 37 1, oqD 38 (.bslice 37 1 2 [vS] [(0, (tD 36)), (1, (tD 37))]) (.ty (.sl T_runtime_errorAddressString)), oqD 39 (.call 53 [(tD 38)]) (.ent (e53 fu)), opD 40 (.len false (tD 39)), opD 41 (.mov (cD 0))] [[], [], [0, 1], [2], [3], []] false) (.block 0 (.loop ⟨[10, 41], (.cons (.own .own 40 T_runtime_errorAddressString) (.cons (.hole (.int .i64)) .nil)), [], .nil, [0, 1, 2, 3, 39, 40], [384]⟩
 (.seq (.region [opD 42 (.bin .lss (tD 41) (tD 40))] [[]] false) (.seq (.cond (.tmp 42) .skip (.exit 0)) (.seq (.block 1 (.seq (.region [opD 43 (.iaddr 2 (tD 39) (tD 41)), opD 44 (.load true 2 (tD 43)), opD 12 (.alloc 40 2 [vT, vU]), onD (.store 2 (tD 12) (tD 44))] [[], [0], [], [2, 1, 0, 1, 2]] false) (.seq (.region [mvD 46 0, opD 47 (.faddr 0 (tD 12)), opD 48 (.load false 1 (tD 47)), oqD 49 (.call 33 [(tD 46), (tD 48)]) (.ent (e33 fu)), mvD 45 49, opD 50 (.ext (tD 45) 0), opD 51 (.ext (tD 45) 1), mvD 13 50, mvD 14 51] [[], [], [1], [0, 2], [3], [4], [4], [5, 3, 0, 1, 2, 3, 4, 5], [6, 7, 0, 1, 2, 3, 4, 5, 6, 7]] false) (.seq (.region [mvD 53 1, opD 54 (.faddr 0 (tD 12)), opD 55 (.load false 1 (tD 54)), oqD 56 (.call 33 [(tD 53), (tD 55)]) (.ent (e33 fu)), mvD 52 56, opD 57 (.ext (tD 52) 0), opD 58 (.ext (tD 52) 1), mvD 15 57, mvD 16 58] [[], [], [1], [0, 2], [3], [4], [4], [5, 3, 0, 1, 2, 3, 4, 5], [6, 7, 0, 1, 2, 3, 4, 5, 6, 7]] false) (.seq (.region [mvD 59 2, mvD 60 13, oqD 61 (.call 52 [(tD 59), (tD 60)]) (.ent (e52 fu)), mvD 62 3, mvD 63 15, oqD 64 (.call 52 [(tD 62), (tD 63)]) (.ent (e52 fu)), opD 65 (.mm false (tD 61) (tD 64)), mvD 17 65] [[], [], [0, 1], [], [], [3, 4, 2], [2, 5], [6, 5, 0, 1, 2, 3, 4, 5, 6]] false) (.region [mvD 66 10, opD 67 (.faddr 0 (tD 12)), opD 68 (.load false 1 (tD 67)), mvD 69 17, opD 70 (.build 2 [vT, vU] [(0, (1, (tD 68))), (1, (1, (tD 69)))]), oqD 71 (.call 54 [(tD 66), (tD 70), (.func 55)]) (.ent (e54 fu)), mvD 10 71] [[], [], [1], [], [2, 3], [0, 4], [5, 5, 0, 1, 2, 3, 4, 5]] false)))))) (.region [opD 72 (.bin .add (tD 41) (cD 1)), mvD 41 72] [[], [0]] false))))))) (.seq (.seq (.region [mvD 73 10, opD 74 (.len false (tD 73)), opD 75 (.bin .gtr (tD 74) (cD 64))] [[], [0], [1]] false) (.cond (.tmp 75) (.seq (.region [opD 8 (.mov (.const vS)), opD 9 (.mov (cD 143))] [[], [0, 0]] false) .ret) .skip)) (.seq (.region [mvD 76 10, mvD 8 76, opD 9 (.mov (cD 0))] [[], [0, 0], [1, 0, 1]] false) .ret))))))
set_option maxRecDepth 1000000 in
theorem v16 (fu : Nat) : evF fu (d16 fu) rs16 77 (e16 fu).ash (e16 fu).osh (e16 fu).vsh = p16 fu := by kernel_rfl
set_option maxRecDepth 1000000 in
theorem b16 (fu : Nat) : BodyD Try.prog 16 77 (d16 fu).erase rs16 := bodyD_mk Try.func16 (by kernel_rfl) (by kernel_rfl) (by kernel_rfl) (by kernel_rfl)
theorem g16 (fu : Nat) : (e16 fu).Good Try.prog := good_by orders (b16 fu) (l := [e39 fu, e39 fu, e53 fu, e33 fu, e33 fu, e52 fu, e52 fu, e54 fu]) (by kernel_rfl) ⟨g39 fu, g39 fu, g53 fu, g33 fu, g33 fu, g52 fu, g52 fu, g54 fu, trivial⟩ (by kernel_rfl) (v16 fu)
def rs18 : List RVx := [(.tmp 6), (.tmp 7)]
/-- gazette/records.Fetch -/
def p18 (fu : Nat) : (List (D_api_Record)) × ((Int) × ((Int) × (Unit))) → Option ((Unit) × ((List (D_api_Record)) × ((Int) × (Unit)))) := fun ⟨a, c, f, _⟩ =>
Option.bind (p27 fu (a, ())) fun ⟨_, h⟩ =>
bif !h then
 some ((), ([], (1 : Int), ()))
else
 bif decide (c > (IntKind.wrap .u64 (List.length a : Int))) then
 some ((), ([], (141 : Int), ()))
 else
 bif decide ((0 : Int) ≤ c) then
 bif decide (Int.toNat c ≤ List.length a) then
 bif decide ((0 : Int) ≤ (if (List.length (slice' a (Int.toNat c) none) : Int) < (if (64 : Int) < (if (0 : Int) > f then (0 : Int) else f) then (64 : Int) else (if (0 : Int) > f then (0 : Int) else f)) then (List.length (slice' a (Int.toNat c) none) : Int) else (if (64 : Int) < (if (0 : Int) > f then (0 : Int) else f) then (64 : Int) else (if (0 : Int) > f then (0 : Int) else f)))) then
 bif decide (0 ≤ Int.toNat (if (List.length (slice' a (Int.toNat c) none) : Int) < (if (64 : Int) < (if (0 : Int) > f then (0 : Int) else f) then (64 : Int) else (if (0 : Int) > f then (0 : Int) else f)) then (List.length (slice' a (Int.toNat c) none) : Int) else (if (64 : Int) < (if (0 : Int) > f then (0 : Int) else f) then (64 : Int) else (if (0 : Int) > f then (0 : Int) else f))) ∧ Int.toNat (if (List.length (slice' a (Int.toNat c) none) : Int) < (if (64 : Int) < (if (0 : Int) > f then (0 : Int) else f) then (64 : Int) else (if (0 : Int) > f then (0 : Int) else f)) then (List.length (slice' a (Int.toNat c) none) : Int) else (if (64 : Int) < (if (0 : Int) > f then (0 : Int) else f) then (64 : Int) else (if (0 : Int) > f then (0 : Int) else f))) ≤ List.length (slice' a (Int.toNat c) none)) then
 Option.bind (p57 fu (List.take (Int.toNat (if (List.length (slice' a (Int.toNat c) none) : Int) < (if (64 : Int) < (if (0 : Int) > f then (0 : Int) else f) then (64 : Int) else (if (0 : Int) > f then (0 : Int) else f)) then (List.length (slice' a (Int.toNat c) none) : Int) else (if (64 : Int) < (if (0 : Int) > f then (0 : Int) else f) then (64 : Int) else (if (0 : Int) > f then (0 : Int) else f)))) (slice' a (Int.toNat c) none), ())) fun ⟨_, i⟩ =>
 bif decide (List.length i = List.length i) then
 some ((), (i, (0 : Int), ()))
 else none
 else none
 else none
 else none
 else none
def e18 (fu : Nat) : Ent := ⟨18, (.cons (.hole (.sl T_api_Record)) (.cons (.hole (.int .u64)) (.cons (.hole (.int .i64)) .nil))), .nil, (.tup 2 (.cons (.own .own 30 T_api_Record) (.cons (.hole (.int .i64)) .nil))), p18 fu⟩
def d18 (fu : Nat) : DC := (.seq (.region [opD 6 (.mov (.const vS)), opD 7 (.mov (cD 0))] [[], [0]] false) (.seq (.seq (.region [mvD 9 0, oqD 10 (.call 27 [(tD 9)]) (.ent (e27 fu)), opD 11 (.not (tD 10))] [[], [0], [1]] false) (.cond (.tmp 11) (.seq (.region [opD 6 (.mov (.const vS)), opD 7 (.mov (cD 1))] [[], [0, 0]] false) .ret) .skip)) (.seq (.seq (.region [mvD 12 1, mvD 13 0, opD 14 (.len false (tD 13)), opD 15 (.conv .u64 (tD 14)), opD 16 (.bin .gtr (tD 12) (tD 15))] [[], [], [1], [2], [0, 3]] false) (.cond (.tmp 16) (.seq (.region [opD 6 (.mov (.const vS)), opD 7 (.mov (cD 141))] [[], [0, 0]] false) .ret) .skip)) (.seq (.region [mvD 17 0, mvD 18 1, opD 19 (.slc 5 (tD 17) (some (tD 18)) none), mvD 8 19] [[], [], [0, 1], [2, 0, 1, 2]] false) (.seq (.region [mvD 20 8, mvD 21 2, opD 22 (.mm true (tD 21) (cD 0)), mvD 23 8, opD 24 (.len false (tD 23)), opD 25 (.pure (.mm3 false) [(tD 22), (cD 64), (tD 24)]), opD 26 (.slc 5 (tD 20) none (some (tD 25))), oqD 27 (.call 57 [(tD 26)]) (.ent (e57 fu)), mvD 6 27, opD 7 (.mov (cD 0))] [[], [], [1], [], [3], [2, 4], [0, 5], [6], [7, 7, 0, 1, 2, 3, 4, 5, 6, 7], [8, 0, 1, 2, 3, 4, 5, 6, 7, 8]] false) .ret)))))
set_option maxRecDepth 1000000 in
theorem v18 (fu : Nat) : evF fu (d18 fu) rs18 28 (e18 fu).ash (e18 fu).osh (e18 fu).vsh = p18 fu := by kernel_rfl
set_option maxRecDepth 1000000 in
theorem b18 (fu : Nat) : BodyD Try.prog 18 28 (d18 fu).erase rs18 := bodyD_mk Try.func18 (by kernel_rfl) (by kernel_rfl) (by kernel_rfl) (by kernel_rfl)
theorem g18 (fu : Nat) : (e18 fu).Good Try.prog := good_by orders (b18 fu) (l := [e27 fu, e57 fu]) (by kernel_rfl) ⟨g27 fu, g57 fu, trivial⟩ (by kernel_rfl) (v18 fu)
def rs19 : List RVx := [(.tmp 6), (.tmp 7)]
/-- gazette/records.Commit -/
def p19 (fu : Nat) : (List (D_runtime_errorAddressString)) × (((ByteArray) × ((Int) × (Unit))) × ((Int) × (Unit))) → Option ((Unit) × ((List (D_runtime_errorAddressString)) × ((Int) × (Unit)))) := fun ⟨a, ⟨c, f, _⟩, h, _⟩ =>
Option.bind (p39 fu (a, ())) fun ⟨_, i⟩ =>
bif !i then
 some ((), ([], (1 : Int), ()))
else
 Option.bind (p37 fu (c, ())) fun ⟨_, j⟩ =>
 bif !j then
 some ((), ([], (142 : Int), ()))
 else
 bif decide (f > h) then
 some ((), ([], (141 : Int), ()))
 else
 Option.bind (p54 fu (a, (c, f, ()), ((), ()), ())) fun ⟨_, k⟩ =>
 bif decide (((List.length k) : Int) ≤ (64 : Int)) then
 bif decide (List.length k = List.length k) then
 some ((), (k, (0 : Int), ()))
 else none
 else
 some ((), ([], (143 : Int), ()))
def e19 (fu : Nat) : Ent := ⟨19, (.cons (.hole (.sl T_runtime_errorAddressString)) (.cons (.agg 2 (.cons (.hole .str) (.cons (.hole (.int .u64)) .nil))) (.cons (.hole (.int .u64)) .nil))), .nil, (.tup 2 (.cons (.own .own 40 T_runtime_errorAddressString) (.cons (.hole (.int .i64)) .nil))), p19 fu⟩
def d19 (fu : Nat) : DC := (.seq (.region [opD 4 (.box 40 2 (tD 1)), opD 6 (.mov (.const vS)), opD 7 (.mov (cD 0))] [[], [], [1]] false) (.seq (.block 0 (.seq (.region [mvD 10 0, oqD 11 (.call 39 [(tD 10)]) (.ent (e39 fu)), opD 12 (.not (tD 11)), mvD 9 12] [[], [0], [1], [2, 1]] false) (.cond (.tmp 9) (.seq (.region [opD 6 (.mov (.const vS)), opD 7 (.mov (cD 1))] [[], [0, 0]] false) .ret) (.seq (.region [opD 14 (.faddr 0 (tD 4)), opD 15 (.load false 1 (tD 14)), oqD 16 (.call 37 [(tD 15)]) (.ent (e37 fu)), opD 17 (.not (tD 16)), mvD 13 17] [[], [0], [1], [2], [3, 2]] false) (.cond (.tmp 13) (.seq (.region [opD 6 (.mov (.const vS)), opD 7 (.mov (cD 142))] [[], [0, 0]] false) .ret) (.seq (.region [opD 19 (.faddr 1 (tD 4)), opD 20 (.load false 1 (tD 19)), mvD 21 2, opD 22 (.bin .gtr (tD 20) (tD 21)), mvD 18 22] [[], [0], [], [1, 2], [3]] false) (.cond (.tmp 18) (.seq (.region [opD 6 (.mov (.const vS)), opD 7 (.mov (cD 141))] [[], [0, 0]] false) .ret) .skip))))))) (.seq (.seq (.region [mvD 23 0, opD 24 (.load true 2 (tD 4)), oqD 25 (.call 54 [(tD 23), (tD 24), (.func 55)]) (.ent (e54 fu)), mvD 8 25] [[], [], [0, 1], [2, 2, 0, 1, 2]] false) (.seq (.region [mvD 26 8, opD 27 (.len false (tD 26)), opD 28 (.bin .leq (tD 27) (cD 64))] [[], [0], [1]] false) (.cond (.tmp 28) (.seq (.region [mvD 29 8, mvD 6 29, opD 7 (.mov (cD 0))] [[], [0, 0], [1, 0, 1]] false) .ret) .skip))) (.seq (.region [opD 6 (.mov (.const vS)), opD 7 (.mov (cD 143))] [[], [0, 0]] false) .ret))))
set_option maxRecDepth 1000000 in
theorem v19 (fu : Nat) : evF fu (d19 fu) rs19 30 (e19 fu).ash (e19 fu).osh (e19 fu).vsh = p19 fu := by kernel_rfl
set_option maxRecDepth 1000000 in
theorem b19 (fu : Nat) : BodyD Try.prog 19 30 (d19 fu).erase rs19 := bodyD_mk Try.func19 (by kernel_rfl) (by kernel_rfl) (by kernel_rfl) (by kernel_rfl)
theorem g19 (fu : Nat) : (e19 fu).Good Try.prog := good_by orders (b19 fu) (l := [e39 fu, e37 fu, e54 fu]) (by kernel_rfl) ⟨g39 fu, g37 fu, g54 fu, trivial⟩ (by kernel_rfl) (v19 fu)
def rs20 : List RVx := [(.tmp 4)]
/-- gazette/gazetteref14.SameTo -/
def p20 (fu : Nat) : (List (Int)) × ((List (Int)) × (Unit)) → Option ((Unit) × (Bool)) := fun ⟨a, c, _⟩ =>
bif ((List.length a : Int) != (List.length c : Int)) then
 some ((), false)
else
 loopO (S := ((Int) × (Unit)) × (Unit)) fu (fun ⟨⟨f, _⟩, _⟩ =>
 bif decide (f < (List.length a : Int)) then
 bif decide ((0 : Int) ≤ f ∧ f < (List.length a : Int)) then
 bif decide (Int.toNat f < List.length a) then
 bif decide ((0 : Int) ≤ f ∧ f < (List.length c : Int)) then
 bif decide (Int.toNat f < List.length c) then
 bif ((List.getD a (Int.toNat f) (dflt (.int .u64))) != (List.getD c (Int.toNat f) (dflt (.int .u64)))) then
 inrO (some ((), false))
 else
 some (.inl ((IntKind.wrap .i64 (f + (1 : Int)), ()), ()))
 else none
 else none
 else none
 else none
 else
 inrO (some ((), true)))
 (((0 : Int), ()), ())
def e20 (fu : Nat) : Ent := ⟨20, (.cons (.hole (.sl (.int .u64))) (.cons (.hole (.sl (.int .u64))) .nil)), .nil, (.hole .bool), p20 fu⟩
def d20 (_ : Nat) : DC := (.seq (.region [opD 4 (.mov (.const vB))] [[]] false) (.seq (.seq (.region [mvD 6 0, opD 7 (.len false (tD 6)), mvD 8 1, opD 9 (.len false (tD 8)), opD 10 (.bin .neq (tD 7) (tD 9))] [[], [0], [], [2], [1, 3]] false) (.cond (.tmp 10) (.seq (.region [opD 4 (.mov (.const vB))] [[]] false) .ret) .skip)) (.seq (.seq (.region [opD 5 (.mov (cD 0))] [[]] false) (.block 0 (.loop ⟨[5], (.cons (.hole (.int .i64)) .nil), [], .nil, [0, 1], []⟩
 (.seq (.seq (.region [mvD 11 5, mvD 12 0, opD 13 (.len false (tD 12)), opD 14 (.bin .lss (tD 11) (tD 13))] [[], [], [1], [0, 2]] false) (.cond (.tmp 14) .skip (.exit 0))) (.seq (.block 1 (.seq (.region [mvD 17 0, mvD 18 5, opD 19 (.iaddr 1 (tD 17) (tD 18)), opD 20 (.load false 1 (tD 19)), mvD 21 1, mvD 22 5, opD 23 (.iaddr 1 (tD 21) (tD 22)), opD 24 (.load false 1 (tD 23)), opD 25 (.bin .neq (tD 20) (tD 24))] [[], [], [0, 1], [2], [], [], [4, 5], [6], [3, 7]] true) (.cond (.tmp 25) (.seq (.region [opD 4 (.mov (.const vB))] [[]] false) .ret) .skip))) (.region [mvD 15 5, opD 16 (.bin .add (tD 15) (cD 1)), mvD 5 16] [[], [0], [1, 0, 1]] false)))))) (.seq (.region [opD 4 (.mov (.const (.bool true)))] [[]] false) .ret))))
set_option maxRecDepth 1000000 in
theorem v20 (fu : Nat) : evF fu (d20 fu) rs20 26 (e20 fu).ash (e20 fu).osh (e20 fu).vsh = p20 fu := by kernel_rfl
set_option maxRecDepth 1000000 in
theorem b20 (fu : Nat) : BodyD Try.prog 20 26 (d20 fu).erase rs20 := bodyD_mk Try.func20 (by kernel_rfl) (by kernel_rfl) (by kernel_rfl) (by kernel_rfl)
theorem g20 (fu : Nat) : (e20 fu).Good Try.prog := good_by orders (b20 fu) (l := []) (by kernel_rfl) trivial (by kernel_rfl) (v20 fu)
def rs21 : List RVx := [(.tmp 4)]
/-- gazette/gazetteref14.Same -/
def p21 (fu : Nat) : (List (D_api_Record)) × ((List (D_api_Record)) × (Unit)) → Option ((Unit) × (Bool)) := fun ⟨a, c, _⟩ =>
bif ((List.length a : Int) != (List.length c : Int)) then
 some ((), false)
else
 loopO (S := ((Int) × (Unit)) × (Unit)) fu (fun ⟨⟨f, _⟩, _⟩ =>
 bif decide (f < (List.length a : Int)) then
 bif decide ((0 : Int) ≤ f ∧ f < (List.length a : Int)) then
 bif decide (Int.toNat f < List.length a) then
 bif decide ((0 : Int) ≤ f ∧ f < (List.length c : Int)) then
 bif decide (Int.toNat f < List.length c) then
 bif (((List.getD a (Int.toNat f) (dflt T_api_Record)).1) != ((List.getD c (Int.toNat f) (dflt T_api_Record)).1)) then
 inrO (some ((), false))
 else
 bif decide ((0 : Int) ≤ f ∧ f < (List.length a : Int)) then
 bif decide (Int.toNat f < List.length a) then
 bif decide ((0 : Int) ≤ f ∧ f < (List.length c : Int)) then
 bif decide (Int.toNat f < List.length c) then
 bif !(ByteArray.toList (((List.getD a (Int.toNat f) (dflt T_api_Record)).2).1) == ByteArray.toList (((List.getD c (Int.toNat f) (dflt T_api_Record)).2).1)) then
 inrO (some ((), false))
 else
 bif decide ((0 : Int) ≤ f ∧ f < (List.length a : Int)) then
 bif decide (Int.toNat f < List.length a) then
 bif decide ((0 : Int) ≤ f ∧ f < (List.length c : Int)) then
 bif decide (Int.toNat f < List.length c) then
 bif !(ByteArray.toList (strOfNums ((((List.getD a (Int.toNat f) (dflt T_api_Record)).2).2).1)) == ByteArray.toList (strOfNums ((((List.getD c (Int.toNat f) (dflt T_api_Record)).2).2).1))) then
 inrO (some ((), false))
 else
 bif decide ((0 : Int) ≤ f ∧ f < (List.length a : Int)) then
 bif decide (Int.toNat f < List.length a) then
 bif decide ((0 : Int) ≤ f ∧ f < (List.length c : Int)) then
 bif decide (Int.toNat f < List.length c) then
 bif ((((((List.getD a (Int.toNat f) (dflt T_api_Record)).2).2).2).1) != (((((List.getD c (Int.toNat f) (dflt T_api_Record)).2).2).2).1)) then
 inrO (some ((), false))
 else
 bif decide ((0 : Int) ≤ f ∧ f < (List.length a : Int)) then
 bif decide (Int.toNat f < List.length a) then
 bif decide ((0 : Int) ≤ f ∧ f < (List.length c : Int)) then
 bif decide (Int.toNat f < List.length c) then
 bif ((((((List.getD a (Int.toNat f) (dflt T_api_Record)).2).2).2).2) != (((((List.getD c (Int.toNat f) (dflt T_api_Record)).2).2).2).2)) then
 inrO (some ((), false))
 else
 some (.inl ((IntKind.wrap .i64 (f + (1 : Int)), ()), ()))
 else none
 else none
 else none
 else none
 else none
 else none
 else none
 else none
 else none
 else none
 else none
 else none
 else none
 else none
 else none
 else none
 else none
 else none
 else none
 else none
 else
 inrO (some ((), true)))
 (((0 : Int), ()), ())
def e21 (fu : Nat) : Ent := ⟨21, (.cons (.hole (.sl T_api_Record)) (.cons (.hole (.sl T_api_Record)) .nil)), .nil, (.hole .bool), p21 fu⟩
def d21 (_ : Nat) : DC := (.seq (.region [opD 4 (.mov (.const vB))] [[]] false) (.seq (.seq (.region [mvD 6 0, opD 7 (.len false (tD 6)), mvD 8 1, opD 9 (.len false (tD 8)), opD 10 (.bin .neq (tD 7) (tD 9))] [[], [0], [], [2], [1, 3]] false) (.cond (.tmp 10) (.seq (.region [opD 4 (.mov (.const vB))] [[]] false) .ret) .skip)) (.seq (.seq (.region [opD 5 (.mov (cD 0))] [[]] false) (.block 0 (.loop ⟨[5], (.cons (.hole (.int .i64)) .nil), [], .nil, [0, 1], []⟩
 (.seq (.seq (.region [mvD 11 5, mvD 12 0, opD 13 (.len false (tD 12)), opD 14 (.bin .lss (tD 11) (tD 13))] [[], [], [1], [0, 2]] false) (.cond (.tmp 14) .skip (.exit 0))) (.seq (.block 1 (.seq (.region [mvD 17 0, mvD 18 5, opD 19 (.iaddr 5 (tD 17) (tD 18)), opD 20 (.faddr 0 (tD 19)), opD 21 (.load false 1 (tD 20)), mvD 22 1, mvD 23 5, opD 24 (.iaddr 5 (tD 22) (tD 23)), opD 25 (.faddr 0 (tD 24)), opD 26 (.load false 1 (tD 25)), opD 27 (.bin .neq (tD 21) (tD 26)), mvD 28 27, ogD 29 28 false (.mov (tD 0)), ogD 30 28 false (.mov (tD 5)), ogD 31 28 false (.iaddr 5 (tD 29) (tD 30)), ogD 32 28 false (.faddr 1 (tD 31)), ogD 33 28 false (.load false 1 (tD 32)), ogD 34 28 false (.mov (tD 1)), ogD 35 28 false (.mov (tD 5)), ogD 36 28 false (.iaddr 5 (tD 34) (tD 35)), ogD 37 28 false (.faddr 1 (tD 36)), ogD 38 28 false (.load false 1 (tD 37)), ogD 39 28 false (.bin .neq (tD 33) (tD 38)), opD 40 (.pick (tD 28) (.const (.bool true)) (tD 39)), mvD 41 40, ogD 42 41 false (.mov (tD 0)), ogD 43 41 false (.mov (tD 5)), ogD 44 41 false (.iaddr 5 (tD 42) (tD 43)), ogD 45 41 false (.faddr 2 (tD 44)), ogD 46 41 false (.load false 1 (tD 45)), ogD 47 41 false (.b2s (tD 46)), ogD 48 41 false (.mov (tD 1)), ogD 49 41 false (.mov (tD 5)), ogD 50 41 false (.iaddr 5 (tD 48) (tD 49)), ogD 51 41 false (.faddr 2 (tD 50)), ogD 52 41 false (.load false 1 (tD 51)), ogD 53 41 false (.b2s (tD 52)), ogD 54 41 false (.bin .neq (tD 47) (tD 53)), opD 55 (.pick (tD 41) (.const (.bool true)) (tD 54)), mvD 56 55, ogD 57 56 false (.mov (tD 0)), ogD 58 56 false (.mov (tD 5)), ogD 59 56 false (.iaddr 5 (tD 57) (tD 58)), ogD 60 56 false (.faddr 3 (tD 59)), ogD 61 56 false (.load false 1 (tD 60)), ogD 62 56 false (.mov (tD 1)), ogD 63 56 false (.mov (tD 5)), ogD 64 56 false (.iaddr 5 (tD 62) (tD 63)), ogD 65 56 false (.faddr 3 (tD 64)), ogD 66 56 false (.load false 1 (tD 65)), ogD 67 56 false (.bin .neq (tD 61) (tD 66)), opD 68 (.pick (tD 56) (.const (.bool true)) (tD 67)), mvD 69 68, ogD 70 69 false (.mov (tD 0)), ogD 71 69 false (.mov (tD 5)), ogD 72 69 false (.iaddr 5 (tD 70) (tD 71)), ogD 73 69 false (.faddr 4 (tD 72)), ogD 74 69 false (.load false 1 (tD 73)), ogD 75 69 false (.mov (tD 1)), ogD 76 69 false (.mov (tD 5)), ogD 77 69 false (.iaddr 5 (tD 75) (tD 76)), ogD 78 69 false (.faddr 4 (tD 77)), ogD 79 69 false (.load false 1 (tD 78)), ogD 80 69 false (.bin .neq (tD 74) (tD 79)), opD 81 (.pick (tD 69) (.const (.bool true)) (tD 80))] [[], [], [0, 1], [2], [3], [], [], [5, 6], [7], [8], [4, 9], [10], [11], [11], [12, 13, 11], [14, 11], [15, 11], [11], [11], [17, 18, 11], [19, 11], [20, 11], [16, 21, 11], [11, 22], [23, 11], [24], [24], [25, 26, 24], [27, 24], [28, 24], [29, 24], [24], [24], [31, 32, 24], [33, 24], [34, 24], [35, 24], [30, 36, 24], [24, 37], [38, 24], [39], [39], [40, 41, 39], [42, 39], [43, 39], [39], [39], [45, 46, 39], [47, 39], [48, 39], [44, 49, 39], [39, 50], [51, 39], [52], [52], [53, 54, 52], [55, 52], [56, 52], [52], [52], [58, 59, 52], [60, 52], [61, 52], [57, 62, 52], [52, 63]] true) (.cond (.tmp 81) (.seq (.region [opD 4 (.mov (.const vB))] [[]] false) .ret) .skip))) (.region [mvD 15 5, opD 16 (.bin .add (tD 15) (cD 1)), mvD 5 16] [[], [0], [1, 0, 1]] false)))))) (.seq (.region [opD 4 (.mov (.const (.bool true)))] [[]] false) .ret))))
set_option maxRecDepth 1000000 in
theorem v21 (fu : Nat) : evF fu (d21 fu) rs21 82 (e21 fu).ash (e21 fu).osh (e21 fu).vsh = p21 fu := by kernel_rfl
set_option maxRecDepth 1000000 in
theorem b21 (fu : Nat) : BodyD Try.prog 21 82 (d21 fu).erase rs21 := bodyD_mk Try.func21 (by kernel_rfl) (by kernel_rfl) (by kernel_rfl) (by kernel_rfl)
theorem g21 (fu : Nat) : (e21 fu).Good Try.prog := good_by orders (b21 fu) (l := []) (by kernel_rfl) trivial (by kernel_rfl) (v21 fu)
def rs3 : List RVx := [(.tmp 0)]
/-- gazette/gazettelaw14.RecordsNames -/
def p3 (fu : Nat) : Unit → Option ((Unit) × (Bool)) := fun _ =>
Option.bind (p11 fu ()) fun ⟨_, a⟩ =>
Option.bind (p12 fu ([((0 : Int), (⟨#[97]⟩ : ByteArray), [], (0 : Int), (0 : Int)), ((1 : Int), (⟨#[109]⟩ : ByteArray), [], (0 : Int), (0 : Int)), ((2 : Int), (⟨#[98]⟩ : ByteArray), [], (0 : Int), (0 : Int))], ((⟨#[]⟩ : ByteArray), (⟨#[99]⟩ : ByteArray), ()), ())) fun ⟨_, ⟨c, f, _⟩⟩ =>
Option.bind (p14 fu ((1 : Int), (5 : Int), (0 : Int), ())) fun ⟨_, ⟨h, i, j, k, l, _⟩⟩ =>
Option.bind (p14 fu ((2 : Int), (1 : Int), (1 : Int), ())) fun ⟨_, ⟨m, n, o, q, s, _⟩⟩ =>
Option.bind (p14 fu ((1 : Int), (3 : Int), (0 : Int), ())) fun ⟨_, ⟨t, u, w, x, y, _⟩⟩ =>
Option.bind (p14 fu ((2 : Int), (2 : Int), (1 : Int), ())) fun ⟨_, ⟨z, a0, c0, f0, h0, _⟩⟩ =>
Option.bind (p13 fu ([(h, i, j, k, l), (m, n, o, q, s)], [(t, u, w, x, y), (z, a0, c0, f0, h0)], ())) fun ⟨_, ⟨i0, j0, k0, l0, _⟩⟩ =>
Option.bind (p14 fu ((1 : Int), (5 : Int), (0 : Int), ())) fun ⟨_, ⟨m0, n0, o0, q0, s0, _⟩⟩ =>
Option.bind (p14 fu ((2 : Int), (1 : Int), (1 : Int), ())) fun ⟨_, ⟨t0, u0, w0, x0, y0, _⟩⟩ =>
Option.bind (p14 fu ((2 : Int), (2 : Int), (0 : Int), ())) fun ⟨_, ⟨z0, a1, c1, f1, h1, _⟩⟩ =>
Option.bind (p14 fu ((1 : Int), (3 : Int), (1 : Int), ())) fun ⟨_, ⟨i1, j1, k1, l1, m1, _⟩⟩ =>
Option.bind (p13 fu ([(m0, n0, o0, q0, s0), (t0, u0, w0, x0, y0)], [(z0, a1, c1, f1, h1), (i1, j1, k1, l1, m1)], ())) fun ⟨_, ⟨_, _, _, n1, _⟩⟩ =>
Option.bind (p15 fu ([((⟨#[99]⟩ : ByteArray), (2 : Int))], [(0 : Int), (1 : Int), (1 : Int), (2 : Int)], ())) fun ⟨_, o1⟩ =>
Option.bind (p16 fu ([((⟨#[99]⟩ : ByteArray), (2 : Int))], [((⟨#[99]⟩ : ByteArray), (0 : Int))], [(1 : Int), (2 : Int), (4 : Int)], [(0 : Int), (3 : Int), (4 : Int)], ())) fun ⟨_, ⟨q1, s1, _⟩⟩ =>
Option.bind (p17 fu ([((1 : Int), (⟨#[]⟩ : ByteArray), [], (0 : Int), (0 : Int))], ((0 : Int), (⟨#[]⟩ : ByteArray), [], (0 : Int), (0 : Int), ()), ())) fun ⟨_, ⟨_, _, t1, _⟩⟩ =>
bif decide (33 = List.length (List.replicate 33 (0 : Int) : List (Int))) then
 Option.bind (p17 fu ([], ((0 : Int), strOfNums (List.replicate 33 (0 : Int) : List (Int)), [], (0 : Int), (0 : Int), ()), ())) fun ⟨_, ⟨_, _, u1, _⟩⟩ =>
 bif decide (257 = List.length (List.replicate 257 (0 : Int) : List (Int))) then
 Option.bind (p17 fu ([], ((0 : Int), (⟨#[]⟩ : ByteArray), (List.replicate 257 (0 : Int) : List (Int)), (0 : Int), (0 : Int), ()), ())) fun ⟨_, ⟨_, _, w1, _⟩⟩ =>
 Option.bind (p18 fu ([], (1 : Int), (1 : Int), ())) fun ⟨_, ⟨_, x1, _⟩⟩ =>
 Option.bind (p19 fu ([], ((⟨#[65]⟩ : ByteArray), (0 : Int), ()), (1 : Int), ())) fun ⟨_, ⟨_, y1, _⟩⟩ =>
 orK (E := ((Bool) × (Unit)) × (Unit))
 (bif (((List.length c) : Int) == (2 : Int)) then
 bif decide ((0 : Int) ≤ 1 ∧ 1 < (List.length c : Int)) then
 bif decide (1 < List.length c) then
 bif ByteArray.toList (((List.getD c 1 (dflt T_api_Record)).2).1) == ByteArray.toList (⟨#[98]⟩ : ByteArray) then
 bif decide ((0 : Int) ≤ 1 ∧ 1 < (List.length c : Int)) then
 bif decide (1 < List.length c) then
 bif (((List.getD c 1 (dflt T_api_Record)).1) == (1 : Int)) then
 bif decide (List.length f = List.length f) then
 Option.bind (p20 fu (f, [(0 : Int), (1 : Int), (1 : Int), (2 : Int)], ())) fun ⟨_, z1⟩ =>
 some (.inl ((z1, ()), ()))
 else none
 else
 some (.inl ((false, ()), ()))
 else none
 else none
 else
 some (.inl ((false, ()), ()))
 else none
 else none
 else
 some (.inl ((false, ()), ())))
 fun ⟨⟨a2, _⟩, _⟩ =>
 orK (E := ((Bool) × (Unit)) × (Unit))
 (Option.bind (p14 fu ((1 : Int), (3 : Int), (0 : Int), ())) fun ⟨_, ⟨c2, f2, h2, i2, j2, _⟩⟩ =>
 Option.bind (p14 fu ((1 : Int), (5 : Int), (1 : Int), ())) fun ⟨_, ⟨k2, l2, m2, n2, o2, _⟩⟩ =>
 Option.bind (p14 fu ((2 : Int), (1 : Int), (2 : Int), ())) fun ⟨_, ⟨q2, s2, t2, u2, w2, _⟩⟩ =>
 Option.bind (p14 fu ((2 : Int), (2 : Int), (3 : Int), ())) fun ⟨_, ⟨x2, y2, z2, a3, c3, _⟩⟩ =>
 bif decide (List.length i0 = List.length i0) then
 Option.bind (p21 fu (i0, [(c2, f2, h2, i2, j2), (k2, l2, m2, n2, o2), (q2, s2, t2, u2, w2), (x2, y2, z2, a3, c3)], ())) fun ⟨_, f3⟩ =>
 bif f3 then
 bif decide (List.length j0 = List.length j0) then
 Option.bind (p20 fu (j0, [(1 : Int), (2 : Int), (4 : Int)], ())) fun ⟨_, h3⟩ =>
 bif h3 then
 bif decide (List.length k0 = List.length k0) then
 Option.bind (p20 fu (k0, [(0 : Int), (3 : Int), (4 : Int)], ())) fun ⟨_, i3⟩ =>
 some (.inl ((i3, ()), ()))
 else none
 else
 some (.inl ((false, ()), ()))
 else none
 else
 some (.inl ((false, ()), ()))
 else none)
 fun ⟨⟨j3, _⟩, _⟩ =>
 orK (E := ((Bool) × (Unit)) × (Unit))
 (bif (((List.length o1) : Int) == (1 : Int)) then
 bif decide ((0 : Int) ≤ 0 ∧ 0 < (List.length o1 : Int)) then
 bif decide (0 < List.length o1) then
 bif (((List.getD o1 0 (dflt T_runtime_errorAddressString)).2) == (1 : Int)) then
 bif (((List.length q1) : Int) == (1 : Int)) then
 bif decide ((0 : Int) ≤ 0 ∧ 0 < (List.length q1 : Int)) then
 bif decide (0 < List.length q1) then
 some (.inl (((((List.getD q1 0 (dflt T_runtime_errorAddressString)).2) == (0 : Int)), ()), ()))
 else none
 else none
 else
 some (.inl ((false, ()), ()))
 else
 some (.inl ((false, ()), ()))
 else none
 else none
 else
 some (.inl ((false, ()), ())))
 fun ⟨⟨k3, _⟩, _⟩ =>
 bif a then
 bif a2 then
 bif j3 then
 bif k3 then
 bif (l0 == (0 : Int)) then
 bif (n1 == (145 : Int)) then
 bif (s1 == (0 : Int)) then
 bif (t1 == (1 : Int)) then
 bif (u1 == (131 : Int)) then
 bif (w1 == (144 : Int)) then
 bif (x1 == (141 : Int)) then
 some ((), cond (y1 == (142 : Int)) true false)
 else
 some ((), false)
 else
 some ((), false)
 else
 some ((), false)
 else
 some ((), false)
 else
 some ((), false)
 else
 some ((), false)
 else
 some ((), false)
 else
 some ((), false)
 else
 some ((), false)
 else
 some ((), false)
 else
 some ((), false)
 else none
else none
def e3 (fu : Nat) : Ent := ⟨3, .nil, .nil, (.hole .bool), p3 fu⟩
def d3 (fu : Nat) : DC := (.seq (.region [opD 0 (.mov (.const vB))] [[]] false) (.seq (.region [oqD 31 (.call 11 []) (.ent (e11 fu)), mvD 1 31] [[], [0, 0, 0]] false) (.seq (.region [opD 33 (.build 5 [vU, vT, vS, vU, vU] [(1, (1, (.const (.string ⟨#[97]⟩))))]), opD 34 (.build 5 [vU, vT, vS, vU, vU] [(1, (1, (.const (.string ⟨#[109]⟩)))), (0, (1, (.const (.int .u64 1))))]), opD 35 (.build 5 [vU, vT, vS, vU, vU] [(1, (1, (.const (.string ⟨#[98]⟩)))), (0, (1, (.const (.int .u64 2))))]), oqD 36 (.bslice 30 5 3 [vU, vT, vS, vU, vU] [(0, (tD 33)), (1, (tD 34)), (2, (tD 35))]) (.ty T_api_Record), opD 37 (.build 2 [vT, vT] [(1, (1, (.const (.string ⟨#[99]⟩))))]), oqD 38 (.call 12 [(tD 36), (tD 37)]) (.ent (e12 fu)), mvD 32 38, opD 39 (.ext (tD 32) 0), opD 40 (.ext (tD 32) 1), mvD 2 39, mvD 3 40] [[], [], [], [0, 1, 2], [], [3, 4], [5], [6], [6], [7, 5, 0, 1, 2, 3, 4, 5, 6, 7], [8, 9, 0, 1, 2, 3, 4, 5, 6, 7, 8, 9]] false) (.seq (.region [oqD 42 (.call 14 [(.const (.int .u64 1)), (.const (.int .u64 5)), (.const vU)]) (.ent (e14 fu)), oqD 43 (.call 14 [(.const (.int .u64 2)), (.const (.int .u64 1)), (.const (.int .u64 1))]) (.ent (e14 fu)), oqD 44 (.bslice 30 5 2 [vU, vT, vS, vU, vU] [(0, (tD 42)), (1, (tD 43))]) (.ty T_api_Record), oqD 45 (.call 14 [(.const (.int .u64 1)), (.const (.int .u64 3)), (.const vU)]) (.ent (e14 fu)), oqD 46 (.call 14 [(.const (.int .u64 2)), (.const (.int .u64 2)), (.const (.int .u64 1))]) (.ent (e14 fu)), oqD 47 (.bslice 30 5 2 [vU, vT, vS, vU, vU] [(0, (tD 45)), (1, (tD 46))]) (.ty T_api_Record), oqD 48 (.call 13 [(tD 44), (tD 47)]) (.ent (e13 fu)), mvD 41 48, opD 49 (.ext (tD 41) 0), opD 50 (.ext (tD 41) 1), opD 51 (.ext (tD 41) 2), opD 52 (.ext (tD 41) 3), mvD 4 49, mvD 5 50, mvD 6 51, mvD 7 52] [[], [0], [0, 1], [1], [3], [3, 4], [2, 5, 4], [6], [7], [7], [7], [7], [8, 6, 0, 1, 2, 3, 4, 5, 6, 7, 8], [9, 12, 0, 1, 2, 3, 4, 5, 6, 7, 8, 9, 12], [10, 13, 0, 1, 2, 3, 4, 5, 6, 7, 8, 9, 10, 12, 13], [11, 14, 0, 1, 2, 3, 4, 5, 6, 7, 8, 9, 10, 11, 12, 13, 14]] false) (.seq (.region [oqD 54 (.call 14 [(.const (.int .u64 1)), (.const (.int .u64 5)), (.const vU)]) (.ent (e14 fu)), oqD 55 (.call 14 [(.const (.int .u64 2)), (.const (.int .u64 1)), (.const (.int .u64 1))]) (.ent (e14 fu)), oqD 56 (.bslice 30 5 2 [vU, vT, vS, vU, vU] [(0, (tD 54)), (1, (tD 55))]) (.ty T_api_Record), oqD 57 (.call 14 [(.const (.int .u64 2)), (.const (.int .u64 2)), (.const vU)]) (.ent (e14 fu)), oqD 58 (.call 14 [(.const (.int .u64 1)), (.const (.int .u64 3)), (.const (.int .u64 1))]) (.ent (e14 fu)), oqD 59 (.bslice 30 5 2 [vU, vT, vS, vU, vU] [(0, (tD 57)), (1, (tD 58))]) (.ty T_api_Record), oqD 60 (.call 13 [(tD 56), (tD 59)]) (.ent (e13 fu)), mvD 53 60, opD 61 (.ext (tD 53) 0), opD 62 (.ext (tD 53) 1), opD 63 (.ext (tD 53) 2), opD 64 (.ext (tD 53) 3), mvD 8 61, mvD 9 62, mvD 10 63, mvD 11 64] [[], [0], [0, 1], [1], [3], [3, 4], [2, 5, 4], [6], [7], [7], [7], [7], [8, 6, 0, 1, 2, 3, 4, 5, 6, 7, 8], [9, 12, 0, 1, 2, 3, 4, 5, 6, 7, 8, 9, 12], [10, 13, 0, 1, 2, 3, 4, 5, 6, 7, 8, 9, 10, 12, 13], [11, 14, 0, 1, 2, 3, 4, 5, 6, 7, 8, 9, 10, 11, 12, 13, 14]] false) (.seq (.region [opD 65 (.build 2 [vT, vU] [(0, (1, (.const (.string ⟨#[99]⟩)))), (1, (1, (.const (.int .u64 2))))]), oqD 66 (.bslice 40 2 1 [vT, vU] [(0, (tD 65))]) (.ty T_runtime_errorAddressString), oqD 67 (.bslice 27 1 4 [vU] [(0, (.const vU)), (1, (.const (.int .u64 1))), (2, (.const (.int .u64 1))), (3, (.const (.int .u64 2)))]) (.ty (.int .u64)), oqD 68 (.call 15 [(tD 66), (tD 67)]) (.ent (e15 fu)), mvD 12 68] [[], [0], [], [1, 2], [3, 3, 0, 1, 2, 3]] false) (.seq (.region [opD 70 (.build 2 [vT, vU] [(0, (1, (.const (.string ⟨#[99]⟩)))), (1, (1, (.const (.int .u64 2))))]), oqD 71 (.bslice 40 2 1 [vT, vU] [(0, (tD 70))]) (.ty T_runtime_errorAddressString), opD 72 (.build 2 [vT, vU] [(0, (1, (.const (.string ⟨#[99]⟩))))]), oqD 73 (.bslice 40 2 1 [vT, vU] [(0, (tD 72))]) (.ty T_runtime_errorAddressString), oqD 74 (.bslice 27 1 3 [vU] [(0, (.const (.int .u64 1))), (1, (.const (.int .u64 2))), (2, (.const (.int .u64 4)))]) (.ty (.int .u64)), oqD 75 (.bslice 27 1 3 [vU] [(0, (.const vU)), (1, (.const (.int .u64 3))), (2, (.const (.int .u64 4)))]) (.ty (.int .u64)), oqD 76 (.call 16 [(tD 71), (tD 73), (tD 74), (tD 75)]) (.ent (e16 fu)), mvD 69 76, opD 77 (.ext (tD 69) 0), opD 78 (.ext (tD 69) 1), mvD 13 77, mvD 14 78] [[], [0], [], [2], [], [], [1, 3, 4, 5], [6], [7], [7], [8, 6, 0, 1, 2, 3, 4, 5, 6, 7, 8], [9, 10, 0, 1, 2, 3, 4, 5, 6, 7, 8, 9, 10]] false) (.seq (.region [opD 80 (.build 5 [vU, vT, vS, vU, vU] [(0, (1, (.const (.int .u64 1))))]), oqD 81 (.bslice 30 5 1 [vU, vT, vS, vU, vU] [(0, (tD 80))]) (.ty T_api_Record), opD 82 (.build 5 [vU, vT, vS, vU, vU] []), oqD 83 (.call 17 [(tD 81), (tD 82)]) (.ent (e17 fu)), mvD 79 83, opD 84 (.ext (tD 79) 0), opD 85 (.ext (tD 79) 1), opD 86 (.ext (tD 79) 2), mvD 15 84, mvD 16 85, mvD 17 86] [[], [0], [], [1, 2], [3], [4], [4], [4], [5, 3, 0, 1, 2, 3, 4, 5], [6, 8, 0, 1, 2, 3, 4, 5, 6, 8], [7, 9, 0, 1, 2, 3, 4, 5, 6, 7, 8, 9]] false) (.seq (.region [oqD 88 (.make false 5 1 [(.int .u8 0)] 1 (cD 33) (cD 33)) (.ty (.int .u8)), opD 89 (.b2s (tD 88)), opD 90 (.build 5 [vU, vT, vS, vU, vU] [(1, (1, (tD 89)))]), oqD 91 (.call 17 [(.const vS), (tD 90)]) (.ent (e17 fu)), mvD 87 91, opD 92 (.ext (tD 87) 0), opD 93 (.ext (tD 87) 1), opD 94 (.ext (tD 87) 2), mvD 18 92, mvD 19 93, mvD 20 94] [[], [0], [1], [2], [3], [4], [4], [4], [5, 3, 0, 1, 2, 3, 4, 5], [6, 8, 0, 1, 2, 3, 4, 5, 6, 8], [7, 9, 0, 1, 2, 3, 4, 5, 6, 7, 8, 9]] false) (.seq (.region [oqD 96 (.make false 5 1 [(.int .u8 0)] 1 (cD 257) (cD 257)) (.ty (.int .u8)), opD 97 (.build 5 [vU, vT, vS, vU, vU] [(2, (1, (tD 96)))]), oqD 98 (.call 17 [(.const vS), (tD 97)]) (.ent (e17 fu)), mvD 95 98, opD 99 (.ext (tD 95) 0), opD 100 (.ext (tD 95) 1), opD 101 (.ext (tD 95) 2), mvD 21 99, mvD 22 100, mvD 23 101] [[], [0], [1], [2], [3], [3], [3], [4, 2, 0, 1, 2, 3, 4], [5, 7, 0, 1, 2, 3, 4, 5, 7], [6, 8, 0, 1, 2, 3, 4, 5, 6, 7, 8]] false) (.seq (.region [oqD 103 (.call 18 [(.const vS), (.const (.int .u64 1)), (cD 1)]) (.ent (e18 fu)), mvD 102 103, opD 104 (.ext (tD 102) 0), opD 105 (.ext (tD 102) 1), mvD 24 104, mvD 25 105] [[], [0], [1], [1], [2, 0, 0, 1, 2], [3, 4, 0, 1, 2, 3, 4]] false) (.seq (.region [opD 107 (.build 2 [vT, vU] [(0, (1, (.const (.string ⟨#[65]⟩))))]), oqD 108 (.call 19 [(.const vS), (tD 107), (.const (.int .u64 1))]) (.ent (e19 fu)), mvD 106 108, opD 109 (.ext (tD 106) 0), opD 110 (.ext (tD 106) 1), mvD 26 109, mvD 27 110] [[], [0], [1], [2], [2], [3, 1, 0, 1, 2, 3], [4, 5, 0, 1, 2, 3, 4, 5]] false) (.join ⟨[28], (.cons (.hole .bool) .nil), [], .nil, [1, 4, 5, 6, 7, 11, 12, 13, 14, 17, 20, 23, 25, 27], [320, 321, 322, 784, 912]⟩
 (.region [mvD 111 2, opD 112 (.len false (tD 111)), opD 113 (.bin .eql (tD 112) (cD 2)), mvD 114 113, ogD 115 114 true (.mov (tD 2)), ogD 116 114 true (.iaddr 5 (tD 115) (cD 1)), ogD 117 114 true (.faddr 1 (tD 116)), ogD 118 114 true (.load false 1 (tD 117)), ogD 119 114 true (.bin .eql (tD 118) (.const (.string ⟨#[98]⟩))), opD 120 (.pick (tD 114) (tD 119) (.const vB)), mvD 121 120, ogD 122 121 true (.mov (tD 2)), ogD 123 121 true (.iaddr 5 (tD 122) (cD 1)), ogD 124 121 true (.faddr 0 (tD 123)), ogD 125 121 true (.load false 1 (tD 124)), ogD 126 121 true (.bin .eql (tD 125) (.const (.int .u64 1))), opD 127 (.pick (tD 121) (tD 126) (.const vB)), mvD 128 127, ogD 129 128 true (.mov (tD 3)), (⟨(some 130), (some (128, true)), (.bslice 27 1 4 [vU] [(0, (.const vU)), (1, (.const (.int .u64 1))), (2, (.const (.int .u64 1))), (3, (.const (.int .u64 2)))])⟩, (.ty (.int .u64))), (⟨(some 131), (some (128, true)), (.call 20 [(tD 129), (tD 130)])⟩, (.ent (e20 fu))), opD 132 (.pick (tD 128) (tD 131) (.const vB)), mvD 28 132] [[], [0], [1], [2], [3], [4, 3], [5, 3], [6, 3], [7, 3], [3, 8], [9, 3], [10], [11, 10], [12, 10], [13, 10], [14, 10], [10, 15], [16, 10], [17], [17], [18, 19, 17, 17], [17, 20], [21, 20, 0, 1, 2, 3, 4, 5, 6, 7, 8, 9, 10, 11, 12, 13, 14, 15, 16, 17, 18, 19, 20, 21]] false)
 (.join ⟨[29], (.cons (.hole .bool) .nil), [], .nil, [1, 7, 11, 12, 13, 14, 17, 20, 23, 25, 27, 28], [784, 912]⟩
 (.region [mvD 133 4, oqD 134 (.call 14 [(.const (.int .u64 1)), (.const (.int .u64 3)), (.const vU)]) (.ent (e14 fu)), oqD 135 (.call 14 [(.const (.int .u64 1)), (.const (.int .u64 5)), (.const (.int .u64 1))]) (.ent (e14 fu)), oqD 136 (.call 14 [(.const (.int .u64 2)), (.const (.int .u64 1)), (.const (.int .u64 2))]) (.ent (e14 fu)), oqD 137 (.call 14 [(.const (.int .u64 2)), (.const (.int .u64 2)), (.const (.int .u64 3))]) (.ent (e14 fu)), oqD 138 (.bslice 30 5 4 [vU, vT, vS, vU, vU] [(0, (tD 134)), (1, (tD 135)), (2, (tD 136)), (3, (tD 137))]) (.ty T_api_Record), oqD 139 (.call 21 [(tD 133), (tD 138)]) (.ent (e21 fu)), mvD 140 139, ogD 141 140 true (.mov (tD 5)), (⟨(some 142), (some (140, true)), (.bslice 27 1 3 [vU] [(0, (.const (.int .u64 1))), (1, (.const (.int .u64 2))), (2, (.const (.int .u64 4)))])⟩, (.ty (.int .u64))), (⟨(some 143), (some (140, true)), (.call 20 [(tD 141), (tD 142)])⟩, (.ent (e20 fu))), opD 144 (.pick (tD 140) (tD 143) (.const vB)), mvD 145 144, ogD 146 145 true (.mov (tD 6)), (⟨(some 147), (some (145, true)), (.bslice 27 1 3 [vU] [(0, (.const vU)), (1, (.const (.int .u64 3))), (2, (.const (.int .u64 4)))])⟩, (.ty (.int .u64))), (⟨(some 148), (some (145, true)), (.call 20 [(tD 146), (tD 147)])⟩, (.ent (e20 fu))), opD 149 (.pick (tD 145) (tD 148) (.const vB)), mvD 29 149] [[], [], [1], [2], [3], [1, 2, 3, 4], [0, 5, 4], [6, 6], [7], [7], [8, 9, 7, 7], [7, 10], [11, 10], [12], [12], [13, 14, 12, 12], [12, 15], [16, 15, 0, 1, 2, 3, 4, 5, 6, 7, 8, 9, 10, 11, 12, 13, 14, 15, 16]] false)
 (.join ⟨[30], (.cons (.hole .bool) .nil), [], .nil, [1, 7, 11, 14, 17, 20, 23, 25, 27, 28, 29], []⟩
 (.region [mvD 150 12, opD 151 (.len false (tD 150)), opD 152 (.bin .eql (tD 151) (cD 1)), mvD 153 152, ogD 154 153 true (.mov (tD 12)), ogD 155 153 true (.iaddr 2 (tD 154) (cD 0)), ogD 156 153 true (.faddr 1 (tD 155)), ogD 157 153 true (.load false 1 (tD 156)), ogD 158 153 true (.bin .eql (tD 157) (.const (.int .u64 1))), opD 159 (.pick (tD 153) (tD 158) (.const vB)), mvD 160 159, ogD 161 160 true (.mov (tD 13)), ogD 162 160 true (.len false (tD 161)), ogD 163 160 true (.bin .eql (tD 162) (cD 1)), opD 164 (.pick (tD 160) (tD 163) (.const vB)), mvD 165 164, ogD 166 165 true (.mov (tD 13)), ogD 167 165 true (.iaddr 2 (tD 166) (cD 0)), ogD 168 165 true (.faddr 1 (tD 167)), ogD 169 165 true (.load false 1 (tD 168)), ogD 170 165 true (.bin .eql (tD 169) (.const vU)), opD 171 (.pick (tD 165) (tD 170) (.const vB)), mvD 30 171] [[], [0], [1], [2], [3], [4, 3], [5, 3], [6, 3], [7, 3], [3, 8], [9, 3], [10], [11, 10], [12, 10], [10, 13], [14, 10], [15], [16, 15], [17, 15], [18, 15], [19, 15], [15, 20], [21, 15, 0, 1, 2, 3, 4, 5, 6, 7, 8, 9, 10, 11, 12, 13, 14, 15, 16, 17, 18, 19, 20, 21]] false)
 (.seq (.region [mvD 172 1, mvD 173 172, ogD 174 173 true (.mov (tD 28)), opD 175 (.pick (tD 173) (tD 174) (.const vB)), mvD 176 175, ogD 177 176 true (.mov (tD 29)), opD 178 (.pick (tD 176) (tD 177) (.const vB)), mvD 179 178, ogD 180 179 true (.mov (tD 30)), opD 181 (.pick (tD 179) (tD 180) (.const vB)), mvD 182 181, ogD 183 182 true (.mov (tD 7)), ogD 184 182 true (.bin .eql (tD 183) (cD 0)), opD 185 (.pick (tD 182) (tD 184) (.const vB)), mvD 186 185, ogD 187 186 true (.mov (tD 11)), ogD 188 186 true (.bin .eql (tD 187) (cD 145)), opD 189 (.pick (tD 186) (tD 188) (.const vB)), mvD 190 189, ogD 191 190 true (.mov (tD 14)), ogD 192 190 true (.bin .eql (tD 191) (cD 0)), opD 193 (.pick (tD 190) (tD 192) (.const vB)), mvD 194 193, ogD 195 194 true (.mov (tD 17)), ogD 196 194 true (.bin .eql (tD 195) (cD 1)), opD 197 (.pick (tD 194) (tD 196) (.const vB)), mvD 198 197, ogD 199 198 true (.mov (tD 20)), ogD 200 198 true (.bin .eql (tD 199) (cD 131)), opD 201 (.pick (tD 198) (tD 200) (.const vB)), mvD 202 201, ogD 203 202 true (.mov (tD 23)), ogD 204 202 true (.bin .eql (tD 203) (cD 144)), opD 205 (.pick (tD 202) (tD 204) (.const vB)), mvD 206 205, ogD 207 206 true (.mov (tD 25)), ogD 208 206 true (.bin .eql (tD 207) (cD 141)), opD 209 (.pick (tD 206) (tD 208) (.const vB)), mvD 210 209, ogD 211 210 true (.mov (tD 27)), ogD 212 210 true (.bin .eql (tD 211) (cD 142)), opD 213 (.pick (tD 210) (tD 212) (.const vB)), mvD 214 213, opD 215 (.pick (tD 214) (.const (.bool true)) (.const vB)), mvD 0 215] [[], [0], [1], [1, 2], [3, 1], [4], [4, 5], [6, 4], [7], [7, 8], [9, 7], [10], [11, 10], [10, 12], [13, 10], [14], [15, 14], [14, 16], [17, 14], [18], [19, 18], [18, 20], [21, 18], [22], [23, 22], [22, 24], [25, 22], [26], [27, 26], [26, 28], [29, 26], [30], [31, 30], [30, 32], [33, 30], [34], [35, 34], [34, 36], [37, 34], [38], [39, 38], [38, 40], [41, 38], [42], [43, 42, 0, 1, 2, 3, 4, 5, 6, 7, 8, 9, 10, 11, 12, 13, 14, 15, 16, 17, 18, 19, 20, 21, 22, 23, 24, 25, 26, 27, 28, 29, 30, 31, 32, 33, 34, 35, 36, 37, 38, 39, 40, 41, 42, 43]] false) .ret))))))))))))))))
set_option maxRecDepth 1000000 in
theorem v3 (fu : Nat) : evF fu (d3 fu) rs3 216 (e3 fu).ash (e3 fu).osh (e3 fu).vsh = p3 fu := by kernel_rfl
set_option maxRecDepth 1000000 in
theorem b3 (fu : Nat) : BodyD Try.prog 3 216 (d3 fu).erase rs3 := bodyD_mk Try.func3 (by kernel_rfl) (by kernel_rfl) (by kernel_rfl) (by kernel_rfl)
theorem g3 (fu : Nat) : (e3 fu).Good Try.prog := good_by orders (b3 fu) (l := [e11 fu, e12 fu, e14 fu, e14 fu, e14 fu, e14 fu, e13 fu, e14 fu, e14 fu, e14 fu, e14 fu, e13 fu, e15 fu, e16 fu, e17 fu, e17 fu, e17 fu, e18 fu, e19 fu, e20 fu, e14 fu, e14 fu, e14 fu, e14 fu, e21 fu, e20 fu, e20 fu]) (by kernel_rfl) ⟨g11 fu, g12 fu, g14 fu, g14 fu, g14 fu, g14 fu, g13 fu, g14 fu, g14 fu, g14 fu, g14 fu, g13 fu, g15 fu, g16 fu, g17 fu, g17 fu, g17 fu, g18 fu, g19 fu, g20 fu, g14 fu, g14 fu, g14 fu, g14 fu, g21 fu, g20 fu, g20 fu, trivial⟩ (by kernel_rfl) (v3 fu)
end Go.Proofs.Ytgneanhmjkdkaaa
