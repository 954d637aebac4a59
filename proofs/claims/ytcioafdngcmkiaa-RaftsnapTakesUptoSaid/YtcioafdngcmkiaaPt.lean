/-
  The functions, typed.
-/
import Derived.Test.YtcioafdngcmkiaaDaL
import Derived.Test.YtcioafdngcmkiaaRows
namespace Go.Proofs.Ytcioafdngcmkiaa
open Go.RowKit
abbrev T_runtime_errorAddressString : Tp := (.pair .str (.int .u64))
abbrev D_runtime_errorAddressString := (ByteArray) × (Int)
abbrev T_api_Conf : Tp := (.pair (.sl (.int .i64)) (.sl (.int .i64)))
abbrev D_api_Conf := (List (Int)) × (List (Int))
abbrev T_runtime_boundsError : Tp := (.pair (.int .i64) (.pair (.int .i64) (.pair .bool (.int .u8))))
abbrev D_runtime_boundsError := (Int) × ((Int) × ((Bool) × (Int)))
abbrev T_api_Coming : Tp := (.pair (.int .u64) (.pair (.int .u64) (.sl (.int .u8))))
abbrev D_api_Coming := (Int) × ((Int) × (List (Int)))
abbrev T_api_Snap : Tp := (.pair (.int .u64) (.pair (.int .u64) (.pair T_api_Conf (.sl (.int .u8)))))
abbrev D_api_Snap := (Int) × ((Int) × ((D_api_Conf) × (List (Int))))
abbrev T_api_Entry : Tp := (.pair (.int .u64) (.pair (.int .u64) (.pair (.int .i64) (.pair (.sl (.int .u8)) T_api_Conf))))
abbrev D_api_Entry := (Int) × ((Int) × ((Int) × ((List (Int)) × (D_api_Conf))))
abbrev T_api_Msg : Tp := (.pair (.int .i64) (.pair (.int .i64) (.pair (.int .i64) (.pair (.int .u64) (.pair (.int .u64) (.pair (.int .u64) (.pair (.sl T_api_Entry) (.pair (.int .u64) (.pair .bool (.pair (.int .u64) (.pair T_api_Conf (.pair (.sl (.int .u8)) .bool))))))))))))
abbrev D_api_Msg := (Int) × ((Int) × ((Int) × ((Int) × ((Int) × ((Int) × ((List (D_api_Entry)) × ((Int) × ((Bool) × ((Int) × ((D_api_Conf) × ((List (Int)) × (Bool))))))))))))
theorem orders : Try.prog.follows .mixedOrders = true := by kernel_rfl
def rs24 : List RVx := [(.tmp 2)]
/-- gazette/copies.List[int] -/
def p24 (fu : Nat) : (List (Int)) × (Unit) → Option ((Unit) × (List (Int))) := fun ⟨a0, _⟩ =>
  bif ((List.length a0 : Int) == (0 : Int)) then
   some ((), [])
  else
   bif decide ((0 : Int) ≤ (List.length a0 : Int) ∧ ((List.length a0 : Int) : Int) ≤ (List.length a0 : Int) ∧ ((List.length a0 : Int) : Int) ≤ 9223372036854775807 ∧ (8 : Int) * (List.length a0 : Int) ≤ 140737488355328) then
    bif decide (Int.toNat (List.length a0 : Int) = List.length (List.replicate (Int.toNat (List.length a0 : Int)) (0 : Int) : List (Int))) then
     bif decide (Int.toNat (List.length a0 : Int) = List.length (copyL (List.replicate (Int.toNat (List.length a0 : Int)) (0 : Int) : List (Int)) 0 (Int.toNat (List.length a0 : Int)) a0)) then
      some ((), (copyL (List.replicate (Int.toNat (List.length a0 : Int)) (0 : Int) : List (Int)) 0 (Int.toNat (List.length a0 : Int)) a0))
     else none
    else none
   else none
def e24 (fu : Nat) : Ent := ⟨24, (.cons (.hole (.sl (.int .i64))) .nil), .nil, (.own .own 3 (.int .i64)), p24 fu⟩
def d24 (fu : Nat) : DC := (.seq (.region [(⟨(some 2), none, (.mov (.const (.slice none 0 0)))⟩, .none)] [[]] false) (.seq (.seq (.region [(⟨(some 4), none, (.mov (.tmp 0))⟩, .none), (⟨(some 5), none, (.len false (.tmp 4))⟩, .none), (⟨(some 6), none, (.bin .eql (.tmp 5) (.const (.int .i64 0)))⟩, .none)] [[], [0], [1]] false) (.cond (.tmp 6) (.seq (.region [(⟨(some 2), none, (.mov (.const (.slice none 0 0)))⟩, .none)] [[]] false) .ret) .skip)) (.seq (.region [(⟨(some 7), none, (.mov (.tmp 0))⟩, .none), (⟨(some 8), none, (.len false (.tmp 7))⟩, .none), (⟨(some 9), none, (.make false 3 1 [(.int .i64 0)] 8 (.tmp 8) (.tmp 8))⟩, (.ty (.int .i64))), (⟨(some 3), none, (.mov (.tmp 9))⟩, .none)] [[], [0], [1, 1], [2, 0, 1, 2]] false) (.seq (.region [(⟨(some 10), none, (.mov (.tmp 3))⟩, .none), (⟨(some 11), none, (.mov (.tmp 0))⟩, .none), (⟨(some 12), none, (.copy 1 (.tmp 10) (.tmp 11))⟩, .none)] [[], [], [0, 1]] false) (.seq (.region [(⟨(some 13), none, (.mov (.tmp 3))⟩, .none), (⟨(some 2), none, (.mov (.tmp 13))⟩, .none)] [[], [0, 0]] false) .ret)))))
set_option maxRecDepth 1000000 in
theorem v24 (fu : Nat) : evF fu (d24 fu) rs24 14 (e24 fu).ash (e24 fu).osh (e24 fu).vsh = p24 fu := by kernel_rfl
set_option maxRecDepth 1000000 in
theorem b24 (fu : Nat) : BodyD Try.prog 24 14 (d24 fu).erase rs24 := bodyD_mk Try.func24 (by kernel_rfl) (by kernel_rfl) (by kernel_rfl) (by kernel_rfl)
theorem g24 (fu : Nat) : (e24 fu).Good Try.prog := good_by orders (b24 fu) (l := []) (by kernel_rfl) trivial (by kernel_rfl) (v24 fu)
def rs20 : List RVx := [(.cell 2 true 2)]
/-- gazette/copies.Conf -/
def p20 (fu : Nat) : ((List (Int)) × ((List (Int)) × (Unit))) × (Unit) → Option ((Unit) × ((List (Int)) × ((List (Int)) × (Unit)))) := fun ⟨⟨a0, a1, _⟩, _⟩ =>
  Option.bind (p24 fu (a0, ())) fun ⟨_, r3⟩ =>
  Option.bind (p24 fu (a1, ())) fun ⟨_, r4⟩ =>
  bif decide (List.length r3 = List.length r3) then
   bif decide (List.length r4 = List.length r4) then
    some ((), (r3, r4, ()))
   else none
  else none
def e20 (fu : Nat) : Ent := ⟨20, (.cons (.agg 2 (.cons (.hole (.sl (.int .i64))) (.cons (.hole (.sl (.int .i64))) .nil))) .nil), .nil, (.agg 2 (.cons (.own .own 3 (.int .i64)) (.cons (.own .own 3 (.int .i64)) .nil))), p20 fu⟩
def d20 (fu : Nat) : DC := (.seq (.region [(⟨(some 1), none, (.box 25 2 (.tmp 0))⟩, .none), (⟨(some 2), none, (.alloc 25 2 [(.slice none 0 0), (.slice none 0 0)])⟩, .none)] [[], []] false) (.seq (.region [(⟨(some 3), none, (.faddr 0 (.tmp 1))⟩, .none), (⟨(some 4), none, (.load false 1 (.tmp 3))⟩, .none), (⟨(some 5), none, (.call 24 [(.tmp 4)])⟩, (.ent (e24 fu))), (⟨(some 6), none, (.faddr 1 (.tmp 1))⟩, .none), (⟨(some 7), none, (.load false 1 (.tmp 6))⟩, .none), (⟨(some 8), none, (.call 24 [(.tmp 7)])⟩, (.ent (e24 fu))), (⟨(some 9), none, (.build 2 [(.slice none 0 0), (.slice none 0 0)] [(0, (1, (.tmp 5))), (1, (1, (.tmp 8)))])⟩, .none), (⟨none, none, (.store 2 (.tmp 2) (.tmp 9))⟩, .none)] [[], [0], [1], [], [3], [4, 2], [2, 5], [6, 5, 0, 1, 2, 3, 4, 5, 6]] true) .ret))
set_option maxRecDepth 1000000 in
theorem v20 (fu : Nat) : evF fu (d20 fu) rs20 10 (e20 fu).ash (e20 fu).osh (e20 fu).vsh = p20 fu := by kernel_rfl
set_option maxRecDepth 1000000 in
theorem b20 (fu : Nat) : BodyD Try.prog 20 10 (d20 fu).erase rs20 := bodyD_mk Try.func20 (by kernel_rfl) (by kernel_rfl) (by kernel_rfl) (by kernel_rfl)
theorem g20 (fu : Nat) : (e20 fu).Good Try.prog := good_by orders (b20 fu) (l := [e24 fu, e24 fu]) (by kernel_rfl) ⟨g24 fu, g24 fu, trivial⟩ (by kernel_rfl) (v20 fu)
def rs21 : List RVx := [(.tmp 2)]
/-- gazette/copies.List[byte] -/
def p21 (fu : Nat) : (List (Int)) × (Unit) → Option ((Unit) × (List (Int))) := fun ⟨a0, _⟩ =>
  bif ((List.length a0 : Int) == (0 : Int)) then
   some ((), [])
  else
   bif decide ((0 : Int) ≤ (List.length a0 : Int) ∧ ((List.length a0 : Int) : Int) ≤ (List.length a0 : Int) ∧ ((List.length a0 : Int) : Int) ≤ 9223372036854775807 ∧ (1 : Int) * (List.length a0 : Int) ≤ 140737488355328) then
    bif decide (Int.toNat (List.length a0 : Int) = List.length (List.replicate (Int.toNat (List.length a0 : Int)) (0 : Int) : List (Int))) then
     bif decide (Int.toNat (List.length a0 : Int) = List.length (copyL (List.replicate (Int.toNat (List.length a0 : Int)) (0 : Int) : List (Int)) 0 (Int.toNat (List.length a0 : Int)) a0)) then
      some ((), (copyL (List.replicate (Int.toNat (List.length a0 : Int)) (0 : Int) : List (Int)) 0 (Int.toNat (List.length a0 : Int)) a0))
     else none
    else none
   else none
def e21 (fu : Nat) : Ent := ⟨21, (.cons (.hole (.sl (.int .u8))) .nil), .nil, (.own .own 5 (.int .u8)), p21 fu⟩
def d21 (fu : Nat) : DC := (.seq (.region [(⟨(some 2), none, (.mov (.const (.slice none 0 0)))⟩, .none)] [[]] false) (.seq (.seq (.region [(⟨(some 4), none, (.mov (.tmp 0))⟩, .none), (⟨(some 5), none, (.len false (.tmp 4))⟩, .none), (⟨(some 6), none, (.bin .eql (.tmp 5) (.const (.int .i64 0)))⟩, .none)] [[], [0], [1]] false) (.cond (.tmp 6) (.seq (.region [(⟨(some 2), none, (.mov (.const (.slice none 0 0)))⟩, .none)] [[]] false) .ret) .skip)) (.seq (.region [(⟨(some 7), none, (.mov (.tmp 0))⟩, .none), (⟨(some 8), none, (.len false (.tmp 7))⟩, .none), (⟨(some 9), none, (.make false 5 1 [(.int .u8 0)] 1 (.tmp 8) (.tmp 8))⟩, (.ty (.int .u8))), (⟨(some 3), none, (.mov (.tmp 9))⟩, .none)] [[], [0], [1, 1], [2, 0, 1, 2]] false) (.seq (.region [(⟨(some 10), none, (.mov (.tmp 3))⟩, .none), (⟨(some 11), none, (.mov (.tmp 0))⟩, .none), (⟨(some 12), none, (.copy 1 (.tmp 10) (.tmp 11))⟩, .none)] [[], [], [0, 1]] false) (.seq (.region [(⟨(some 13), none, (.mov (.tmp 3))⟩, .none), (⟨(some 2), none, (.mov (.tmp 13))⟩, .none)] [[], [0, 0]] false) .ret)))))
set_option maxRecDepth 1000000 in
theorem v21 (fu : Nat) : evF fu (d21 fu) rs21 14 (e21 fu).ash (e21 fu).osh (e21 fu).vsh = p21 fu := by kernel_rfl
set_option maxRecDepth 1000000 in
theorem b21 (fu : Nat) : BodyD Try.prog 21 14 (d21 fu).erase rs21 := bodyD_mk Try.func21 (by kernel_rfl) (by kernel_rfl) (by kernel_rfl) (by kernel_rfl)
theorem g21 (fu : Nat) : (e21 fu).Good Try.prog := good_by orders (b21 fu) (l := []) (by kernel_rfl) trivial (by kernel_rfl) (v21 fu)
def rs9 : List RVx := [(.cell 4 true 14), (.tmp 5)]
/-- gazette/raftsnap.Piece -/
def p9 (fu : Nat) : ((Int) × ((Int) × ((List (Int)) × ((List (Int)) × ((List (Int)) × (Unit)))))) × ((Int) × (Unit)) → Option ((Unit) × (((Int) × ((Int) × ((Int) × ((Int) × ((Int) × ((Int) × ((List (D_api_Entry)) × ((Int) × ((Bool) × ((Int) × ((List (Int)) × ((List (Int)) × ((List (Int)) × ((Bool) × (Unit))))))))))))))) × ((Int) × (Unit)))) := fun ⟨⟨a0, a1, a2, a3, a4, _⟩, a5, _⟩ =>
  bif decide (a5 > (IntKind.wrap .u64 (List.length a4 : Int))) then
   some ((), (((0 : Int), (0 : Int), (0 : Int), (0 : Int), (0 : Int), (0 : Int), [], (0 : Int), false, (0 : Int), [], [], [], false, ()), (1 : Int), ()))
  else
   bif decide ((0 : Int) ≤ IntKind.wrap .u64 (a5 + (if IntKind.wrap .u64 ((IntKind.wrap .u64 (List.length a4 : Int)) - a5) < (64 : Int) then IntKind.wrap .u64 ((IntKind.wrap .u64 (List.length a4 : Int)) - a5) else (64 : Int)))) then
    bif decide ((0 : Int) ≤ IntKind.wrap .u64 (a5 + (if IntKind.wrap .u64 ((IntKind.wrap .u64 (List.length a4 : Int)) - a5) < (64 : Int) then IntKind.wrap .u64 ((IntKind.wrap .u64 (List.length a4 : Int)) - a5) else (64 : Int)))) then
     bif decide ((0 : Int) ≤ a5) then
      bif decide (Int.toNat a5 ≤ Int.toNat (IntKind.wrap .u64 (a5 + (if IntKind.wrap .u64 ((IntKind.wrap .u64 (List.length a4 : Int)) - a5) < (64 : Int) then IntKind.wrap .u64 ((IntKind.wrap .u64 (List.length a4 : Int)) - a5) else (64 : Int)))) ∧ Int.toNat (IntKind.wrap .u64 (a5 + (if IntKind.wrap .u64 ((IntKind.wrap .u64 (List.length a4 : Int)) - a5) < (64 : Int) then IntKind.wrap .u64 ((IntKind.wrap .u64 (List.length a4 : Int)) - a5) else (64 : Int)))) ≤ Int.toNat (IntKind.wrap .u64 (a5 + (if IntKind.wrap .u64 ((IntKind.wrap .u64 (List.length a4 : Int)) - a5) < (64 : Int) then IntKind.wrap .u64 ((IntKind.wrap .u64 (List.length a4 : Int)) - a5) else (64 : Int)))) ∧ Int.toNat (IntKind.wrap .u64 (a5 + (if IntKind.wrap .u64 ((IntKind.wrap .u64 (List.length a4 : Int)) - a5) < (64 : Int) then IntKind.wrap .u64 ((IntKind.wrap .u64 (List.length a4 : Int)) - a5) else (64 : Int)))) ≤ List.length a4) then
       Option.bind (p20 fu ((a2, a3, ()), ())) fun ⟨_, ⟨r7, r7_1, _⟩⟩ =>
       Option.bind (p21 fu (slice' a4 (Int.toNat a5) (some (Int.toNat (IntKind.wrap .u64 (a5 + (if IntKind.wrap .u64 ((IntKind.wrap .u64 (List.length a4 : Int)) - a5) < (64 : Int) then IntKind.wrap .u64 ((IntKind.wrap .u64 (List.length a4 : Int)) - a5) else (64 : Int)))))), ())) fun ⟨_, r8⟩ =>
       bif decide (List.length r7 = List.length r7) then
        bif decide (List.length r7_1 = List.length r7_1) then
         bif decide (List.length r8 = List.length r8) then
          some ((), (((7 : Int), (0 : Int), (0 : Int), (0 : Int), a0, a1, [], (0 : Int), false, a5, r7, r7_1, r8, ((IntKind.wrap .u64 (a5 + (if IntKind.wrap .u64 ((IntKind.wrap .u64 (List.length a4 : Int)) - a5) < (64 : Int) then IntKind.wrap .u64 ((IntKind.wrap .u64 (List.length a4 : Int)) - a5) else (64 : Int)))) == (IntKind.wrap .u64 (List.length a4 : Int))), ()), (0 : Int), ()))
         else none
        else none
       else none
      else none
     else none
    else none
   else none
def e9 (fu : Nat) : Ent := ⟨9, (.cons (.agg 5 (.cons (.hole (.int .u64)) (.cons (.hole (.int .u64)) (.cons (.hole (.sl (.int .i64))) (.cons (.hole (.sl (.int .i64))) (.cons (.hole (.sl (.int .u8))) .nil)))))) (.cons (.hole (.int .u64)) .nil)), .nil, (.tup 2 (.cons (.agg 14 (.cons (.hole (.int .i64)) (.cons (.hole (.int .i64)) (.cons (.hole (.int .i64)) (.cons (.hole (.int .u64)) (.cons (.hole (.int .u64)) (.cons (.hole (.int .u64)) (.cons (.hole (.sl T_api_Entry)) (.cons (.hole (.int .u64)) (.cons (.hole .bool) (.cons (.hole (.int .u64)) (.cons (.own .own 3 (.int .i64)) (.cons (.own .own 3 (.int .i64)) (.cons (.own .own 5 (.int .u8)) (.cons (.hole .bool) .nil))))))))))))))) (.cons (.hole (.int .i64)) .nil))), p9 fu⟩
def d9 (fu : Nat) : DC := (.seq (.region [(⟨(some 2), none, (.box 28 5 (.tmp 0))⟩, .none), (⟨(some 4), none, (.alloc 34 14 [(.int .i64 0), (.int .i64 0), (.int .i64 0), (.int .u64 0), (.int .u64 0), (.int .u64 0), (.slice none 0 0), (.int .u64 0), (.bool false), (.int .u64 0), (.slice none 0 0), (.slice none 0 0), (.slice none 0 0), (.bool false)])⟩, .none), (⟨(some 5), none, (.mov (.const (.int .i64 0)))⟩, .none)] [[], [], []] false) (.seq (.region [(⟨(some 9), none, (.faddr 4 (.tmp 2))⟩, .none), (⟨(some 10), none, (.load false 1 (.tmp 9))⟩, .none), (⟨(some 11), none, (.len false (.tmp 10))⟩, .none), (⟨(some 12), none, (.conv .u64 (.tmp 11))⟩, .none), (⟨(some 6), none, (.mov (.tmp 12))⟩, .none)] [[], [0], [1], [2], [3, 0, 1, 2, 3]] false) (.seq (.seq (.region [(⟨(some 13), none, (.mov (.tmp 1))⟩, .none), (⟨(some 14), none, (.mov (.tmp 6))⟩, .none), (⟨(some 15), none, (.bin .gtr (.tmp 13) (.tmp 14))⟩, .none)] [[], [], [0, 1]] false) (.cond (.tmp 15) (.seq (.region [(⟨(some 16), none, (.build 14 [(.int .i64 0), (.int .i64 0), (.int .i64 0), (.int .u64 0), (.int .u64 0), (.int .u64 0), (.slice none 0 0), (.int .u64 0), (.bool false), (.int .u64 0), (.slice none 0 0), (.slice none 0 0), (.slice none 0 0), (.bool false)] [])⟩, .none), (⟨none, none, (.store 14 (.tmp 4) (.tmp 16))⟩, .none), (⟨(some 5), none, (.mov (.const (.int .i64 1)))⟩, .none)] [[], [0, 0], [1, 0, 1]] false) .ret) .skip)) (.seq (.region [(⟨(some 17), none, (.mov (.tmp 1))⟩, .none), (⟨(some 18), none, (.mov (.tmp 6))⟩, .none), (⟨(some 19), none, (.mov (.tmp 1))⟩, .none), (⟨(some 20), none, (.bin .sub (.tmp 18) (.tmp 19))⟩, .none), (⟨(some 21), none, (.mm false (.const (.int .u64 64)) (.tmp 20))⟩, .none), (⟨(some 22), none, (.bin .add (.tmp 17) (.tmp 21))⟩, .none), (⟨(some 7), none, (.mov (.tmp 22))⟩, .none)] [[], [], [], [1, 2], [3], [0, 4], [5, 0, 1, 2, 3, 4, 5]] false) (.seq (.region [(⟨(some 23), none, (.faddr 4 (.tmp 2))⟩, .none), (⟨(some 24), none, (.load false 1 (.tmp 23))⟩, .none), (⟨(some 25), none, (.mov (.tmp 1))⟩, .none), (⟨(some 26), none, (.mov (.tmp 7))⟩, .none), (⟨(some 27), none, (.mov (.tmp 7))⟩, .none), (⟨(some 28), none, (.slc3 1 (.tmp 24) (some (.tmp 25)) (some (.tmp 26)) (some (.tmp 27)))⟩, .none), (⟨(some 8), none, (.mov (.tmp 28))⟩, .none)] [[], [0], [], [], [], [1, 2, 3, 4], [5, 0, 1, 2, 3, 4, 5]] false) (.seq (.region [(⟨(some 29), none, (.faddr 0 (.tmp 2))⟩, .none), (⟨(some 30), none, (.load false 1 (.tmp 29))⟩, .none), (⟨(some 31), none, (.faddr 1 (.tmp 2))⟩, .none), (⟨(some 32), none, (.load false 1 (.tmp 31))⟩, .none), (⟨(some 33), none, (.faddr 2 (.tmp 2))⟩, .none), (⟨(some 34), none, (.load true 2 (.tmp 33))⟩, .none), (⟨(some 35), none, (.call 20 [(.tmp 34)])⟩, (.ent (e20 fu))), (⟨(some 36), none, (.mov (.tmp 1))⟩, .none), (⟨(some 37), none, (.mov (.tmp 8))⟩, .none), (⟨(some 38), none, (.call 21 [(.tmp 37)])⟩, (.ent (e21 fu))), (⟨(some 39), none, (.mov (.tmp 7))⟩, .none), (⟨(some 40), none, (.mov (.tmp 6))⟩, .none), (⟨(some 41), none, (.bin .eql (.tmp 39) (.tmp 40))⟩, .none), (⟨(some 42), none, (.build 14 [(.int .i64 0), (.int .i64 0), (.int .i64 0), (.int .u64 0), (.int .u64 0), (.int .u64 0), (.slice none 0 0), (.int .u64 0), (.bool false), (.int .u64 0), (.slice none 0 0), (.slice none 0 0), (.slice none 0 0), (.bool false)] [(0, (1, (.const (.int .i64 7)))), (4, (1, (.tmp 30))), (5, (1, (.tmp 32))), (10, (2, (.tmp 35))), (9, (1, (.tmp 36))), (12, (1, (.tmp 38))), (13, (1, (.tmp 41)))])⟩, .none), (⟨none, none, (.store 14 (.tmp 4) (.tmp 42))⟩, .none), (⟨(some 5), none, (.mov (.const (.int .i64 0)))⟩, .none)] [[], [0], [], [2], [], [4], [5], [], [], [8, 6], [], [], [10, 11], [1, 3, 6, 7, 9, 12], [13, 9, 0, 1, 2, 3, 4, 5, 6, 7, 8, 9, 10, 11, 12, 13], [14, 0, 1, 2, 3, 4, 5, 6, 7, 8, 9, 10, 11, 12, 13, 14]] true) .ret))))))
set_option maxRecDepth 1000000 in
theorem v9 (fu : Nat) : evF fu (d9 fu) rs9 43 (e9 fu).ash (e9 fu).osh (e9 fu).vsh = p9 fu := by kernel_rfl
set_option maxRecDepth 1000000 in
theorem b9 (fu : Nat) : BodyD Try.prog 9 43 (d9 fu).erase rs9 := bodyD_mk Try.func9 (by kernel_rfl) (by kernel_rfl) (by kernel_rfl) (by kernel_rfl)
theorem g9 (fu : Nat) : (e9 fu).Good Try.prog := good_by orders (b9 fu) (l := [e20 fu, e21 fu]) (by kernel_rfl) ⟨g20 fu, g21 fu, trivial⟩ (by kernel_rfl) (v9 fu)
def rs7 : List RVx := [(.tmp 0)]
/-- gazette/gazettelaw09.head -/
def p7 (fu : Nat) : Unit → Option ((Unit) × (Bool)) := fun _ =>
  bif decide (100 = List.length (List.replicate 100 (0 : Int) : List (Int))) then
   Option.bind (p9 fu (((5 : Int), (2 : Int), [], [], (List.replicate 100 (0 : Int) : List (Int)), ()), (64 : Int), ())) fun ⟨_, ⟨⟨r18, r18_1, r18_2, r18_3, r18_4, r18_5, r18_6, r18_7, r18_8, r18_9, r18_10, r18_11, r18_12, r18_13, _⟩, r18_14, _⟩⟩ =>
   bif (r18_14 == (0 : Int)) then
    bif (((List.length r18_12) : Int) == (36 : Int)) then
     bif r18_13 then
      bif (r18_4 == (5 : Int)) then
       bif (r18_5 == (2 : Int)) then
        some ((), (r18_9 == (64 : Int)))
       else
        some ((), false)
      else
       some ((), false)
     else
      some ((), false)
    else
     some ((), false)
   else
    some ((), false)
  else none
def e7 (fu : Nat) : Ent := ⟨7, .nil, .nil, (.hole .bool), p7 fu⟩
def d7 (fu : Nat) : DC := (.seq (.region [(⟨(some 0), none, (.mov (.const (.bool false)))⟩, .none)] [[]] false) (.seq (.region [(⟨(some 4), none, (.make false 5 1 [(.int .u8 0)] 1 (.const (.int .i64 100)) (.const (.int .i64 100)))⟩, (.ty (.int .u8))), (⟨(some 5), none, (.build 5 [(.int .u64 0), (.int .u64 0), (.slice none 0 0), (.slice none 0 0), (.slice none 0 0)] [(0, (1, (.const (.int .u64 5)))), (1, (1, (.const (.int .u64 2)))), (4, (1, (.tmp 4)))])⟩, .none), (⟨(some 6), none, (.call 9 [(.tmp 5), (.const (.int .u64 64))])⟩, (.ent (e9 fu))), (⟨(some 3), none, (.mov (.tmp 6))⟩, .none), (⟨(some 7), none, (.ext (.tmp 3) 0)⟩, .none), (⟨(some 8), none, (.ext (.tmp 3) 1)⟩, .none), (⟨(some 1), none, (.alloc 34 14 [(.int .i64 0), (.int .i64 0), (.int .i64 0), (.int .u64 0), (.int .u64 0), (.int .u64 0), (.slice none 0 0), (.int .u64 0), (.bool false), (.int .u64 0), (.slice none 0 0), (.slice none 0 0), (.slice none 0 0), (.bool false)])⟩, .none), (⟨none, none, (.store 14 (.tmp 1) (.tmp 7))⟩, .none), (⟨(some 2), none, (.mov (.tmp 8))⟩, .none)] [[], [0], [1], [2], [3], [3], [], [6, 4, 2, 0, 1, 2, 3, 4, 6], [5, 7, 0, 1, 2, 3, 4, 5, 6, 7]] false) (.seq (.region [(⟨(some 9), none, (.mov (.tmp 2))⟩, .none), (⟨(some 10), none, (.bin .eql (.tmp 9) (.const (.int .i64 0)))⟩, .none), (⟨(some 11), none, (.mov (.tmp 10))⟩, .none), (⟨(some 12), (some (11, true)), (.faddr 12 (.tmp 1))⟩, .none), (⟨(some 13), (some (11, true)), (.load false 1 (.tmp 12))⟩, .none), (⟨(some 14), (some (11, true)), (.len false (.tmp 13))⟩, .none), (⟨(some 15), (some (11, true)), (.bin .eql (.tmp 14) (.const (.int .i64 36)))⟩, .none), (⟨(some 16), none, (.pick (.tmp 11) (.tmp 15) (.const (.bool false)))⟩, .none), (⟨(some 17), none, (.mov (.tmp 16))⟩, .none), (⟨(some 18), (some (17, true)), (.faddr 13 (.tmp 1))⟩, .none), (⟨(some 19), (some (17, true)), (.load false 1 (.tmp 18))⟩, .none), (⟨(some 20), none, (.pick (.tmp 17) (.tmp 19) (.const (.bool false)))⟩, .none), (⟨(some 21), none, (.mov (.tmp 20))⟩, .none), (⟨(some 22), (some (21, true)), (.faddr 4 (.tmp 1))⟩, .none), (⟨(some 23), (some (21, true)), (.load false 1 (.tmp 22))⟩, .none), (⟨(some 24), (some (21, true)), (.bin .eql (.tmp 23) (.const (.int .u64 5)))⟩, .none), (⟨(some 25), none, (.pick (.tmp 21) (.tmp 24) (.const (.bool false)))⟩, .none), (⟨(some 26), none, (.mov (.tmp 25))⟩, .none), (⟨(some 27), (some (26, true)), (.faddr 5 (.tmp 1))⟩, .none), (⟨(some 28), (some (26, true)), (.load false 1 (.tmp 27))⟩, .none), (⟨(some 29), (some (26, true)), (.bin .eql (.tmp 28) (.const (.int .u64 2)))⟩, .none), (⟨(some 30), none, (.pick (.tmp 26) (.tmp 29) (.const (.bool false)))⟩, .none), (⟨(some 31), none, (.mov (.tmp 30))⟩, .none), (⟨(some 32), (some (31, true)), (.faddr 9 (.tmp 1))⟩, .none), (⟨(some 33), (some (31, true)), (.load false 1 (.tmp 32))⟩, .none), (⟨(some 34), (some (31, true)), (.bin .eql (.tmp 33) (.const (.int .u64 64)))⟩, .none), (⟨(some 35), none, (.pick (.tmp 31) (.tmp 34) (.const (.bool false)))⟩, .none), (⟨(some 0), none, (.mov (.tmp 35))⟩, .none)] [[], [0], [1], [2], [3, 2], [4, 2], [5, 2], [2, 6], [7, 2], [8], [9, 8], [8, 10], [11, 8], [12], [13, 12], [14, 12], [12, 15], [16, 12], [17], [18, 17], [19, 17], [17, 20], [21, 17], [22], [23, 22], [24, 22], [22, 25], [26, 22, 0, 1, 2, 3, 4, 5, 6, 7, 8, 9, 10, 11, 12, 13, 14, 15, 16, 17, 18, 19, 20, 21, 22, 23, 24, 25, 26]] false) .ret)))
set_option maxRecDepth 1000000 in
theorem v7 (fu : Nat) : evF fu (d7 fu) rs7 36 (e7 fu).ash (e7 fu).osh (e7 fu).vsh = p7 fu := by kernel_rfl
set_option maxRecDepth 1000000 in
theorem b7 (fu : Nat) : BodyD Try.prog 7 36 (d7 fu).erase rs7 := bodyD_mk Try.func7 (by kernel_rfl) (by kernel_rfl) (by kernel_rfl) (by kernel_rfl)
theorem g7 (fu : Nat) : (e7 fu).Good Try.prog := good_by orders (b7 fu) (l := [e9 fu]) (by kernel_rfl) ⟨g9 fu, trivial⟩ (by kernel_rfl) (v7 fu)
def rs15 : List RVx := [(.cell 4 true 3), (.tmp 5)]
/-- gazette/raftsnap.Take -/
def p15 (fu : Nat) : ((Int) × ((Int) × ((List (Int)) × (Unit)))) × (((Int) × ((Int) × ((Int) × ((Int) × ((Int) × ((Int) × ((List (D_api_Entry)) × ((Int) × ((Bool) × ((Int) × ((List (Int)) × ((List (Int)) × ((List (Int)) × ((Bool) × (Unit))))))))))))))) × (Unit)) → Option ((Unit) × (((Int) × ((Int) × ((List (Int)) × (Unit)))) × ((Bool) × (Unit)))) := fun ⟨⟨a0, a1, a2, _⟩, ⟨a3, a4, a5, a6, a7, a8, a9, a10, a11, a12, a13, a14, a15, a16, _⟩, _⟩ =>
  orK (E := (Unit) × (((Int) × ((Int) × ((List (Int)) × (Unit)))) × (Unit)))
   (orK (E := ((Bool) × (Unit)) × (Unit))
     (bif (a0 == a7) then
       some (.inl (((a1 == a8), ()), ()))
      else
       some (.inl ((false, ()), ())))
     fun ⟨⟨v23, _⟩, _⟩ =>
    bif v23 then
     Option.bind (p21 fu (a2, ())) fun ⟨_, r22⟩ =>
     bif decide (List.length r22 = List.length r22) then
      some (.inl ((), ((a7, a8, r22, ()), ())))
     else none
    else
     some (.inl ((), ((a7, a8, [], ()), ()))))
   fun ⟨_, ⟨⟨v1144, v1144_1, v1144_2, _⟩, _⟩⟩ =>
  bif (a12 != (IntKind.wrap .u64 ((List.length v1144_2) : Int))) then
   bif decide (List.length v1144_2 = List.length v1144_2) then
    some ((), ((v1144, v1144_1, v1144_2, ()), false, ()))
   else none
  else
   bif decide (List.length v1144_2 = List.length v1144_2) then
    bif decide (List.length v1144_2 + List.length a15 ≤ maxLen ∧ (List.length v1144_2 + List.length a15) * 1 ≤ 140737488355328) then
     bif decide (List.length (v1144_2 ++ a15) = List.length (v1144_2 ++ a15)) then
      some ((), ((v1144, v1144_1, (v1144_2 ++ a15), ()), a16, ()))
     else none
    else none
   else none
def e15 (fu : Nat) : Ent := ⟨15, (.cons (.agg 3 (.cons (.hole (.int .u64)) (.cons (.hole (.int .u64)) (.cons (.hole (.sl (.int .u8))) .nil)))) (.cons (.agg 14 (.cons (.hole (.int .i64)) (.cons (.hole (.int .i64)) (.cons (.hole (.int .i64)) (.cons (.hole (.int .u64)) (.cons (.hole (.int .u64)) (.cons (.hole (.int .u64)) (.cons (.hole (.sl T_api_Entry)) (.cons (.hole (.int .u64)) (.cons (.hole .bool) (.cons (.hole (.int .u64)) (.cons (.hole (.sl (.int .i64))) (.cons (.hole (.sl (.int .i64))) (.cons (.hole (.sl (.int .u8))) (.cons (.hole .bool) .nil))))))))))))))) .nil)), .nil, (.tup 2 (.cons (.agg 3 (.cons (.hole (.int .u64)) (.cons (.hole (.int .u64)) (.cons (.own .own 5 (.int .u8)) .nil)))) (.cons (.hole .bool) .nil))), p15 fu⟩
def d15 (fu : Nat) : DC := (.seq (.region [(⟨(some 2), none, (.box 43 3 (.tmp 0))⟩, .none), (⟨(some 3), none, (.box 34 14 (.tmp 1))⟩, .none), (⟨(some 4), none, (.alloc 43 3 [(.int .u64 0), (.int .u64 0), (.slice none 0 0)])⟩, .none), (⟨(some 5), none, (.mov (.const (.bool false)))⟩, .none)] [[], [], [], []] false) (.seq (.region [(⟨(some 7), none, (.faddr 4 (.tmp 3))⟩, .none), (⟨(some 8), none, (.load false 1 (.tmp 7))⟩, .none), (⟨(some 9), none, (.faddr 5 (.tmp 3))⟩, .none), (⟨(some 10), none, (.load false 1 (.tmp 9))⟩, .none), (⟨(some 11), none, (.build 3 [(.int .u64 0), (.int .u64 0), (.slice none 0 0)] [(0, (1, (.tmp 8))), (1, (1, (.tmp 10)))])⟩, .none), (⟨(some 6), none, (.alloc 43 3 [(.int .u64 0), (.int .u64 0), (.slice none 0 0)])⟩, .none), (⟨none, none, (.store 3 (.tmp 6) (.tmp 11))⟩, .none)] [[], [0], [], [2], [1, 3], [], [5, 4, 0, 1, 2, 3, 4, 5]] false) (.join ⟨[], .nil, [(144, 43, 3)], (.cons (.agg 3 (.cons (.hole (.int .u64)) (.cons (.hole (.int .u64)) (.cons (.own .own 5 (.int .u8)) .nil)))) .nil), [3, 4, 6], [16, 32]⟩
 (.join ⟨[23], (.cons (.hole .bool) .nil), [], .nil, [2, 3, 4, 6], [0, 16, 32, 144]⟩
 (.region [(⟨(some 12), none, (.faddr 0 (.tmp 2))⟩, .none), (⟨(some 13), none, (.load false 1 (.tmp 12))⟩, .none), (⟨(some 14), none, (.faddr 4 (.tmp 3))⟩, .none), (⟨(some 15), none, (.load false 1 (.tmp 14))⟩, .none), (⟨(some 16), none, (.bin .eql (.tmp 13) (.tmp 15))⟩, .none), (⟨(some 17), none, (.mov (.tmp 16))⟩, .none), (⟨(some 18), (some (17, true)), (.faddr 1 (.tmp 2))⟩, .none), (⟨(some 19), (some (17, true)), (.load false 1 (.tmp 18))⟩, .none), (⟨(some 20), (some (17, true)), (.faddr 5 (.tmp 3))⟩, .none), (⟨(some 21), (some (17, true)), (.load false 1 (.tmp 20))⟩, .none), (⟨(some 22), (some (17, true)), (.bin .eql (.tmp 19) (.tmp 21))⟩, .none), (⟨(some 23), none, (.pick (.tmp 17) (.tmp 22) (.const (.bool false)))⟩, .none)] [[], [0], [], [2], [1, 3], [4], [5], [6, 5], [5], [8, 5], [7, 9, 5], [5, 10]] false)
 (.cond (.tmp 23) (.region [(⟨(some 24), none, (.faddr 2 (.tmp 2))⟩, .none), (⟨(some 25), none, (.load false 1 (.tmp 24))⟩, .none), (⟨(some 26), none, (.call 21 [(.tmp 25)])⟩, (.ent (e21 fu))), (⟨(some 27), none, (.faddr 2 (.tmp 6))⟩, .none), (⟨none, none, (.store 1 (.tmp 27) (.tmp 26))⟩, .none)] [[], [0], [1], [0, 1, 2], [3, 2, 2, 0, 1, 2]] false) .skip))
 (.seq (.seq (.region [(⟨(some 28), none, (.faddr 9 (.tmp 3))⟩, .none), (⟨(some 29), none, (.load false 1 (.tmp 28))⟩, .none), (⟨(some 30), none, (.faddr 2 (.tmp 6))⟩, .none), (⟨(some 31), none, (.load false 1 (.tmp 30))⟩, .none), (⟨(some 32), none, (.len false (.tmp 31))⟩, .none), (⟨(some 33), none, (.conv .u64 (.tmp 32))⟩, .none), (⟨(some 34), none, (.bin .neq (.tmp 29) (.tmp 33))⟩, .none)] [[], [0], [], [2], [3], [4], [1, 5]] false) (.cond (.tmp 34) (.seq (.region [(⟨(some 35), none, (.load true 3 (.tmp 6))⟩, .none), (⟨none, none, (.store 3 (.tmp 4) (.tmp 35))⟩, .none), (⟨(some 5), none, (.mov (.const (.bool false)))⟩, .none)] [[], [0, 0], [1, 0, 1]] false) .ret) .skip)) (.seq (.region [(⟨(some 36), none, (.faddr 2 (.tmp 6))⟩, .none), (⟨(some 37), none, (.load false 1 (.tmp 36))⟩, .none), (⟨(some 38), none, (.faddr 12 (.tmp 3))⟩, .none), (⟨(some 39), none, (.load false 1 (.tmp 38))⟩, .none), (⟨(some 40), none, (.app 5 1 [(.int .u8 0)] 1 (.tmp 37) (.tmp 39))⟩, (.ty (.int .u8))), (⟨(some 41), none, (.faddr 2 (.tmp 6))⟩, .none), (⟨none, none, (.store 1 (.tmp 41) (.tmp 40))⟩, .none)] [[], [0], [], [2], [1, 3], [0, 1, 2, 3, 4], [5, 4, 4, 0, 1, 2, 3, 4]] false) (.seq (.region [(⟨(some 42), none, (.load true 3 (.tmp 6))⟩, .none), (⟨(some 43), none, (.faddr 13 (.tmp 3))⟩, .none), (⟨(some 44), none, (.load false 1 (.tmp 43))⟩, .none), (⟨none, none, (.store 3 (.tmp 4) (.tmp 42))⟩, .none), (⟨(some 5), none, (.mov (.tmp 44))⟩, .none)] [[], [], [1], [0, 0], [2, 3, 0, 1, 2, 3]] true) .ret))))))
set_option maxRecDepth 1000000 in
theorem v15 (fu : Nat) : evF fu (d15 fu) rs15 45 (e15 fu).ash (e15 fu).osh (e15 fu).vsh = p15 fu := by kernel_rfl
set_option maxRecDepth 1000000 in
theorem b15 (fu : Nat) : BodyD Try.prog 15 45 (d15 fu).erase rs15 := bodyD_mk Try.func15 (by kernel_rfl) (by kernel_rfl) (by kernel_rfl) (by kernel_rfl)
theorem g15 (fu : Nat) : (e15 fu).Good Try.prog := good_by orders (b15 fu) (l := [e21 fu]) (by kernel_rfl) ⟨g21 fu, trivial⟩ (by kernel_rfl) (v15 fu)
def rs16 : List RVx := [(.cell 4 true 3), (.tmp 5)]
/-- gazette/gazetteref09.Take -/
def p16 (fu : Nat) : ((Int) × ((Int) × ((List (Int)) × (Unit)))) × (((Int) × ((Int) × ((Int) × ((Int) × ((Int) × ((Int) × ((List (D_api_Entry)) × ((Int) × ((Bool) × ((Int) × ((List (Int)) × ((List (Int)) × ((List (Int)) × ((Bool) × (Unit))))))))))))))) × (Unit)) → Option ((Unit) × (((Int) × ((Int) × ((List (Int)) × (Unit)))) × ((Bool) × (Unit)))) := fun ⟨⟨a0, a1, a2, _⟩, ⟨a3, a4, a5, a6, a7, a8, a9, a10, a11, a12, a13, a14, a15, a16, _⟩, _⟩ =>
  orK (E := (Unit) × (((Int) × ((Int) × ((List (Int)) × (Unit)))) × (Unit)))
   (orK (E := ((Bool) × (Unit)) × (Unit))
     (bif (a0 == a7) then
       some (.inl (((a1 == a8), ()), ()))
      else
       some (.inl ((false, ()), ())))
     fun ⟨⟨v23, _⟩, _⟩ =>
    bif v23 then
     bif decide (0 = List.length ([] : List (Int))) then
      bif decide (List.length ([] : List (Int)) + List.length a2 ≤ maxLen ∧ (List.length ([] : List (Int)) + List.length a2) * 1 ≤ 140737488355328) then
       bif decide (List.length (([] : List (Int)) ++ a2) = List.length (([] : List (Int)) ++ a2)) then
        some (.inl ((), ((a7, a8, (([] : List (Int)) ++ a2), ()), ())))
       else none
      else none
     else none
    else
     some (.inl ((), ((a7, a8, [], ()), ()))))
   fun ⟨_, ⟨⟨v1144, v1144_1, v1144_2, _⟩, _⟩⟩ =>
  bif (a12 != (IntKind.wrap .u64 ((List.length v1144_2) : Int))) then
   bif decide (List.length v1144_2 = List.length v1144_2) then
    some ((), ((v1144, v1144_1, v1144_2, ()), false, ()))
   else none
  else
   bif decide (List.length v1144_2 = List.length v1144_2) then
    bif decide (List.length v1144_2 + List.length a15 ≤ maxLen ∧ (List.length v1144_2 + List.length a15) * 1 ≤ 140737488355328) then
     bif decide (List.length (v1144_2 ++ a15) = List.length (v1144_2 ++ a15)) then
      some ((), ((v1144, v1144_1, (v1144_2 ++ a15), ()), a16, ()))
     else none
    else none
   else none
def e16 (fu : Nat) : Ent := ⟨16, (.cons (.agg 3 (.cons (.hole (.int .u64)) (.cons (.hole (.int .u64)) (.cons (.hole (.sl (.int .u8))) .nil)))) (.cons (.agg 14 (.cons (.hole (.int .i64)) (.cons (.hole (.int .i64)) (.cons (.hole (.int .i64)) (.cons (.hole (.int .u64)) (.cons (.hole (.int .u64)) (.cons (.hole (.int .u64)) (.cons (.hole (.sl T_api_Entry)) (.cons (.hole (.int .u64)) (.cons (.hole .bool) (.cons (.hole (.int .u64)) (.cons (.hole (.sl (.int .i64))) (.cons (.hole (.sl (.int .i64))) (.cons (.hole (.sl (.int .u8))) (.cons (.hole .bool) .nil))))))))))))))) .nil)), .nil, (.tup 2 (.cons (.agg 3 (.cons (.hole (.int .u64)) (.cons (.hole (.int .u64)) (.cons (.own .own 5 (.int .u8)) .nil)))) (.cons (.hole .bool) .nil))), p16 fu⟩
def d16 (fu : Nat) : DC := (.seq (.region [(⟨(some 2), none, (.box 43 3 (.tmp 0))⟩, .none), (⟨(some 3), none, (.box 34 14 (.tmp 1))⟩, .none), (⟨(some 4), none, (.alloc 43 3 [(.int .u64 0), (.int .u64 0), (.slice none 0 0)])⟩, .none), (⟨(some 5), none, (.mov (.const (.bool false)))⟩, .none)] [[], [], [], []] false) (.seq (.region [(⟨(some 7), none, (.faddr 4 (.tmp 3))⟩, .none), (⟨(some 8), none, (.load false 1 (.tmp 7))⟩, .none), (⟨(some 9), none, (.faddr 5 (.tmp 3))⟩, .none), (⟨(some 10), none, (.load false 1 (.tmp 9))⟩, .none), (⟨(some 11), none, (.build 3 [(.int .u64 0), (.int .u64 0), (.slice none 0 0)] [(0, (1, (.tmp 8))), (1, (1, (.tmp 10)))])⟩, .none), (⟨(some 6), none, (.alloc 43 3 [(.int .u64 0), (.int .u64 0), (.slice none 0 0)])⟩, .none), (⟨none, none, (.store 3 (.tmp 6) (.tmp 11))⟩, .none)] [[], [0], [], [2], [1, 3], [], [5, 4, 0, 1, 2, 3, 4, 5]] false) (.join ⟨[], .nil, [(144, 43, 3)], (.cons (.agg 3 (.cons (.hole (.int .u64)) (.cons (.hole (.int .u64)) (.cons (.own .own 5 (.int .u8)) .nil)))) .nil), [3, 4, 6], [16, 32]⟩
 (.join ⟨[23], (.cons (.hole .bool) .nil), [], .nil, [2, 3, 4, 6], [0, 16, 32, 144]⟩
 (.region [(⟨(some 12), none, (.faddr 0 (.tmp 2))⟩, .none), (⟨(some 13), none, (.load false 1 (.tmp 12))⟩, .none), (⟨(some 14), none, (.faddr 4 (.tmp 3))⟩, .none), (⟨(some 15), none, (.load false 1 (.tmp 14))⟩, .none), (⟨(some 16), none, (.bin .eql (.tmp 13) (.tmp 15))⟩, .none), (⟨(some 17), none, (.mov (.tmp 16))⟩, .none), (⟨(some 18), (some (17, true)), (.faddr 1 (.tmp 2))⟩, .none), (⟨(some 19), (some (17, true)), (.load false 1 (.tmp 18))⟩, .none), (⟨(some 20), (some (17, true)), (.faddr 5 (.tmp 3))⟩, .none), (⟨(some 21), (some (17, true)), (.load false 1 (.tmp 20))⟩, .none), (⟨(some 22), (some (17, true)), (.bin .eql (.tmp 19) (.tmp 21))⟩, .none), (⟨(some 23), none, (.pick (.tmp 17) (.tmp 22) (.const (.bool false)))⟩, .none)] [[], [0], [], [2], [1, 3], [4], [5], [6, 5], [5], [8, 5], [7, 9, 5], [5, 10]] false)
 (.cond (.tmp 23) (.region [(⟨(some 24), none, (.bslice 5 1 0 [(.int .u8 0)] [])⟩, (.ty (.int .u8))), (⟨(some 25), none, (.faddr 2 (.tmp 2))⟩, .none), (⟨(some 26), none, (.load false 1 (.tmp 25))⟩, .none), (⟨(some 27), none, (.app 5 1 [(.int .u8 0)] 1 (.tmp 24) (.tmp 26))⟩, (.ty (.int .u8))), (⟨(some 28), none, (.faddr 2 (.tmp 6))⟩, .none), (⟨none, none, (.store 1 (.tmp 28) (.tmp 27))⟩, .none)] [[], [], [1], [0, 2], [0, 1, 2, 3], [4, 3, 3, 0, 1, 2, 3]] false) .skip))
 (.seq (.seq (.region [(⟨(some 29), none, (.faddr 9 (.tmp 3))⟩, .none), (⟨(some 30), none, (.load false 1 (.tmp 29))⟩, .none), (⟨(some 31), none, (.faddr 2 (.tmp 6))⟩, .none), (⟨(some 32), none, (.load false 1 (.tmp 31))⟩, .none), (⟨(some 33), none, (.len false (.tmp 32))⟩, .none), (⟨(some 34), none, (.conv .u64 (.tmp 33))⟩, .none), (⟨(some 35), none, (.bin .neq (.tmp 30) (.tmp 34))⟩, .none)] [[], [0], [], [2], [3], [4], [1, 5]] false) (.cond (.tmp 35) (.seq (.region [(⟨(some 36), none, (.load true 3 (.tmp 6))⟩, .none), (⟨none, none, (.store 3 (.tmp 4) (.tmp 36))⟩, .none), (⟨(some 5), none, (.mov (.const (.bool false)))⟩, .none)] [[], [0, 0], [1, 0, 1]] false) .ret) .skip)) (.seq (.region [(⟨(some 37), none, (.faddr 2 (.tmp 6))⟩, .none), (⟨(some 38), none, (.load false 1 (.tmp 37))⟩, .none), (⟨(some 39), none, (.faddr 12 (.tmp 3))⟩, .none), (⟨(some 40), none, (.load false 1 (.tmp 39))⟩, .none), (⟨(some 41), none, (.app 5 1 [(.int .u8 0)] 1 (.tmp 38) (.tmp 40))⟩, (.ty (.int .u8))), (⟨(some 42), none, (.faddr 2 (.tmp 6))⟩, .none), (⟨none, none, (.store 1 (.tmp 42) (.tmp 41))⟩, .none)] [[], [0], [], [2], [1, 3], [0, 1, 2, 3, 4], [5, 4, 4, 0, 1, 2, 3, 4]] false) (.seq (.region [(⟨(some 43), none, (.load true 3 (.tmp 6))⟩, .none), (⟨(some 44), none, (.faddr 13 (.tmp 3))⟩, .none), (⟨(some 45), none, (.load false 1 (.tmp 44))⟩, .none), (⟨none, none, (.store 3 (.tmp 4) (.tmp 43))⟩, .none), (⟨(some 5), none, (.mov (.tmp 45))⟩, .none)] [[], [], [1], [0, 0], [2, 3, 0, 1, 2, 3]] true) .ret))))))
set_option maxRecDepth 1000000 in
theorem v16 (fu : Nat) : evF fu (d16 fu) rs16 46 (e16 fu).ash (e16 fu).osh (e16 fu).vsh = p16 fu := by kernel_rfl
set_option maxRecDepth 1000000 in
theorem b16 (fu : Nat) : BodyD Try.prog 16 46 (d16 fu).erase rs16 := bodyD_mk Try.func16 (by kernel_rfl) (by kernel_rfl) (by kernel_rfl) (by kernel_rfl)
theorem g16 (fu : Nat) : (e16 fu).Good Try.prog := good_by orders (b16 fu) (l := []) (by kernel_rfl) trivial (by kernel_rfl) (v16 fu)
def rs17 : List RVx := [(.cell 4 true 5)]
/-- gazette/raftsnap.Whole -/
def p17 (fu : Nat) : ((Int) × ((Int) × ((List (Int)) × (Unit)))) × (((List (Int)) × ((List (Int)) × (Unit))) × (Unit)) → Option ((Unit) × ((Int) × ((Int) × ((List (Int)) × ((List (Int)) × ((List (Int)) × (Unit))))))) := fun ⟨⟨a0, a1, a2, _⟩, ⟨a3, a4, _⟩, _⟩ =>
  Option.bind (p20 fu ((a3, a4, ()), ())) fun ⟨_, ⟨r31, r31_1, _⟩⟩ =>
  Option.bind (p21 fu (a2, ())) fun ⟨_, r32⟩ =>
  bif decide (List.length r31 = List.length r31) then
   bif decide (List.length r31_1 = List.length r31_1) then
    bif decide (List.length r32 = List.length r32) then
     some ((), (a0, a1, r31, r31_1, r32, ()))
    else none
   else none
  else none
def e17 (fu : Nat) : Ent := ⟨17, (.cons (.agg 3 (.cons (.hole (.int .u64)) (.cons (.hole (.int .u64)) (.cons (.hole (.sl (.int .u8))) .nil)))) (.cons (.agg 2 (.cons (.hole (.sl (.int .i64))) (.cons (.hole (.sl (.int .i64))) .nil))) .nil)), .nil, (.agg 5 (.cons (.hole (.int .u64)) (.cons (.hole (.int .u64)) (.cons (.own .own 3 (.int .i64)) (.cons (.own .own 3 (.int .i64)) (.cons (.own .own 5 (.int .u8)) .nil)))))), p17 fu⟩
def d17 (fu : Nat) : DC := (.seq (.region [(⟨(some 2), none, (.box 43 3 (.tmp 0))⟩, .none), (⟨(some 3), none, (.box 25 2 (.tmp 1))⟩, .none), (⟨(some 4), none, (.alloc 28 5 [(.int .u64 0), (.int .u64 0), (.slice none 0 0), (.slice none 0 0), (.slice none 0 0)])⟩, .none)] [[], [], []] false) (.seq (.region [(⟨(some 5), none, (.faddr 0 (.tmp 2))⟩, .none), (⟨(some 6), none, (.load false 1 (.tmp 5))⟩, .none), (⟨(some 7), none, (.faddr 1 (.tmp 2))⟩, .none), (⟨(some 8), none, (.load false 1 (.tmp 7))⟩, .none), (⟨(some 9), none, (.load true 2 (.tmp 3))⟩, .none), (⟨(some 10), none, (.call 20 [(.tmp 9)])⟩, (.ent (e20 fu))), (⟨(some 11), none, (.faddr 2 (.tmp 2))⟩, .none), (⟨(some 12), none, (.load false 1 (.tmp 11))⟩, .none), (⟨(some 13), none, (.call 21 [(.tmp 12)])⟩, (.ent (e21 fu))), (⟨(some 14), none, (.build 5 [(.int .u64 0), (.int .u64 0), (.slice none 0 0), (.slice none 0 0), (.slice none 0 0)] [(0, (1, (.tmp 6))), (1, (1, (.tmp 8))), (2, (2, (.tmp 10))), (4, (1, (.tmp 13)))])⟩, .none), (⟨none, none, (.store 5 (.tmp 4) (.tmp 14))⟩, .none)] [[], [0], [], [2], [], [4], [], [6], [7, 5], [1, 3, 5, 8], [9, 8, 0, 1, 2, 3, 4, 5, 6, 7, 8, 9]] true) .ret))
set_option maxRecDepth 1000000 in
theorem v17 (fu : Nat) : evF fu (d17 fu) rs17 15 (e17 fu).ash (e17 fu).osh (e17 fu).vsh = p17 fu := by kernel_rfl
set_option maxRecDepth 1000000 in
theorem b17 (fu : Nat) : BodyD Try.prog 17 15 (d17 fu).erase rs17 := bodyD_mk Try.func17 (by kernel_rfl) (by kernel_rfl) (by kernel_rfl) (by kernel_rfl)
theorem g17 (fu : Nat) : (e17 fu).Good Try.prog := good_by orders (b17 fu) (l := [e20 fu, e21 fu]) (by kernel_rfl) ⟨g20 fu, g21 fu, trivial⟩ (by kernel_rfl) (v17 fu)
def rs19 : List RVx := [(.cell 2 true 2)]
/-- gazette/gazetteref06.CloneConf -/
def p19 (fu : Nat) : ((List (Int)) × ((List (Int)) × (Unit))) × (Unit) → Option ((Unit) × ((List (Int)) × ((List (Int)) × (Unit)))) := fun ⟨⟨a0, a1, _⟩, _⟩ =>
  bif decide (0 = List.length ([] : List (Int))) then
   bif decide (List.length ([] : List (Int)) + List.length a0 ≤ maxLen ∧ (List.length ([] : List (Int)) + List.length a0) * 8 ≤ 140737488355328) then
    bif decide (0 = List.length ([] : List (Int))) then
     bif decide (List.length ([] : List (Int)) + List.length a1 ≤ maxLen ∧ (List.length ([] : List (Int)) + List.length a1) * 8 ≤ 140737488355328) then
      bif decide (List.length (([] : List (Int)) ++ a0) = List.length (([] : List (Int)) ++ a0)) then
       bif decide (List.length (([] : List (Int)) ++ a1) = List.length (([] : List (Int)) ++ a1)) then
        some ((), ((([] : List (Int)) ++ a0), (([] : List (Int)) ++ a1), ()))
       else none
      else none
     else none
    else none
   else none
  else none
def e19 (fu : Nat) : Ent := ⟨19, (.cons (.agg 2 (.cons (.hole (.sl (.int .i64))) (.cons (.hole (.sl (.int .i64))) .nil))) .nil), .nil, (.agg 2 (.cons (.own .own 3 (.int .i64)) (.cons (.own .own 3 (.int .i64)) .nil))), p19 fu⟩
def d19 (fu : Nat) : DC := (.seq (.region [(⟨(some 1), none, (.box 25 2 (.tmp 0))⟩, .none), (⟨(some 2), none, (.alloc 25 2 [(.slice none 0 0), (.slice none 0 0)])⟩, .none)] [[], []] false) (.seq (.region [(⟨(some 3), none, (.bslice 3 1 0 [(.int .i64 0)] [])⟩, (.ty (.int .i64))), (⟨(some 4), none, (.faddr 0 (.tmp 1))⟩, .none), (⟨(some 5), none, (.load false 1 (.tmp 4))⟩, .none), (⟨(some 6), none, (.app 3 1 [(.int .i64 0)] 8 (.tmp 3) (.tmp 5))⟩, (.ty (.int .i64))), (⟨(some 7), none, (.bslice 3 1 0 [(.int .i64 0)] [])⟩, (.ty (.int .i64))), (⟨(some 8), none, (.faddr 1 (.tmp 1))⟩, .none), (⟨(some 9), none, (.load false 1 (.tmp 8))⟩, .none), (⟨(some 10), none, (.app 3 1 [(.int .i64 0)] 8 (.tmp 7) (.tmp 9))⟩, (.ty (.int .i64))), (⟨(some 11), none, (.build 2 [(.slice none 0 0), (.slice none 0 0)] [(0, (1, (.tmp 6))), (1, (1, (.tmp 10)))])⟩, .none), (⟨none, none, (.store 2 (.tmp 2) (.tmp 11))⟩, .none)] [[], [], [1], [0, 2], [], [], [5], [4, 6, 3], [3, 7], [8, 7, 0, 1, 2, 3, 4, 5, 6, 7, 8]] true) .ret))
set_option maxRecDepth 1000000 in
theorem v19 (fu : Nat) : evF fu (d19 fu) rs19 12 (e19 fu).ash (e19 fu).osh (e19 fu).vsh = p19 fu := by kernel_rfl
set_option maxRecDepth 1000000 in
theorem b19 (fu : Nat) : BodyD Try.prog 19 12 (d19 fu).erase rs19 := bodyD_mk Try.func19 (by kernel_rfl) (by kernel_rfl) (by kernel_rfl) (by kernel_rfl)
theorem g19 (fu : Nat) : (e19 fu).Good Try.prog := good_by orders (b19 fu) (l := []) (by kernel_rfl) trivial (by kernel_rfl) (v19 fu)
def rs18 : List RVx := [(.cell 4 true 5)]
/-- gazette/gazetteref09.Whole -/
def p18 (fu : Nat) : ((Int) × ((Int) × ((List (Int)) × (Unit)))) × (((List (Int)) × ((List (Int)) × (Unit))) × (Unit)) → Option ((Unit) × ((Int) × ((Int) × ((List (Int)) × ((List (Int)) × ((List (Int)) × (Unit))))))) := fun ⟨⟨a0, a1, a2, _⟩, ⟨a3, a4, _⟩, _⟩ =>
  Option.bind (p19 fu ((a3, a4, ()), ())) fun ⟨_, ⟨r35, r35_1, _⟩⟩ =>
  bif decide (0 = List.length ([] : List (Int))) then
   bif decide (List.length ([] : List (Int)) + List.length a2 ≤ maxLen ∧ (List.length ([] : List (Int)) + List.length a2) * 1 ≤ 140737488355328) then
    bif decide (List.length r35 = List.length r35) then
     bif decide (List.length r35_1 = List.length r35_1) then
      bif decide (List.length (([] : List (Int)) ++ a2) = List.length (([] : List (Int)) ++ a2)) then
       some ((), (a0, a1, r35, r35_1, (([] : List (Int)) ++ a2), ()))
      else none
     else none
    else none
   else none
  else none
def e18 (fu : Nat) : Ent := ⟨18, (.cons (.agg 3 (.cons (.hole (.int .u64)) (.cons (.hole (.int .u64)) (.cons (.hole (.sl (.int .u8))) .nil)))) (.cons (.agg 2 (.cons (.hole (.sl (.int .i64))) (.cons (.hole (.sl (.int .i64))) .nil))) .nil)), .nil, (.agg 5 (.cons (.hole (.int .u64)) (.cons (.hole (.int .u64)) (.cons (.own .own 3 (.int .i64)) (.cons (.own .own 3 (.int .i64)) (.cons (.own .own 5 (.int .u8)) .nil)))))), p18 fu⟩
def d18 (fu : Nat) : DC := (.seq (.region [(⟨(some 2), none, (.box 43 3 (.tmp 0))⟩, .none), (⟨(some 3), none, (.box 25 2 (.tmp 1))⟩, .none), (⟨(some 4), none, (.alloc 28 5 [(.int .u64 0), (.int .u64 0), (.slice none 0 0), (.slice none 0 0), (.slice none 0 0)])⟩, .none)] [[], [], []] false) (.seq (.region [(⟨(some 5), none, (.faddr 0 (.tmp 2))⟩, .none), (⟨(some 6), none, (.load false 1 (.tmp 5))⟩, .none), (⟨(some 7), none, (.faddr 1 (.tmp 2))⟩, .none), (⟨(some 8), none, (.load false 1 (.tmp 7))⟩, .none), (⟨(some 9), none, (.load true 2 (.tmp 3))⟩, .none), (⟨(some 10), none, (.call 19 [(.tmp 9)])⟩, (.ent (e19 fu))), (⟨(some 11), none, (.bslice 5 1 0 [(.int .u8 0)] [])⟩, (.ty (.int .u8))), (⟨(some 12), none, (.faddr 2 (.tmp 2))⟩, .none), (⟨(some 13), none, (.load false 1 (.tmp 12))⟩, .none), (⟨(some 14), none, (.app 5 1 [(.int .u8 0)] 1 (.tmp 11) (.tmp 13))⟩, (.ty (.int .u8))), (⟨(some 15), none, (.build 5 [(.int .u64 0), (.int .u64 0), (.slice none 0 0), (.slice none 0 0), (.slice none 0 0)] [(0, (1, (.tmp 6))), (1, (1, (.tmp 8))), (2, (2, (.tmp 10))), (4, (1, (.tmp 14)))])⟩, .none), (⟨none, none, (.store 5 (.tmp 4) (.tmp 15))⟩, .none)] [[], [0], [], [2], [], [4], [], [], [7], [6, 8, 5], [1, 3, 5, 9], [10, 9, 0, 1, 2, 3, 4, 5, 6, 7, 8, 9, 10]] true) .ret))
set_option maxRecDepth 1000000 in
theorem v18 (fu : Nat) : evF fu (d18 fu) rs18 16 (e18 fu).ash (e18 fu).osh (e18 fu).vsh = p18 fu := by kernel_rfl
set_option maxRecDepth 1000000 in
theorem b18 (fu : Nat) : BodyD Try.prog 18 16 (d18 fu).erase rs18 := bodyD_mk Try.func18 (by kernel_rfl) (by kernel_rfl) (by kernel_rfl) (by kernel_rfl)
theorem g18 (fu : Nat) : (e18 fu).Good Try.prog := good_by orders (b18 fu) (l := [e19 fu]) (by kernel_rfl) ⟨g19 fu, trivial⟩ (by kernel_rfl) (v18 fu)
def rs25 : List RVx := [(.tmp 4)]
/-- gazette/gazetteref06.sameInts -/
def p25 (fu : Nat) : (List (Int)) × ((List (Int)) × (Unit)) → Option ((Unit) × (Bool)) := fun ⟨a0, a1, _⟩ =>
  bif ((List.length a0 : Int) != (List.length a1 : Int)) then
   some ((), false)
  else
   loopO (S := ((Int) × (Unit)) × (Unit)) fu (fun ⟨⟨v5, _⟩, _⟩ =>
     bif decide (v5 < (List.length a0 : Int)) then
      bif decide ((0 : Int) ≤ v5 ∧ v5 < (List.length a0 : Int)) then
       bif decide (Int.toNat v5 < List.length a0) then
        bif decide ((0 : Int) ≤ v5 ∧ v5 < (List.length a1 : Int)) then
         bif decide (Int.toNat v5 < List.length a1) then
          bif ((List.getD a0 (Int.toNat v5) (dflt (.int .i64))) != (List.getD a1 (Int.toNat v5) (dflt (.int .i64)))) then
           inrO (some ((), false))
          else
           some (.inl ((IntKind.wrap .i64 (v5 + (1 : Int)), ()), ()))
         else none
        else none
       else none
      else none
     else
      inrO (some ((), true)))
    (((0 : Int), ()), ())
def e25 (fu : Nat) : Ent := ⟨25, (.cons (.hole (.sl (.int .i64))) (.cons (.hole (.sl (.int .i64))) .nil)), .nil, (.hole .bool), p25 fu⟩
def d25 (fu : Nat) : DC := (.seq (.region [(⟨(some 4), none, (.mov (.const (.bool false)))⟩, .none)] [[]] false) (.seq (.seq (.region [(⟨(some 6), none, (.mov (.tmp 0))⟩, .none), (⟨(some 7), none, (.len false (.tmp 6))⟩, .none), (⟨(some 8), none, (.mov (.tmp 1))⟩, .none), (⟨(some 9), none, (.len false (.tmp 8))⟩, .none), (⟨(some 10), none, (.bin .neq (.tmp 7) (.tmp 9))⟩, .none)] [[], [0], [], [2], [1, 3]] false) (.cond (.tmp 10) (.seq (.region [(⟨(some 4), none, (.mov (.const (.bool false)))⟩, .none)] [[]] false) .ret) .skip)) (.seq (.seq (.region [(⟨(some 5), none, (.mov (.const (.int .i64 0)))⟩, .none)] [[]] false) (.block 0 (.loop ⟨[5], (.cons (.hole (.int .i64)) .nil), [], .nil, [0, 1], []⟩
 (.seq (.seq (.region [(⟨(some 11), none, (.mov (.tmp 5))⟩, .none), (⟨(some 12), none, (.mov (.tmp 0))⟩, .none), (⟨(some 13), none, (.len false (.tmp 12))⟩, .none), (⟨(some 14), none, (.bin .lss (.tmp 11) (.tmp 13))⟩, .none)] [[], [], [1], [0, 2]] false) (.cond (.tmp 14) .skip (.exit 0))) (.seq (.block 1 (.seq (.region [(⟨(some 17), none, (.mov (.tmp 0))⟩, .none), (⟨(some 18), none, (.mov (.tmp 5))⟩, .none), (⟨(some 19), none, (.iaddr 1 (.tmp 17) (.tmp 18))⟩, .none), (⟨(some 20), none, (.load false 1 (.tmp 19))⟩, .none), (⟨(some 21), none, (.mov (.tmp 1))⟩, .none), (⟨(some 22), none, (.mov (.tmp 5))⟩, .none), (⟨(some 23), none, (.iaddr 1 (.tmp 21) (.tmp 22))⟩, .none), (⟨(some 24), none, (.load false 1 (.tmp 23))⟩, .none), (⟨(some 25), none, (.bin .neq (.tmp 20) (.tmp 24))⟩, .none)] [[], [], [0, 1], [2], [], [], [4, 5], [6], [3, 7]] true) (.cond (.tmp 25) (.seq (.region [(⟨(some 4), none, (.mov (.const (.bool false)))⟩, .none)] [[]] false) .ret) .skip))) (.region [(⟨(some 15), none, (.mov (.tmp 5))⟩, .none), (⟨(some 16), none, (.bin .add (.tmp 15) (.const (.int .i64 1)))⟩, .none), (⟨(some 5), none, (.mov (.tmp 16))⟩, .none)] [[], [0], [1, 0, 1]] false)))))) (.seq (.region [(⟨(some 4), none, (.mov (.const (.bool true)))⟩, .none)] [[]] false) .ret))))
set_option maxRecDepth 1000000 in
theorem v25 (fu : Nat) : evF fu (d25 fu) rs25 26 (e25 fu).ash (e25 fu).osh (e25 fu).vsh = p25 fu := by kernel_rfl
set_option maxRecDepth 1000000 in
theorem b25 (fu : Nat) : BodyD Try.prog 25 26 (d25 fu).erase rs25 := bodyD_mk Try.func25 (by kernel_rfl) (by kernel_rfl) (by kernel_rfl) (by kernel_rfl)
theorem g25 (fu : Nat) : (e25 fu).Good Try.prog := good_by orders (b25 fu) (l := []) (by kernel_rfl) trivial (by kernel_rfl) (v25 fu)
def rs22 : List RVx := [(.tmp 4)]
/-- gazette/gazetteref06.SameConf -/
def p22 (fu : Nat) : ((List (Int)) × ((List (Int)) × (Unit))) × (((List (Int)) × ((List (Int)) × (Unit))) × (Unit)) → Option ((Unit) × (Bool)) := fun ⟨⟨a0, a1, _⟩, ⟨a2, a3, _⟩, _⟩ =>
  Option.bind (p25 fu (a0, a2, ())) fun ⟨_, r39⟩ =>
  Option.bind (p25 fu (a1, a3, ())) fun ⟨_, r40⟩ =>
  bif r39 then
   some ((), r40)
  else
   some ((), false)
def e22 (fu : Nat) : Ent := ⟨22, (.cons (.agg 2 (.cons (.hole (.sl (.int .i64))) (.cons (.hole (.sl (.int .i64))) .nil))) (.cons (.agg 2 (.cons (.hole (.sl (.int .i64))) (.cons (.hole (.sl (.int .i64))) .nil))) .nil)), .nil, (.hole .bool), p22 fu⟩
def d22 (fu : Nat) : DC := (.seq (.region [(⟨(some 2), none, (.box 25 2 (.tmp 0))⟩, .none), (⟨(some 3), none, (.box 25 2 (.tmp 1))⟩, .none), (⟨(some 4), none, (.mov (.const (.bool false)))⟩, .none)] [[], [], []] false) (.seq (.region [(⟨(some 7), none, (.faddr 0 (.tmp 2))⟩, .none), (⟨(some 8), none, (.load false 1 (.tmp 7))⟩, .none), (⟨(some 9), none, (.faddr 0 (.tmp 3))⟩, .none), (⟨(some 10), none, (.load false 1 (.tmp 9))⟩, .none), (⟨(some 11), none, (.call 25 [(.tmp 8), (.tmp 10)])⟩, (.ent (e25 fu))), (⟨(some 5), none, (.mov (.tmp 11))⟩, .none)] [[], [0], [], [2], [1, 3], [4, 4, 0, 1, 2, 3, 4]] false) (.seq (.region [(⟨(some 12), none, (.faddr 1 (.tmp 2))⟩, .none), (⟨(some 13), none, (.load false 1 (.tmp 12))⟩, .none), (⟨(some 14), none, (.faddr 1 (.tmp 3))⟩, .none), (⟨(some 15), none, (.load false 1 (.tmp 14))⟩, .none), (⟨(some 16), none, (.call 25 [(.tmp 13), (.tmp 15)])⟩, (.ent (e25 fu))), (⟨(some 6), none, (.mov (.tmp 16))⟩, .none)] [[], [0], [], [2], [1, 3], [4, 4, 0, 1, 2, 3, 4]] false) (.seq (.region [(⟨(some 17), none, (.mov (.tmp 5))⟩, .none), (⟨(some 18), none, (.mov (.tmp 17))⟩, .none), (⟨(some 19), (some (18, true)), (.mov (.tmp 6))⟩, .none), (⟨(some 20), none, (.pick (.tmp 18) (.tmp 19) (.const (.bool false)))⟩, .none), (⟨(some 4), none, (.mov (.tmp 20))⟩, .none)] [[], [0], [1], [1, 2], [3, 1, 0, 1, 2, 3]] false) .ret))))
set_option maxRecDepth 1000000 in
theorem v22 (fu : Nat) : evF fu (d22 fu) rs22 21 (e22 fu).ash (e22 fu).osh (e22 fu).vsh = p22 fu := by kernel_rfl
set_option maxRecDepth 1000000 in
theorem b22 (fu : Nat) : BodyD Try.prog 22 21 (d22 fu).erase rs22 := bodyD_mk Try.func22 (by kernel_rfl) (by kernel_rfl) (by kernel_rfl) (by kernel_rfl)
theorem g22 (fu : Nat) : (e22 fu).Good Try.prog := good_by orders (b22 fu) (l := [e25 fu, e25 fu]) (by kernel_rfl) ⟨g25 fu, g25 fu, trivial⟩ (by kernel_rfl) (v22 fu)
def rs12 : List RVx := [(.tmp 4)]
/-- gazette/gazetteref06.SameSnap -/
def p12 (fu : Nat) : ((Int) × ((Int) × ((List (Int)) × ((List (Int)) × ((List (Int)) × (Unit)))))) × (((Int) × ((Int) × ((List (Int)) × ((List (Int)) × ((List (Int)) × (Unit)))))) × (Unit)) → Option ((Unit) × (Bool)) := fun ⟨⟨a0, a1, a2, a3, a4, _⟩, ⟨a5, a6, a7, a8, a9, _⟩, _⟩ =>
  Option.bind (p22 fu ((a2, a3, ()), (a7, a8, ()), ())) fun ⟨_, r42⟩ =>
  bif r42 then
   bif (a0 == a5) then
    bif (a1 == a6) then
     some ((), ByteArray.toList (strOfNums a4) == ByteArray.toList (strOfNums a9))
    else
     some ((), false)
   else
    some ((), false)
  else
   some ((), false)
def e12 (fu : Nat) : Ent := ⟨12, (.cons (.agg 5 (.cons (.hole (.int .u64)) (.cons (.hole (.int .u64)) (.cons (.hole (.sl (.int .i64))) (.cons (.hole (.sl (.int .i64))) (.cons (.hole (.sl (.int .u8))) .nil)))))) (.cons (.agg 5 (.cons (.hole (.int .u64)) (.cons (.hole (.int .u64)) (.cons (.hole (.sl (.int .i64))) (.cons (.hole (.sl (.int .i64))) (.cons (.hole (.sl (.int .u8))) .nil)))))) .nil)), .nil, (.hole .bool), p12 fu⟩
def d12 (fu : Nat) : DC := (.seq (.region [(⟨(some 2), none, (.box 28 5 (.tmp 0))⟩, .none), (⟨(some 3), none, (.box 28 5 (.tmp 1))⟩, .none), (⟨(some 4), none, (.mov (.const (.bool false)))⟩, .none)] [[], [], []] false) (.seq (.region [(⟨(some 6), none, (.faddr 2 (.tmp 2))⟩, .none), (⟨(some 7), none, (.load true 2 (.tmp 6))⟩, .none), (⟨(some 8), none, (.faddr 2 (.tmp 3))⟩, .none), (⟨(some 9), none, (.load true 2 (.tmp 8))⟩, .none), (⟨(some 10), none, (.call 22 [(.tmp 7), (.tmp 9)])⟩, (.ent (e22 fu))), (⟨(some 5), none, (.mov (.tmp 10))⟩, .none)] [[], [0], [], [2], [1, 3], [4, 4, 0, 1, 2, 3, 4]] false) (.seq (.region [(⟨(some 11), none, (.mov (.tmp 5))⟩, .none), (⟨(some 12), none, (.mov (.tmp 11))⟩, .none), (⟨(some 13), (some (12, true)), (.faddr 0 (.tmp 2))⟩, .none), (⟨(some 14), (some (12, true)), (.load false 1 (.tmp 13))⟩, .none), (⟨(some 15), (some (12, true)), (.faddr 0 (.tmp 3))⟩, .none), (⟨(some 16), (some (12, true)), (.load false 1 (.tmp 15))⟩, .none), (⟨(some 17), (some (12, true)), (.bin .eql (.tmp 14) (.tmp 16))⟩, .none), (⟨(some 18), none, (.pick (.tmp 12) (.tmp 17) (.const (.bool false)))⟩, .none), (⟨(some 19), none, (.mov (.tmp 18))⟩, .none), (⟨(some 20), (some (19, true)), (.faddr 1 (.tmp 2))⟩, .none), (⟨(some 21), (some (19, true)), (.load false 1 (.tmp 20))⟩, .none), (⟨(some 22), (some (19, true)), (.faddr 1 (.tmp 3))⟩, .none), (⟨(some 23), (some (19, true)), (.load false 1 (.tmp 22))⟩, .none), (⟨(some 24), (some (19, true)), (.bin .eql (.tmp 21) (.tmp 23))⟩, .none), (⟨(some 25), none, (.pick (.tmp 19) (.tmp 24) (.const (.bool false)))⟩, .none), (⟨(some 26), none, (.mov (.tmp 25))⟩, .none), (⟨(some 27), (some (26, true)), (.faddr 4 (.tmp 2))⟩, .none), (⟨(some 28), (some (26, true)), (.load false 1 (.tmp 27))⟩, .none), (⟨(some 29), (some (26, true)), (.b2s (.tmp 28))⟩, .none), (⟨(some 30), (some (26, true)), (.faddr 4 (.tmp 3))⟩, .none), (⟨(some 31), (some (26, true)), (.load false 1 (.tmp 30))⟩, .none), (⟨(some 32), (some (26, true)), (.b2s (.tmp 31))⟩, .none), (⟨(some 33), (some (26, true)), (.bin .eql (.tmp 29) (.tmp 32))⟩, .none), (⟨(some 34), none, (.pick (.tmp 26) (.tmp 33) (.const (.bool false)))⟩, .none), (⟨(some 4), none, (.mov (.tmp 34))⟩, .none)] [[], [0], [1], [2, 1], [1], [4, 1], [3, 5, 1], [1, 6], [7, 1], [8], [9, 8], [8], [11, 8], [10, 12, 8], [8, 13], [14, 8], [15], [16, 15], [17, 15], [15], [19, 15], [20, 15], [18, 21, 15], [15, 22], [23, 15, 0, 1, 2, 3, 4, 5, 6, 7, 8, 9, 10, 11, 12, 13, 14, 15, 16, 17, 18, 19, 20, 21, 22, 23]] false) .ret)))
set_option maxRecDepth 1000000 in
theorem v12 (fu : Nat) : evF fu (d12 fu) rs12 35 (e12 fu).ash (e12 fu).osh (e12 fu).vsh = p12 fu := by kernel_rfl
set_option maxRecDepth 1000000 in
theorem b12 (fu : Nat) : BodyD Try.prog 12 35 (d12 fu).erase rs12 := bodyD_mk Try.func12 (by kernel_rfl) (by kernel_rfl) (by kernel_rfl) (by kernel_rfl)
theorem g12 (fu : Nat) : (e12 fu).Good Try.prog := good_by orders (b12 fu) (l := [e22 fu]) (by kernel_rfl) ⟨g22 fu, trivial⟩ (by kernel_rfl) (v12 fu)
def rs4 : List RVx := [(.tmp 6)]
/-- gazette/gazettelaw09.RaftsnapTakes -/
def p4 (fu : Nat) : ((Int) × ((Int) × ((List (Int)) × (Unit)))) × ((List (D_api_Msg)) × (((List (Int)) × ((List (Int)) × (Unit))) × (Unit))) → Option ((Unit) × (Bool)) := fun ⟨⟨a0, a1, a2, _⟩, a3, ⟨a4, a5, _⟩, _⟩ =>
  Option.bind (p7 fu ()) fun ⟨_, r44⟩ =>
  bif decide (0 = List.length ([] : List (Int))) then
   bif decide (List.length ([] : List (Int)) + List.length a2 ≤ maxLen ∧ (List.length ([] : List (Int)) + List.length a2) * 1 ≤ 140737488355328) then
    bif decide (List.length (([] : List (Int)) ++ a2) = List.length (([] : List (Int)) ++ a2)) then
     bif decide (List.length (([] : List (Int)) ++ a2) = List.length (([] : List (Int)) ++ a2)) then
      loopO (S := ((Int) × (Unit)) × (((Int) × ((Int) × ((List (Int)) × (Unit)))) × (((Int) × ((Int) × ((List (Int)) × (Unit)))) × (Unit)))) fu (fun ⟨⟨v10, _⟩, ⟨⟨v1224, v1224_1, v1224_2, _⟩, ⟨v1272, v1272_1, v1272_2, _⟩, _⟩⟩ =>
        bif decide (v10 < (List.length a3 : Int)) then
         bif decide ((0 : Int) ≤ v10 ∧ v10 < (List.length a3 : Int)) then
          bif decide (Int.toNat v10 < List.length a3) then
           Option.bind (p15 fu ((v1224, v1224_1, v1224_2, ()), ((List.getD a3 (Int.toNat v10) (dflt T_api_Msg)).1, ((List.getD a3 (Int.toNat v10) (dflt T_api_Msg)).2).1, (((List.getD a3 (Int.toNat v10) (dflt T_api_Msg)).2).2).1, ((((List.getD a3 (Int.toNat v10) (dflt T_api_Msg)).2).2).2).1, (((((List.getD a3 (Int.toNat v10) (dflt T_api_Msg)).2).2).2).2).1, ((((((List.getD a3 (Int.toNat v10) (dflt T_api_Msg)).2).2).2).2).2).1, (((((((List.getD a3 (Int.toNat v10) (dflt T_api_Msg)).2).2).2).2).2).2).1, ((((((((List.getD a3 (Int.toNat v10) (dflt T_api_Msg)).2).2).2).2).2).2).2).1, (((((((((List.getD a3 (Int.toNat v10) (dflt T_api_Msg)).2).2).2).2).2).2).2).2).1, ((((((((((List.getD a3 (Int.toNat v10) (dflt T_api_Msg)).2).2).2).2).2).2).2).2).2).1, ((((((((((((List.getD a3 (Int.toNat v10) (dflt T_api_Msg)).2).2).2).2).2).2).2).2).2).2).1).1, ((((((((((((List.getD a3 (Int.toNat v10) (dflt T_api_Msg)).2).2).2).2).2).2).2).2).2).2).1).2, ((((((((((((List.getD a3 (Int.toNat v10) (dflt T_api_Msg)).2).2).2).2).2).2).2).2).2).2).2).1, ((((((((((((List.getD a3 (Int.toNat v10) (dflt T_api_Msg)).2).2).2).2).2).2).2).2).2).2).2).2, ()), ())) fun ⟨_, ⟨⟨r45, r45_1, r45_2, _⟩, r45_3, _⟩⟩ =>
           bif decide ((0 : Int) ≤ v10 ∧ v10 < (List.length a3 : Int)) then
            bif decide (Int.toNat v10 < List.length a3) then
             Option.bind (p16 fu ((v1272, v1272_1, v1272_2, ()), ((List.getD a3 (Int.toNat v10) (dflt T_api_Msg)).1, ((List.getD a3 (Int.toNat v10) (dflt T_api_Msg)).2).1, (((List.getD a3 (Int.toNat v10) (dflt T_api_Msg)).2).2).1, ((((List.getD a3 (Int.toNat v10) (dflt T_api_Msg)).2).2).2).1, (((((List.getD a3 (Int.toNat v10) (dflt T_api_Msg)).2).2).2).2).1, ((((((List.getD a3 (Int.toNat v10) (dflt T_api_Msg)).2).2).2).2).2).1, (((((((List.getD a3 (Int.toNat v10) (dflt T_api_Msg)).2).2).2).2).2).2).1, ((((((((List.getD a3 (Int.toNat v10) (dflt T_api_Msg)).2).2).2).2).2).2).2).1, (((((((((List.getD a3 (Int.toNat v10) (dflt T_api_Msg)).2).2).2).2).2).2).2).2).1, ((((((((((List.getD a3 (Int.toNat v10) (dflt T_api_Msg)).2).2).2).2).2).2).2).2).2).1, ((((((((((((List.getD a3 (Int.toNat v10) (dflt T_api_Msg)).2).2).2).2).2).2).2).2).2).2).1).1, ((((((((((((List.getD a3 (Int.toNat v10) (dflt T_api_Msg)).2).2).2).2).2).2).2).2).2).2).1).2, ((((((((((((List.getD a3 (Int.toNat v10) (dflt T_api_Msg)).2).2).2).2).2).2).2).2).2).2).2).1, ((((((((((((List.getD a3 (Int.toNat v10) (dflt T_api_Msg)).2).2).2).2).2).2).2).2).2).2).2).2, ()), ())) fun ⟨_, ⟨⟨r46, r46_1, r46_2, _⟩, r46_3, _⟩⟩ =>
             bif !(r45_3 == r46_3) then
              inrO (some ((), false))
             else
              bif (r45 != r46) then
               inrO (some ((), false))
              else
               bif (r45_1 != r46_1) then
                inrO (some ((), false))
               else
                bif decide (List.length r45_2 = List.length r45_2) then
                 bif decide (List.length r46_2 = List.length r46_2) then
                  bif !(ByteArray.toList (strOfNums r45_2) == ByteArray.toList (strOfNums r46_2)) then
                   inrO (some ((), false))
                  else
                   bif !(ByteArray.toList (strOfNums v1224_2) == ByteArray.toList (strOfNums v1272_2)) then
                    inrO (some ((), false))
                   else
                    bif decide (List.length r45_2 = List.length r45_2) then
                     bif decide (List.length r46_2 = List.length r46_2) then
                      some (.inl ((IntKind.wrap .i64 (v10 + (1 : Int)), ()), ((r45, r45_1, r45_2, ()), (r46, r46_1, r46_2, ()), ())))
                     else none
                    else none
                 else none
                else none
            else none
           else none
          else none
         else none
        else
         inrO (Option.bind (p17 fu ((v1224, v1224_1, v1224_2, ()), (a4, a5, ()), ())) fun ⟨_, ⟨r47, r47_1, r47_2, r47_3, r47_4, _⟩⟩ =>
         Option.bind (p18 fu ((v1272, v1272_1, v1272_2, ()), (a4, a5, ()), ())) fun ⟨_, ⟨r48, r48_1, r48_2, r48_3, r48_4, _⟩⟩ =>
         bif r44 then
          bif decide (List.length r47_2 = List.length r47_2) then
           bif decide (List.length r47_3 = List.length r47_3) then
            bif decide (List.length r47_4 = List.length r47_4) then
             bif decide (List.length r48_2 = List.length r48_2) then
              bif decide (List.length r48_3 = List.length r48_3) then
               bif decide (List.length r48_4 = List.length r48_4) then
                Option.bind (p12 fu ((r47, r47_1, r47_2, r47_3, r47_4, ()), (r48, r48_1, r48_2, r48_3, r48_4, ()), ())) fun ⟨_, r49⟩ =>
                some ((), r49)
               else none
              else none
             else none
            else none
           else none
          else none
         else
          some ((), false)))
       (((0 : Int), ()), ((a0, a1, (([] : List (Int)) ++ a2), ()), (a0, a1, (([] : List (Int)) ++ a2), ()), ()))
     else none
    else none
   else none
  else none
def e4 (fu : Nat) : Ent := ⟨4, (.cons (.agg 3 (.cons (.hole (.int .u64)) (.cons (.hole (.int .u64)) (.cons (.hole (.sl (.int .u8))) .nil)))) (.cons (.hole (.sl T_api_Msg)) (.cons (.agg 2 (.cons (.hole (.sl (.int .i64))) (.cons (.hole (.sl (.int .i64))) .nil))) .nil))), .nil, (.hole .bool), p4 fu⟩
def d4 (fu : Nat) : DC := (.seq (.region [(⟨(some 3), none, (.box 43 3 (.tmp 0))⟩, .none), (⟨(some 5), none, (.box 25 2 (.tmp 2))⟩, .none), (⟨(some 6), none, (.mov (.const (.bool false)))⟩, .none)] [[], [], []] false) (.seq (.region [(⟨(some 17), none, (.call 7 [])⟩, (.ent (e7 fu))), (⟨(some 7), none, (.mov (.tmp 17))⟩, .none)] [[], [0, 0, 0]] false) (.seq (.region [(⟨(some 18), none, (.faddr 0 (.tmp 3))⟩, .none), (⟨(some 19), none, (.load false 1 (.tmp 18))⟩, .none), (⟨(some 20), none, (.faddr 1 (.tmp 3))⟩, .none), (⟨(some 21), none, (.load false 1 (.tmp 20))⟩, .none), (⟨(some 22), none, (.bslice 5 1 0 [(.int .u8 0)] [])⟩, (.ty (.int .u8))), (⟨(some 23), none, (.faddr 2 (.tmp 3))⟩, .none), (⟨(some 24), none, (.load false 1 (.tmp 23))⟩, .none), (⟨(some 25), none, (.app 5 1 [(.int .u8 0)] 1 (.tmp 22) (.tmp 24))⟩, (.ty (.int .u8))), (⟨(some 26), none, (.build 3 [(.int .u64 0), (.int .u64 0), (.slice none 0 0)] [(0, (1, (.tmp 19))), (1, (1, (.tmp 21))), (2, (1, (.tmp 25)))])⟩, .none), (⟨(some 8), none, (.alloc 43 3 [(.int .u64 0), (.int .u64 0), (.slice none 0 0)])⟩, .none), (⟨none, none, (.store 3 (.tmp 8) (.tmp 26))⟩, .none)] [[], [0], [], [2], [], [], [5], [4, 6], [1, 3, 7], [], [9, 8, 7, 0, 1, 2, 3, 4, 5, 6, 7, 8, 9]] true) (.seq (.region [(⟨(some 27), none, (.load true 3 (.tmp 8))⟩, .none), (⟨(some 9), none, (.alloc 43 3 [(.int .u64 0), (.int .u64 0), (.slice none 0 0)])⟩, .none), (⟨none, none, (.store 3 (.tmp 9) (.tmp 27))⟩, .none)] [[], [], [1, 0, 0, 1]] false) (.seq (.seq (.region [(⟨(some 10), none, (.mov (.const (.int .i64 0)))⟩, .none)] [[]] false) (.block 0 (.loop ⟨[10], (.cons (.hole (.int .i64)) .nil), [(224, 43, 3), (272, 43, 3)], (.cons (.agg 3 (.cons (.hole (.int .u64)) (.cons (.hole (.int .u64)) (.cons (.hole (.sl (.int .u8))) .nil)))) (.cons (.agg 3 (.cons (.hole (.int .u64)) (.cons (.hole (.int .u64)) (.cons (.hole (.sl (.int .u8))) .nil)))) .nil)), [1, 5, 7, 8, 9], [16]⟩
 (.seq (.seq (.region [(⟨(some 28), none, (.mov (.tmp 10))⟩, .none), (⟨(some 29), none, (.mov (.tmp 1))⟩, .none), (⟨(some 30), none, (.len false (.tmp 29))⟩, .none), (⟨(some 31), none, (.bin .lss (.tmp 28) (.tmp 30))⟩, .none)] [[], [], [1], [0, 2]] false) (.cond (.tmp 31) .skip (.exit 0))) (.seq (.block 1 (.seq (.region [(⟨(some 35), none, (.load true 3 (.tmp 8))⟩, .none), (⟨(some 36), none, (.mov (.tmp 1))⟩, .none), (⟨(some 37), none, (.mov (.tmp 10))⟩, .none), (⟨(some 38), none, (.iaddr 14 (.tmp 36) (.tmp 37))⟩, .none), (⟨(some 39), none, (.load true 14 (.tmp 38))⟩, .none), (⟨(some 40), none, (.call 15 [(.tmp 35), (.tmp 39)])⟩, (.ent (e15 fu))), (⟨(some 34), none, (.mov (.tmp 40))⟩, .none), (⟨(some 41), none, (.ext (.tmp 34) 0)⟩, .none), (⟨(some 42), none, (.ext (.tmp 34) 1)⟩, .none), (⟨(some 11), none, (.alloc 43 3 [(.int .u64 0), (.int .u64 0), (.slice none 0 0)])⟩, .none), (⟨none, none, (.store 3 (.tmp 11) (.tmp 41))⟩, .none), (⟨(some 12), none, (.mov (.tmp 42))⟩, .none)] [[], [], [], [1, 2], [3], [0, 4], [5], [6], [6], [], [9, 7, 5, 0, 1, 2, 3, 4, 5, 6, 7, 9], [8, 10, 0, 1, 2, 3, 4, 5, 6, 7, 8, 9, 10]] true) (.seq (.region [(⟨(some 44), none, (.load true 3 (.tmp 9))⟩, .none), (⟨(some 45), none, (.mov (.tmp 1))⟩, .none), (⟨(some 46), none, (.mov (.tmp 10))⟩, .none), (⟨(some 47), none, (.iaddr 14 (.tmp 45) (.tmp 46))⟩, .none), (⟨(some 48), none, (.load true 14 (.tmp 47))⟩, .none), (⟨(some 49), none, (.call 16 [(.tmp 44), (.tmp 48)])⟩, (.ent (e16 fu))), (⟨(some 43), none, (.mov (.tmp 49))⟩, .none), (⟨(some 50), none, (.ext (.tmp 43) 0)⟩, .none), (⟨(some 51), none, (.ext (.tmp 43) 1)⟩, .none), (⟨(some 13), none, (.alloc 43 3 [(.int .u64 0), (.int .u64 0), (.slice none 0 0)])⟩, .none), (⟨none, none, (.store 3 (.tmp 13) (.tmp 50))⟩, .none), (⟨(some 14), none, (.mov (.tmp 51))⟩, .none)] [[], [], [], [1, 2], [3], [0, 4], [5], [6], [6], [], [9, 7, 5, 0, 1, 2, 3, 4, 5, 6, 7, 9], [8, 10, 0, 1, 2, 3, 4, 5, 6, 7, 8, 9, 10]] true) (.seq (.seq (.region [(⟨(some 52), none, (.mov (.tmp 12))⟩, .none), (⟨(some 53), none, (.mov (.tmp 14))⟩, .none), (⟨(some 54), none, (.beq true (.tmp 52) (.tmp 53))⟩, .none), (⟨(some 55), none, (.mov (.tmp 54))⟩, .none), (⟨(some 56), (some (55, false)), (.faddr 0 (.tmp 11))⟩, .none), (⟨(some 57), (some (55, false)), (.load false 1 (.tmp 56))⟩, .none), (⟨(some 58), (some (55, false)), (.faddr 0 (.tmp 13))⟩, .none), (⟨(some 59), (some (55, false)), (.load false 1 (.tmp 58))⟩, .none), (⟨(some 60), (some (55, false)), (.bin .neq (.tmp 57) (.tmp 59))⟩, .none), (⟨(some 61), none, (.pick (.tmp 55) (.const (.bool true)) (.tmp 60))⟩, .none), (⟨(some 62), none, (.mov (.tmp 61))⟩, .none), (⟨(some 63), (some (62, false)), (.faddr 1 (.tmp 11))⟩, .none), (⟨(some 64), (some (62, false)), (.load false 1 (.tmp 63))⟩, .none), (⟨(some 65), (some (62, false)), (.faddr 1 (.tmp 13))⟩, .none), (⟨(some 66), (some (62, false)), (.load false 1 (.tmp 65))⟩, .none), (⟨(some 67), (some (62, false)), (.bin .neq (.tmp 64) (.tmp 66))⟩, .none), (⟨(some 68), none, (.pick (.tmp 62) (.const (.bool true)) (.tmp 67))⟩, .none), (⟨(some 69), none, (.mov (.tmp 68))⟩, .none), (⟨(some 70), (some (69, false)), (.faddr 2 (.tmp 11))⟩, .none), (⟨(some 71), (some (69, false)), (.load false 1 (.tmp 70))⟩, .none), (⟨(some 72), (some (69, false)), (.b2s (.tmp 71))⟩, .none), (⟨(some 73), (some (69, false)), (.faddr 2 (.tmp 13))⟩, .none), (⟨(some 74), (some (69, false)), (.load false 1 (.tmp 73))⟩, .none), (⟨(some 75), (some (69, false)), (.b2s (.tmp 74))⟩, .none), (⟨(some 76), (some (69, false)), (.bin .neq (.tmp 72) (.tmp 75))⟩, .none), (⟨(some 77), none, (.pick (.tmp 69) (.const (.bool true)) (.tmp 76))⟩, .none), (⟨(some 78), none, (.mov (.tmp 77))⟩, .none), (⟨(some 79), (some (78, false)), (.faddr 2 (.tmp 8))⟩, .none), (⟨(some 80), (some (78, false)), (.load false 1 (.tmp 79))⟩, .none), (⟨(some 81), (some (78, false)), (.b2s (.tmp 80))⟩, .none), (⟨(some 82), (some (78, false)), (.faddr 2 (.tmp 9))⟩, .none), (⟨(some 83), (some (78, false)), (.load false 1 (.tmp 82))⟩, .none), (⟨(some 84), (some (78, false)), (.b2s (.tmp 83))⟩, .none), (⟨(some 85), (some (78, false)), (.bin .neq (.tmp 81) (.tmp 84))⟩, .none), (⟨(some 86), none, (.pick (.tmp 78) (.const (.bool true)) (.tmp 85))⟩, .none)] [[], [], [0, 1], [2], [3], [4, 3], [3], [6, 3], [5, 7, 3], [3, 8], [9, 3], [10], [11, 10], [10], [13, 10], [12, 14, 10], [10, 15], [16, 10], [17], [18, 17], [19, 17], [17], [21, 17], [22, 17], [20, 23, 17], [17, 24], [25, 17], [26], [27, 26], [28, 26], [26], [30, 26], [31, 26], [29, 32, 26], [26, 33]] false) (.cond (.tmp 86) (.seq (.region [(⟨(some 6), none, (.mov (.const (.bool false)))⟩, .none)] [[]] false) .ret) .skip)) (.seq (.region [(⟨(some 87), none, (.load true 3 (.tmp 11))⟩, .none), (⟨none, none, (.store 3 (.tmp 8) (.tmp 87))⟩, .none)] [[], [0, 0]] false) (.region [(⟨(some 88), none, (.load true 3 (.tmp 13))⟩, .none), (⟨none, none, (.store 3 (.tmp 9) (.tmp 88))⟩, .none)] [[], [0, 0]] false)))))) (.region [(⟨(some 32), none, (.mov (.tmp 10))⟩, .none), (⟨(some 33), none, (.bin .add (.tmp 32) (.const (.int .i64 1)))⟩, .none), (⟨(some 10), none, (.mov (.tmp 33))⟩, .none)] [[], [0], [1, 0, 1]] false)))))) (.seq (.region [(⟨(some 89), none, (.load true 3 (.tmp 8))⟩, .none), (⟨(some 90), none, (.load true 2 (.tmp 5))⟩, .none), (⟨(some 91), none, (.call 17 [(.tmp 89), (.tmp 90)])⟩, (.ent (e17 fu))), (⟨(some 15), none, (.alloc 28 5 [(.int .u64 0), (.int .u64 0), (.slice none 0 0), (.slice none 0 0), (.slice none 0 0)])⟩, .none), (⟨none, none, (.store 5 (.tmp 15) (.tmp 91))⟩, .none)] [[], [], [0, 1], [], [3, 2, 2, 0, 1, 2, 3]] false) (.seq (.region [(⟨(some 92), none, (.load true 3 (.tmp 9))⟩, .none), (⟨(some 93), none, (.load true 2 (.tmp 5))⟩, .none), (⟨(some 94), none, (.call 18 [(.tmp 92), (.tmp 93)])⟩, (.ent (e18 fu))), (⟨(some 16), none, (.alloc 28 5 [(.int .u64 0), (.int .u64 0), (.slice none 0 0), (.slice none 0 0), (.slice none 0 0)])⟩, .none), (⟨none, none, (.store 5 (.tmp 16) (.tmp 94))⟩, .none)] [[], [], [0, 1], [], [3, 2, 2, 0, 1, 2, 3]] false) (.seq (.region [(⟨(some 95), none, (.mov (.tmp 7))⟩, .none), (⟨(some 96), none, (.mov (.tmp 95))⟩, .none), (⟨(some 97), (some (96, true)), (.load true 5 (.tmp 15))⟩, .none), (⟨(some 98), (some (96, true)), (.load true 5 (.tmp 16))⟩, .none), (⟨(some 99), (some (96, true)), (.call 12 [(.tmp 97), (.tmp 98)])⟩, (.ent (e12 fu))), (⟨(some 100), none, (.pick (.tmp 96) (.tmp 99) (.const (.bool false)))⟩, .none), (⟨(some 6), none, (.mov (.tmp 100))⟩, .none)] [[], [0], [1], [1], [2, 3, 1, 1], [1, 4], [5, 4, 0, 1, 2, 3, 4, 5]] false) .ret))))))))
set_option maxRecDepth 1000000 in
theorem v4 (fu : Nat) : evF fu (d4 fu) rs4 101 (e4 fu).ash (e4 fu).osh (e4 fu).vsh = p4 fu := by kernel_rfl
set_option maxRecDepth 1000000 in
theorem b4 (fu : Nat) : BodyD Try.prog 4 101 (d4 fu).erase rs4 := bodyD_mk Try.func4 (by kernel_rfl) (by kernel_rfl) (by kernel_rfl) (by kernel_rfl)
theorem g4 (fu : Nat) : (e4 fu).Good Try.prog := good_by orders (b4 fu) (l := [e7 fu, e15 fu, e16 fu, e17 fu, e18 fu, e12 fu]) (by kernel_rfl) ⟨g7 fu, g15 fu, g16 fu, g17 fu, g18 fu, g12 fu, trivial⟩ (by kernel_rfl) (v4 fu)
def rs13 : List RVx := [(.tmp 2)]
/-- gazette/raftsnap.Pieces -/
def p13 (fu : Nat) : (Int) × (Unit) → Option ((Unit) × (Int)) := fun ⟨a0, _⟩ =>
  bif decide (a0 < (1 : Int)) then
   some ((), (1 : Int))
  else
   some ((), IntKind.wrap .i64 ((IntKind.wrap .i64 (Int.tdiv (IntKind.wrap .i64 (a0 - (1 : Int))) (64 : Int))) + (1 : Int)))
def e13 (fu : Nat) : Ent := ⟨13, (.cons (.hole (.int .i64)) .nil), .nil, (.hole (.int .i64)), p13 fu⟩
def d13 (fu : Nat) : DC := (.seq (.region [(⟨(some 2), none, (.mov (.const (.int .i64 0)))⟩, .none)] [[]] false) (.seq (.seq (.region [(⟨(some 3), none, (.mov (.tmp 0))⟩, .none), (⟨(some 4), none, (.bin .lss (.tmp 3) (.const (.int .i64 1)))⟩, .none)] [[], [0]] false) (.cond (.tmp 4) (.seq (.region [(⟨(some 2), none, (.mov (.const (.int .i64 1)))⟩, .none)] [[]] false) .ret) .skip)) (.seq (.region [(⟨(some 5), none, (.mov (.tmp 0))⟩, .none), (⟨(some 6), none, (.bin .sub (.tmp 5) (.const (.int .i64 1)))⟩, .none), (⟨(some 7), none, (.bin .quo (.tmp 6) (.const (.int .i64 64)))⟩, .none), (⟨(some 8), none, (.bin .add (.tmp 7) (.const (.int .i64 1)))⟩, .none), (⟨(some 2), none, (.mov (.tmp 8))⟩, .none)] [[], [0], [1], [2], [3, 0, 1, 2, 3]] false) .ret)))
set_option maxRecDepth 1000000 in
theorem v13 (fu : Nat) : evF fu (d13 fu) rs13 9 (e13 fu).ash (e13 fu).osh (e13 fu).vsh = p13 fu := by kernel_rfl
set_option maxRecDepth 1000000 in
theorem b13 (fu : Nat) : BodyD Try.prog 13 9 (d13 fu).erase rs13 := bodyD_mk Try.func13 (by kernel_rfl) (by kernel_rfl) (by kernel_rfl) (by kernel_rfl)
theorem g13 (fu : Nat) : (e13 fu).Good Try.prog := good_by orders (b13 fu) (l := []) (by kernel_rfl) trivial (by kernel_rfl) (v13 fu)
def rs6 : List RVx := [(.tmp 6)]
/-- gazette/gazettelaw09.RaftsnapOther -/
def p6 (fu : Nat) : ((Int) × ((Int) × ((List (Int)) × ((List (Int)) × ((List (Int)) × (Unit)))))) × (((Int) × ((Int) × ((List (Int)) × ((List (Int)) × ((List (Int)) × (Unit)))))) × ((Int) × (Unit))) → Option ((Unit) × (Bool)) := fun ⟨⟨a0, a1, a2, a3, a4, _⟩, ⟨a5, a6, a7, a8, a9, _⟩, a10, _⟩ =>
  Option.bind (p7 fu ()) fun ⟨_, r69⟩ =>
  orK (E := (Unit) × (Unit))
   (bif !r69 then
     inrO (some ((), r69))
    else
     bif (a0 == a5) then
      bif (a1 == a6) then
       inrO (some ((), r69))
      else
       some (.inl ((), ()))
     else
      some (.inl ((), ())))
   fun ⟨_, _⟩ =>
  orK (E := (Unit) × (((Int) × ((Int) × ((List (Int)) × (Unit)))) × (Unit)))
   (loopO (S := ((Int) × (Unit)) × (((Int) × ((Int) × ((List (Int)) × (Unit)))) × (Unit))) fu (fun ⟨⟨v9, _⟩, ⟨⟨v1096, v1096_1, v1096_2, _⟩, _⟩⟩ =>
      bif decide (v9 < a10) then
       Option.bind (p13 fu ((List.length a4 : Int), ())) fun ⟨_, r70⟩ =>
       bif decide (v9 < r70) then
        Option.bind (p9 fu ((a0, a1, a2, a3, a4, ()), IntKind.wrap .u64 ((List.length v1096_2) : Int), ())) fun ⟨_, ⟨⟨r71, r71_1, r71_2, r71_3, r71_4, r71_5, r71_6, r71_7, r71_8, r71_9, r71_10, r71_11, r71_12, r71_13, _⟩, r71_14, _⟩⟩ =>
        bif (r71_14 != (0 : Int)) then
         inrO (inrO (some ((), false)))
        else
         bif decide (List.length v1096_2 = List.length v1096_2) then
          bif decide (List.length r71_10 = List.length r71_10) then
           bif decide (List.length r71_11 = List.length r71_11) then
            bif decide (List.length r71_12 = List.length r71_12) then
             Option.bind (p15 fu ((v1096, v1096_1, v1096_2, ()), (r71, r71_1, r71_2, r71_3, r71_4, r71_5, r71_6, r71_7, r71_8, r71_9, r71_10, r71_11, r71_12, r71_13, ()), ())) fun ⟨_, ⟨⟨r72, r72_1, r72_2, _⟩, r72_3, _⟩⟩ =>
             bif decide (List.length r72_2 = List.length r72_2) then
              some (.inl ((IntKind.wrap .i64 (v9 + (1 : Int)), ()), ((r72, r72_1, r72_2, ()), ())))
             else none
            else none
           else none
          else none
         else none
       else
        inrO (bif decide (List.length v1096_2 = List.length v1096_2) then
         some (.inl ((), ((v1096, v1096_1, v1096_2, ()), ())))
        else none)
      else
       inrO (bif decide (List.length v1096_2 = List.length v1096_2) then
        some (.inl ((), ((v1096, v1096_1, v1096_2, ()), ())))
       else none))
     (((0 : Int), ()), (((0 : Int), (0 : Int), [], ()), ())))
   fun ⟨_, ⟨⟨v1096, v1096_1, v1096_2, _⟩, _⟩⟩ =>
  Option.bind (p9 fu ((a5, a6, a7, a8, a9, ()), (0 : Int), ())) fun ⟨_, ⟨⟨r73, r73_1, r73_2, r73_3, r73_4, r73_5, r73_6, r73_7, r73_8, r73_9, r73_10, r73_11, r73_12, r73_13, _⟩, r73_14, _⟩⟩ =>
  bif decide (List.length v1096_2 = List.length v1096_2) then
   bif decide (List.length r73_10 = List.length r73_10) then
    bif decide (List.length r73_11 = List.length r73_11) then
     bif decide (List.length r73_12 = List.length r73_12) then
      Option.bind (p15 fu ((v1096, v1096_1, v1096_2, ()), (r73, r73_1, r73_2, r73_3, r73_4, r73_5, r73_6, r73_7, r73_8, r73_9, r73_10, r73_11, r73_12, r73_13, ()), ())) fun ⟨_, ⟨⟨r74, r74_1, r74_2, _⟩, r74_3, _⟩⟩ =>
      bif (r73_14 != (0 : Int)) then
       some ((), false)
      else
       bif (r74 != a5) then
        some ((), false)
       else
        bif (r74_1 != a6) then
         some ((), false)
        else
         bif decide (List.length r74_2 = List.length r74_2) then
          bif decide (List.length r73_12 = List.length r73_12) then
           bif !(ByteArray.toList (strOfNums r74_2) == ByteArray.toList (strOfNums r73_12)) then
            some ((), false)
           else
            bif !(r74_3 == r73_13) then
             some ((), false)
            else
             Option.bind (p9 fu ((a0, a1, a2, a3, a4, ()), (0 : Int), ())) fun ⟨_, ⟨⟨r75, r75_1, r75_2, r75_3, r75_4, r75_5, r75_6, r75_7, r75_8, r75_9, r75_10, r75_11, r75_12, r75_13, _⟩, r75_14, _⟩⟩ =>
             bif decide (List.length r74_2 = List.length r74_2) then
              bif decide (List.length r75_10 = List.length r75_10) then
               bif decide (List.length r75_11 = List.length r75_11) then
                bif decide (List.length r75_12 = List.length r75_12) then
                 Option.bind (p15 fu ((r74, r74_1, r74_2, ()), (r75, r75_1, r75_2, r75_3, r75_4, r75_5, r75_6, r75_7, r75_8, r75_9, r75_10, r75_11, r75_12, r75_13, ()), ())) fun ⟨_, ⟨⟨r76, r76_1, r76_2, _⟩, r76_3, _⟩⟩ =>
                 bif (r75_14 == (0 : Int)) then
                  bif (r76 == a0) then
                   bif decide (List.length r76_2 = List.length r76_2) then
                    bif decide (List.length r75_12 = List.length r75_12) then
                     some ((), ByteArray.toList (strOfNums r76_2) == ByteArray.toList (strOfNums r75_12))
                    else none
                   else none
                  else
                   some ((), false)
                 else
                  some ((), false)
                else none
               else none
              else none
             else none
          else none
         else none
     else none
    else none
   else none
  else none
def e6 (fu : Nat) : Ent := ⟨6, (.cons (.agg 5 (.cons (.hole (.int .u64)) (.cons (.hole (.int .u64)) (.cons (.hole (.sl (.int .i64))) (.cons (.hole (.sl (.int .i64))) (.cons (.hole (.sl (.int .u8))) .nil)))))) (.cons (.agg 5 (.cons (.hole (.int .u64)) (.cons (.hole (.int .u64)) (.cons (.hole (.sl (.int .i64))) (.cons (.hole (.sl (.int .i64))) (.cons (.hole (.sl (.int .u8))) .nil)))))) (.cons (.hole (.int .i64)) .nil))), .nil, (.hole .bool), p6 fu⟩
def d6 (fu : Nat) : DC := (.seq (.region [(⟨(some 3), none, (.box 28 5 (.tmp 0))⟩, .none), (⟨(some 4), none, (.box 28 5 (.tmp 1))⟩, .none), (⟨(some 6), none, (.mov (.const (.bool false)))⟩, .none)] [[], [], []] false) (.seq (.region [(⟨(some 20), none, (.call 7 [])⟩, (.ent (e7 fu))), (⟨(some 7), none, (.mov (.tmp 20))⟩, .none)] [[], [0, 0, 0]] false) (.join ⟨[], .nil, [], .nil, [2, 3, 4], [0, 16]⟩
 (.seq (.region [(⟨(some 21), none, (.mov (.tmp 7))⟩, .none), (⟨(some 22), none, (.not (.tmp 21))⟩, .none), (⟨(some 23), none, (.mov (.tmp 22))⟩, .none), (⟨(some 24), (some (23, false)), (.faddr 0 (.tmp 3))⟩, .none), (⟨(some 25), (some (23, false)), (.load false 1 (.tmp 24))⟩, .none), (⟨(some 26), (some (23, false)), (.faddr 0 (.tmp 4))⟩, .none), (⟨(some 27), (some (23, false)), (.load false 1 (.tmp 26))⟩, .none), (⟨(some 28), (some (23, false)), (.bin .eql (.tmp 25) (.tmp 27))⟩, .none), (⟨(some 29), (some (23, false)), (.mov (.tmp 28))⟩, .none), (⟨(some 30), (some (29, true)), (.faddr 1 (.tmp 3))⟩, .none), (⟨(some 31), (some (29, true)), (.load false 1 (.tmp 30))⟩, .none), (⟨(some 32), (some (29, true)), (.faddr 1 (.tmp 4))⟩, .none), (⟨(some 33), (some (29, true)), (.load false 1 (.tmp 32))⟩, .none), (⟨(some 34), (some (29, true)), (.bin .eql (.tmp 31) (.tmp 33))⟩, .none), (⟨(some 35), (some (23, false)), (.pick (.tmp 29) (.tmp 34) (.const (.bool false)))⟩, .none), (⟨(some 36), none, (.pick (.tmp 23) (.const (.bool true)) (.tmp 35))⟩, .none)] [[], [0], [1], [2], [3, 2], [2], [5, 2], [4, 6, 2], [7, 2, 2], [8], [9, 8], [8], [11, 8], [10, 12, 8], [8, 13, 2], [2, 14]] false) (.cond (.tmp 36) (.seq (.region [(⟨(some 37), none, (.mov (.tmp 7))⟩, .none), (⟨(some 6), none, (.mov (.tmp 37))⟩, .none)] [[], [0, 0]] false) .ret) .skip))
 (.seq (.region [(⟨(some 38), none, (.build 3 [(.int .u64 0), (.int .u64 0), (.slice none 0 0)] [])⟩, .none), (⟨(some 8), none, (.alloc 43 3 [(.int .u64 0), (.int .u64 0), (.slice none 0 0)])⟩, .none), (⟨none, none, (.store 3 (.tmp 8) (.tmp 38))⟩, .none)] [[], [], [1, 0, 0, 1]] false) (.join ⟨[], .nil, [(96, 43, 3)], (.cons (.agg 3 (.cons (.hole (.int .u64)) (.cons (.hole (.int .u64)) (.cons (.own .own 5 (.int .u8)) .nil)))) .nil), [3, 4, 8], [0, 16]⟩
 (.seq (.region [(⟨(some 9), none, (.mov (.const (.int .i64 0)))⟩, .none)] [[]] false) (.block 0 (.loop ⟨[9], (.cons (.hole (.int .i64)) .nil), [(96, 43, 3)], (.cons (.agg 3 (.cons (.hole (.int .u64)) (.cons (.hole (.int .u64)) (.cons (.own .own 5 (.int .u8)) .nil)))) .nil), [2, 3, 4, 8], [0, 16]⟩
 (.seq (.seq (.region [(⟨(some 39), none, (.mov (.tmp 9))⟩, .none), (⟨(some 40), none, (.mov (.tmp 2))⟩, .none), (⟨(some 41), none, (.bin .lss (.tmp 39) (.tmp 40))⟩, .none), (⟨(some 42), none, (.mov (.tmp 41))⟩, .none), (⟨(some 43), (some (42, true)), (.mov (.tmp 9))⟩, .none), (⟨(some 44), (some (42, true)), (.faddr 4 (.tmp 3))⟩, .none), (⟨(some 45), (some (42, true)), (.load false 1 (.tmp 44))⟩, .none), (⟨(some 46), (some (42, true)), (.len false (.tmp 45))⟩, .none), (⟨(some 47), (some (42, true)), (.call 13 [(.tmp 46)])⟩, (.ent (e13 fu))), (⟨(some 48), (some (42, true)), (.bin .lss (.tmp 43) (.tmp 47))⟩, .none), (⟨(some 49), none, (.pick (.tmp 42) (.tmp 48) (.const (.bool false)))⟩, .none)] [[], [], [0, 1], [2], [3], [3], [5, 3], [6, 3], [7, 3, 3], [4, 8, 3], [3, 9]] false) (.cond (.tmp 49) .skip (.exit 0))) (.seq (.block 1 (.seq (.region [(⟨(some 53), none, (.load true 5 (.tmp 3))⟩, .none), (⟨(some 54), none, (.faddr 2 (.tmp 8))⟩, .none), (⟨(some 55), none, (.load false 1 (.tmp 54))⟩, .none), (⟨(some 56), none, (.len false (.tmp 55))⟩, .none), (⟨(some 57), none, (.conv .u64 (.tmp 56))⟩, .none), (⟨(some 58), none, (.call 9 [(.tmp 53), (.tmp 57)])⟩, (.ent (e9 fu))), (⟨(some 52), none, (.mov (.tmp 58))⟩, .none), (⟨(some 59), none, (.ext (.tmp 52) 0)⟩, .none), (⟨(some 60), none, (.ext (.tmp 52) 1)⟩, .none), (⟨(some 10), none, (.alloc 34 14 [(.int .i64 0), (.int .i64 0), (.int .i64 0), (.int .u64 0), (.int .u64 0), (.int .u64 0), (.slice none 0 0), (.int .u64 0), (.bool false), (.int .u64 0), (.slice none 0 0), (.slice none 0 0), (.slice none 0 0), (.bool false)])⟩, .none), (⟨none, none, (.store 14 (.tmp 10) (.tmp 59))⟩, .none), (⟨(some 11), none, (.mov (.tmp 60))⟩, .none)] [[], [], [1], [2], [3], [0, 4], [5], [6], [6], [], [9, 7, 5, 0, 1, 2, 3, 4, 5, 6, 7, 9], [8, 10, 0, 1, 2, 3, 4, 5, 6, 7, 8, 9, 10]] false) (.seq (.seq (.region [(⟨(some 61), none, (.mov (.tmp 11))⟩, .none), (⟨(some 62), none, (.bin .neq (.tmp 61) (.const (.int .i64 0)))⟩, .none)] [[], [0]] false) (.cond (.tmp 62) (.seq (.region [(⟨(some 6), none, (.mov (.const (.bool false)))⟩, .none)] [[]] false) .ret) .skip)) (.region [(⟨(some 64), none, (.load true 3 (.tmp 8))⟩, .none), (⟨(some 65), none, (.load true 14 (.tmp 10))⟩, .none), (⟨(some 66), none, (.call 15 [(.tmp 64), (.tmp 65)])⟩, (.ent (e15 fu))), (⟨(some 63), none, (.mov (.tmp 66))⟩, .none), (⟨(some 67), none, (.ext (.tmp 63) 0)⟩, .none), (⟨(some 68), none, (.ext (.tmp 63) 1)⟩, .none), (⟨none, none, (.store 3 (.tmp 8) (.tmp 67))⟩, .none)] [[], [], [0, 1], [2], [3], [3], [4, 2, 0, 1, 2, 3, 4]] false)))) (.region [(⟨(some 50), none, (.mov (.tmp 9))⟩, .none), (⟨(some 51), none, (.bin .add (.tmp 50) (.const (.int .i64 1)))⟩, .none), (⟨(some 9), none, (.mov (.tmp 51))⟩, .none)] [[], [0], [1, 0, 1]] false))))))
 (.seq (.region [(⟨(some 70), none, (.load true 5 (.tmp 4))⟩, .none), (⟨(some 71), none, (.call 9 [(.tmp 70), (.const (.int .u64 0))])⟩, (.ent (e9 fu))), (⟨(some 69), none, (.mov (.tmp 71))⟩, .none), (⟨(some 72), none, (.ext (.tmp 69) 0)⟩, .none), (⟨(some 73), none, (.ext (.tmp 69) 1)⟩, .none), (⟨(some 12), none, (.alloc 34 14 [(.int .i64 0), (.int .i64 0), (.int .i64 0), (.int .u64 0), (.int .u64 0), (.int .u64 0), (.slice none 0 0), (.int .u64 0), (.bool false), (.int .u64 0), (.slice none 0 0), (.slice none 0 0), (.slice none 0 0), (.bool false)])⟩, .none), (⟨none, none, (.store 14 (.tmp 12) (.tmp 72))⟩, .none), (⟨(some 13), none, (.mov (.tmp 73))⟩, .none)] [[], [0], [1], [2], [2], [], [5, 3, 1, 0, 1, 2, 3, 5], [4, 6, 0, 1, 2, 3, 4, 5, 6]] false) (.seq (.region [(⟨(some 75), none, (.load true 3 (.tmp 8))⟩, .none), (⟨(some 76), none, (.load true 14 (.tmp 12))⟩, .none), (⟨(some 77), none, (.call 15 [(.tmp 75), (.tmp 76)])⟩, (.ent (e15 fu))), (⟨(some 74), none, (.mov (.tmp 77))⟩, .none), (⟨(some 78), none, (.ext (.tmp 74) 0)⟩, .none), (⟨(some 79), none, (.ext (.tmp 74) 1)⟩, .none), (⟨(some 14), none, (.alloc 43 3 [(.int .u64 0), (.int .u64 0), (.slice none 0 0)])⟩, .none), (⟨none, none, (.store 3 (.tmp 14) (.tmp 78))⟩, .none), (⟨(some 15), none, (.mov (.tmp 79))⟩, .none)] [[], [], [0, 1], [2], [3], [3], [], [6, 4, 2, 0, 1, 2, 3, 4, 6], [5, 7, 0, 1, 2, 3, 4, 5, 6, 7]] false) (.seq (.seq (.region [(⟨(some 80), none, (.mov (.tmp 13))⟩, .none), (⟨(some 81), none, (.bin .neq (.tmp 80) (.const (.int .i64 0)))⟩, .none), (⟨(some 82), none, (.mov (.tmp 81))⟩, .none), (⟨(some 83), (some (82, false)), (.faddr 0 (.tmp 14))⟩, .none), (⟨(some 84), (some (82, false)), (.load false 1 (.tmp 83))⟩, .none), (⟨(some 85), (some (82, false)), (.faddr 0 (.tmp 4))⟩, .none), (⟨(some 86), (some (82, false)), (.load false 1 (.tmp 85))⟩, .none), (⟨(some 87), (some (82, false)), (.bin .neq (.tmp 84) (.tmp 86))⟩, .none), (⟨(some 88), none, (.pick (.tmp 82) (.const (.bool true)) (.tmp 87))⟩, .none), (⟨(some 89), none, (.mov (.tmp 88))⟩, .none), (⟨(some 90), (some (89, false)), (.faddr 1 (.tmp 14))⟩, .none), (⟨(some 91), (some (89, false)), (.load false 1 (.tmp 90))⟩, .none), (⟨(some 92), (some (89, false)), (.faddr 1 (.tmp 4))⟩, .none), (⟨(some 93), (some (89, false)), (.load false 1 (.tmp 92))⟩, .none), (⟨(some 94), (some (89, false)), (.bin .neq (.tmp 91) (.tmp 93))⟩, .none), (⟨(some 95), none, (.pick (.tmp 89) (.const (.bool true)) (.tmp 94))⟩, .none), (⟨(some 96), none, (.mov (.tmp 95))⟩, .none), (⟨(some 97), (some (96, false)), (.faddr 2 (.tmp 14))⟩, .none), (⟨(some 98), (some (96, false)), (.load false 1 (.tmp 97))⟩, .none), (⟨(some 99), (some (96, false)), (.b2s (.tmp 98))⟩, .none), (⟨(some 100), (some (96, false)), (.faddr 12 (.tmp 12))⟩, .none), (⟨(some 101), (some (96, false)), (.load false 1 (.tmp 100))⟩, .none), (⟨(some 102), (some (96, false)), (.b2s (.tmp 101))⟩, .none), (⟨(some 103), (some (96, false)), (.bin .neq (.tmp 99) (.tmp 102))⟩, .none), (⟨(some 104), none, (.pick (.tmp 96) (.const (.bool true)) (.tmp 103))⟩, .none), (⟨(some 105), none, (.mov (.tmp 104))⟩, .none), (⟨(some 106), (some (105, false)), (.mov (.tmp 15))⟩, .none), (⟨(some 107), (some (105, false)), (.faddr 13 (.tmp 12))⟩, .none), (⟨(some 108), (some (105, false)), (.load false 1 (.tmp 107))⟩, .none), (⟨(some 109), (some (105, false)), (.beq true (.tmp 106) (.tmp 108))⟩, .none), (⟨(some 110), none, (.pick (.tmp 105) (.const (.bool true)) (.tmp 109))⟩, .none)] [[], [0], [1], [2], [3, 2], [2], [5, 2], [4, 6, 2], [2, 7], [8, 2], [9], [10, 9], [9], [12, 9], [11, 13, 9], [9, 14], [15, 9], [16], [17, 16], [18, 16], [16], [20, 16], [21, 16], [19, 22, 16], [16, 23], [24, 16], [25], [25], [27, 25], [26, 28, 25], [25, 29]] false) (.cond (.tmp 110) (.seq (.region [(⟨(some 6), none, (.mov (.const (.bool false)))⟩, .none)] [[]] false) .ret) .skip)) (.seq (.region [(⟨(some 112), none, (.load true 5 (.tmp 3))⟩, .none), (⟨(some 113), none, (.call 9 [(.tmp 112), (.const (.int .u64 0))])⟩, (.ent (e9 fu))), (⟨(some 111), none, (.mov (.tmp 113))⟩, .none), (⟨(some 114), none, (.ext (.tmp 111) 0)⟩, .none), (⟨(some 115), none, (.ext (.tmp 111) 1)⟩, .none), (⟨(some 16), none, (.alloc 34 14 [(.int .i64 0), (.int .i64 0), (.int .i64 0), (.int .u64 0), (.int .u64 0), (.int .u64 0), (.slice none 0 0), (.int .u64 0), (.bool false), (.int .u64 0), (.slice none 0 0), (.slice none 0 0), (.slice none 0 0), (.bool false)])⟩, .none), (⟨none, none, (.store 14 (.tmp 16) (.tmp 114))⟩, .none), (⟨(some 17), none, (.mov (.tmp 115))⟩, .none)] [[], [0], [1], [2], [2], [], [5, 3, 1, 0, 1, 2, 3, 5], [4, 6, 0, 1, 2, 3, 4, 5, 6]] false) (.seq (.region [(⟨(some 117), none, (.load true 3 (.tmp 14))⟩, .none), (⟨(some 118), none, (.load true 14 (.tmp 16))⟩, .none), (⟨(some 119), none, (.call 15 [(.tmp 117), (.tmp 118)])⟩, (.ent (e15 fu))), (⟨(some 116), none, (.mov (.tmp 119))⟩, .none), (⟨(some 120), none, (.ext (.tmp 116) 0)⟩, .none), (⟨(some 121), none, (.ext (.tmp 116) 1)⟩, .none), (⟨(some 18), none, (.alloc 43 3 [(.int .u64 0), (.int .u64 0), (.slice none 0 0)])⟩, .none), (⟨none, none, (.store 3 (.tmp 18) (.tmp 120))⟩, .none), (⟨(some 19), none, (.mov (.tmp 121))⟩, .none)] [[], [], [0, 1], [2], [3], [3], [], [6, 4, 2, 0, 1, 2, 3, 4, 6], [5, 7, 0, 1, 2, 3, 4, 5, 6, 7]] false) (.seq (.region [(⟨(some 122), none, (.mov (.tmp 17))⟩, .none), (⟨(some 123), none, (.bin .eql (.tmp 122) (.const (.int .i64 0)))⟩, .none), (⟨(some 124), none, (.mov (.tmp 123))⟩, .none), (⟨(some 125), (some (124, true)), (.faddr 0 (.tmp 18))⟩, .none), (⟨(some 126), (some (124, true)), (.load false 1 (.tmp 125))⟩, .none), (⟨(some 127), (some (124, true)), (.faddr 0 (.tmp 3))⟩, .none), (⟨(some 128), (some (124, true)), (.load false 1 (.tmp 127))⟩, .none), (⟨(some 129), (some (124, true)), (.bin .eql (.tmp 126) (.tmp 128))⟩, .none), (⟨(some 130), none, (.pick (.tmp 124) (.tmp 129) (.const (.bool false)))⟩, .none), (⟨(some 131), none, (.mov (.tmp 130))⟩, .none), (⟨(some 132), (some (131, true)), (.faddr 2 (.tmp 18))⟩, .none), (⟨(some 133), (some (131, true)), (.load false 1 (.tmp 132))⟩, .none), (⟨(some 134), (some (131, true)), (.b2s (.tmp 133))⟩, .none), (⟨(some 135), (some (131, true)), (.faddr 12 (.tmp 16))⟩, .none), (⟨(some 136), (some (131, true)), (.load false 1 (.tmp 135))⟩, .none), (⟨(some 137), (some (131, true)), (.b2s (.tmp 136))⟩, .none), (⟨(some 138), (some (131, true)), (.bin .eql (.tmp 134) (.tmp 137))⟩, .none), (⟨(some 139), none, (.pick (.tmp 131) (.tmp 138) (.const (.bool false)))⟩, .none), (⟨(some 6), none, (.mov (.tmp 139))⟩, .none)] [[], [0], [1], [2], [3, 2], [2], [5, 2], [4, 6, 2], [2, 7], [8, 2], [9], [10, 9], [11, 9], [9], [13, 9], [14, 9], [12, 15, 9], [9, 16], [17, 9, 0, 1, 2, 3, 4, 5, 6, 7, 8, 9, 10, 11, 12, 13, 14, 15, 16, 17]] false) .ret)))))))))))
set_option maxRecDepth 1000000 in
theorem v6 (fu : Nat) : evF fu (d6 fu) rs6 140 (e6 fu).ash (e6 fu).osh (e6 fu).vsh = p6 fu := by kernel_rfl
set_option maxRecDepth 1000000 in
theorem b6 (fu : Nat) : BodyD Try.prog 6 140 (d6 fu).erase rs6 := bodyD_mk Try.func6 (by kernel_rfl) (by kernel_rfl) (by kernel_rfl) (by kernel_rfl)
theorem g6 (fu : Nat) : (e6 fu).Good Try.prog := good_by orders (b6 fu) (l := [e7 fu, e13 fu, e9 fu, e15 fu, e9 fu, e15 fu, e9 fu, e15 fu]) (by kernel_rfl) ⟨g7 fu, g13 fu, g9 fu, g15 fu, g9 fu, g15 fu, g9 fu, g15 fu, trivial⟩ (by kernel_rfl) (v6 fu)
end Go.Proofs.Ytcioafdngcmkiaa
