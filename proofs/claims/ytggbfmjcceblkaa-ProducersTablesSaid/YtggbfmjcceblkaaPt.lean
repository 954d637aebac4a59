/-
  The functions, typed.
-/
import Derived.Test.YtggbfmjcceblkaaDaL
import Derived.Test.YtggbfmjcceblkaaRows
namespace Go.Proofs.Ytggbfmjcceblkaa
open Go.RowKit
abbrev T_runtime_errorAddressString : Tp := (.pair .str (.int .u64))
abbrev D_runtime_errorAddressString := (ByteArray) × (Int)
abbrev T_gazettelaw15_Number : Tp := (.pair (.int .u64) (.pair (.int .u64) (.int .u64)))
abbrev D_gazettelaw15_Number := (Int) × ((Int) × (Int))
abbrev T_runtime_boundsError : Tp := (.pair (.int .i64) (.pair (.int .i64) (.pair .bool (.int .u8))))
abbrev D_runtime_boundsError := (Int) × ((Int) × ((Bool) × (Int)))
abbrev T_api_Producer : Tp := (.pair (.int .u64) (.pair (.int .u64) (.pair .bool (.int .u64))))
abbrev D_api_Producer := (Int) × ((Int) × ((Bool) × (Int)))
abbrev T_gazettelaw15_Two : Tp := (.pair (.sl T_api_Producer) (.pair (.sl T_api_Producer) (.pair (.sl (.int .u64)) (.sl (.int .u64)))))
abbrev D_gazettelaw15_Two := (List (D_api_Producer)) × ((List (D_api_Producer)) × ((List (Int)) × (List (Int))))
theorem orders : Try.prog.follows .mixedOrders = true := by kernel_rfl
def rs10 : List RVx := [(.cell 6 true 4)]
/-- gazette/gazettelaw15.p -/
def p10 (fu : Nat) : (Int) × ((Int) × ((Int) × (Unit))) → Option ((Unit) × ((Int) × ((Int) × ((Bool) × ((Int) × (Unit)))))) := fun ⟨a0, a1, a2, _⟩ =>
  some ((), (a0, a1, true, a2, ()))
def e10 (fu : Nat) : Ent := ⟨10, (.cons (.hole (.int .u64)) (.cons (.hole (.int .u64)) (.cons (.hole (.int .u64)) .nil))), .nil, (.agg 4 (.cons (.hole (.int .u64)) (.cons (.hole (.int .u64)) (.cons (.hole .bool) (.cons (.hole (.int .u64)) .nil))))), p10 fu⟩
def d10 (fu : Nat) : DC := (.seq (.region [(⟨(some 6), none, (.alloc 25 4 [(.int .u64 0), (.int .u64 0), (.bool false), (.int .u64 0)])⟩, .none)] [[]] false) (.seq (.region [(⟨(some 7), none, (.mov (.tmp 0))⟩, .none), (⟨(some 8), none, (.mov (.tmp 1))⟩, .none), (⟨(some 9), none, (.mov (.tmp 2))⟩, .none), (⟨(some 10), none, (.build 4 [(.int .u64 0), (.int .u64 0), (.bool false), (.int .u64 0)] [(0, (1, (.tmp 7))), (1, (1, (.tmp 8))), (2, (1, (.const (.bool true)))), (3, (1, (.tmp 9)))])⟩, .none), (⟨none, none, (.store 4 (.tmp 6) (.tmp 10))⟩, .none)] [[], [], [], [0, 1, 2], [3, 0, 1, 2, 3]] false) .ret))
set_option maxRecDepth 1000000 in
theorem v10 (fu : Nat) : evF fu (d10 fu) rs10 11 (e10 fu).ash (e10 fu).osh (e10 fu).vsh = p10 fu := by kernel_rfl
set_option maxRecDepth 1000000 in
theorem b10 (fu : Nat) : BodyD Try.prog 10 11 (d10 fu).erase rs10 := bodyD_mk Try.func10 (by kernel_rfl) (by kernel_rfl) (by kernel_rfl) (by kernel_rfl)
theorem g10 (fu : Nat) : (e10 fu).Good Try.prog := good_by orders (b10 fu) (l := []) (by kernel_rfl) trivial (by kernel_rfl) (v10 fu)
def rs24 : List RVx := [(.tmp 2)]
/-- gazette/producers.isSeq -/
def p24 (fu : Nat) : (Int) × (Unit) → Option ((Unit) × (Bool)) := fun ⟨a0, _⟩ =>
  bif decide (a0 ≥ (1 : Int)) then
   some ((), decide (a0 ≤ (9223372036854775807 : Int)))
  else
   some ((), false)
def e24 (fu : Nat) : Ent := ⟨24, (.cons (.hole (.int .u64)) .nil), .nil, (.hole .bool), p24 fu⟩
def d24 (fu : Nat) : DC := (.seq (.region [(⟨(some 2), none, (.mov (.const (.bool false)))⟩, .none)] [[]] false) (.seq (.region [(⟨(some 3), none, (.mov (.tmp 0))⟩, .none), (⟨(some 4), none, (.bin .geq (.tmp 3) (.const (.int .u64 1)))⟩, .none), (⟨(some 5), none, (.mov (.tmp 4))⟩, .none), (⟨(some 6), (some (5, true)), (.mov (.tmp 0))⟩, .none), (⟨(some 7), (some (5, true)), (.bin .leq (.tmp 6) (.const (.int .u64 9223372036854775807)))⟩, .none), (⟨(some 8), none, (.pick (.tmp 5) (.tmp 7) (.const (.bool false)))⟩, .none), (⟨(some 2), none, (.mov (.tmp 8))⟩, .none)] [[], [0], [1], [2], [3, 2], [2, 4], [5, 2, 0, 1, 2, 3, 4, 5]] false) .ret))
set_option maxRecDepth 1000000 in
theorem v24 (fu : Nat) : evF fu (d24 fu) rs24 9 (e24 fu).ash (e24 fu).osh (e24 fu).vsh = p24 fu := by kernel_rfl
set_option maxRecDepth 1000000 in
theorem b24 (fu : Nat) : BodyD Try.prog 24 9 (d24 fu).erase rs24 := bodyD_mk Try.func24 (by kernel_rfl) (by kernel_rfl) (by kernel_rfl) (by kernel_rfl)
theorem g24 (fu : Nat) : (e24 fu).Good Try.prog := good_by orders (b24 fu) (l := []) (by kernel_rfl) trivial (by kernel_rfl) (v24 fu)
def rs26 : List RVx := [(.tmp 3)]
/-- gazette/producers.Judge$1 -/
def p26 (fu : Nat) : ((Int) × ((Int) × ((Bool) × ((Int) × (Unit))))) × (((Int) × (Unit)) × (Unit)) → Option ((((Int) × (Unit)) × (Unit)) × (Bool)) := fun ⟨⟨a0, a1, a2, a3, _⟩, ⟨a4, _⟩, _⟩ =>
  some (((a4, ()), ()), (a0 == a4))
def e26 (fu : Nat) : Ent := ⟨26, (.cons (.agg 4 (.cons (.hole (.int .u64)) (.cons (.hole (.int .u64)) (.cons (.hole .bool) (.cons (.hole (.int .u64)) .nil))))) (.cons (.box 23 1 (.cons (.hole (.int .u64)) .nil)) .nil)), (.cons (.agg 1 (.cons (.hole (.int .u64)) .nil)) .nil), (.hole .bool), p26 fu⟩
def d26 (fu : Nat) : DC := (.seq (.region [(⟨(some 2), none, (.box 25 4 (.tmp 0))⟩, .none), (⟨(some 3), none, (.mov (.const (.bool false)))⟩, .none)] [[], []] false) (.seq (.region [(⟨(some 4), none, (.faddr 0 (.tmp 2))⟩, .none), (⟨(some 5), none, (.load false 1 (.tmp 4))⟩, .none), (⟨(some 6), none, (.load false 1 (.tmp 1))⟩, .none), (⟨(some 7), none, (.bin .eql (.tmp 5) (.tmp 6))⟩, .none), (⟨(some 3), none, (.mov (.tmp 7))⟩, .none)] [[], [0], [], [1, 2], [3, 0, 1, 2, 3]] false) .ret))
set_option maxRecDepth 1000000 in
theorem v26 (fu : Nat) : evF fu (d26 fu) rs26 8 (e26 fu).ash (e26 fu).osh (e26 fu).vsh = p26 fu := by kernel_rfl
set_option maxRecDepth 1000000 in
theorem b26 (fu : Nat) : BodyD Try.prog 26 8 (d26 fu).erase rs26 := bodyD_mk Try.func26 (by kernel_rfl) (by kernel_rfl) (by kernel_rfl) (by kernel_rfl)
theorem g26 (fu : Nat) : (e26 fu).Good Try.prog := good_by orders (b26 fu) (l := []) (by kernel_rfl) trivial (by kernel_rfl) (v26 fu)
def rs25 : List RVx := [(.tmp 4), (.tmp 5)]
/-- gazette/producers.find[gazette/api.Producer] -/
def p25 (fu : Nat) : (List (D_api_Producer)) × (((Unit) × (((Int) × (Unit)) × (Unit))) × (Unit)) → Option ((((Int) × (Unit)) × (Unit)) × ((Int) × ((Bool) × (Unit)))) := fun ⟨a0, ⟨_, ⟨⟨a1, _⟩, _⟩⟩, _⟩ =>
  loopO (S := ((Int) × (Unit)) × (((Int) × (Unit)) × (Unit))) fu (fun ⟨⟨v10, _⟩, ⟨⟨v1000, _⟩, _⟩⟩ =>
    bif decide (v10 < (List.length a0 : Int)) then
     bif decide ((0 : Int) ≤ v10 ∧ v10 < (List.length a0 : Int)) then
      bif decide (Int.toNat v10 < List.length a0) then
       Option.bind (p26 fu (((List.getD a0 (Int.toNat v10) (dflt T_api_Producer)).1, ((List.getD a0 (Int.toNat v10) (dflt T_api_Producer)).2).1, (((List.getD a0 (Int.toNat v10) (dflt T_api_Producer)).2).2).1, (((List.getD a0 (Int.toNat v10) (dflt T_api_Producer)).2).2).2, ()), (v1000, ()), ())) fun ⟨⟨⟨r7, _⟩, _⟩, r7_1⟩ =>
       bif r7_1 then
        inrO (some (((r7, ()), ()), (v10, true, ())))
       else
        some (.inl ((IntKind.wrap .i64 (v10 + (1 : Int)), ()), ((r7, ()), ())))
      else none
     else none
    else
     inrO (some (((v1000, ()), ()), ((List.length a0 : Int), false, ()))))
   (((0 : Int), ()), ((a1, ()), ()))
def e25 (fu : Nat) : Ent := ⟨25, (.cons (.hole (.sl T_api_Producer)) (.cons (.clo 26 0 .nil 1 (.cons (.box 23 1 (.cons (.hole (.int .u64)) .nil)) .nil)) .nil)), (.cons (.agg 1 (.cons (.hole (.int .u64)) .nil)) .nil), (.tup 2 (.cons (.hole (.int .i64)) (.cons (.hole .bool) .nil))), p25 fu⟩
def d25 (fu : Nat) : DC := (.seq (.region [(⟨(some 4), none, (.mov (.const (.int .i64 0)))⟩, .none), (⟨(some 5), none, (.mov (.const (.bool false)))⟩, .none)] [[], [0]] false) (.seq (.seq (.region [(⟨(some 8), none, (.mov (.tmp 0))⟩, .none), (⟨(some 9), none, (.len false (.tmp 8))⟩, .none), (⟨(some 10), none, (.mov (.const (.int .i64 0)))⟩, .none)] [[], [0], []] false) (.block 0 (.loop ⟨[10], (.cons (.hole (.int .i64)) .nil), [(0, 23, 1)], (.cons (.agg 1 (.cons (.hole (.int .u64)) .nil)) .nil), [0, 1, 8, 9], []⟩
 (.seq (.region [(⟨(some 11), none, (.bin .lss (.tmp 10) (.tmp 9))⟩, .none)] [[]] false) (.seq (.cond (.tmp 11) .skip (.exit 0)) (.seq (.block 1 (.seq (.region [(⟨(some 12), none, (.mov (.tmp 10))⟩, .none), (⟨(some 13), none, (.iaddr 4 (.tmp 8) (.tmp 10))⟩, .none), (⟨(some 14), none, (.load true 4 (.tmp 13))⟩, .none), (⟨(some 7), none, (.alloc 25 4 [(.int .u64 0), (.int .u64 0), (.bool false), (.int .u64 0)])⟩, .none), (⟨(some 6), none, (.mov (.tmp 12))⟩, .none), (⟨none, none, (.store 4 (.tmp 7) (.tmp 14))⟩, .none)] [[], [], [1], [], [0, 0, 1, 2, 3], [3, 2, 4, 0, 1, 2, 3, 4]] false) (.seq (.region [(⟨(some 15), none, (.mov (.tmp 1))⟩, .none), (⟨(some 16), none, (.load true 4 (.tmp 7))⟩, .none), (⟨(some 17), none, (.callv (.tmp 15) [(.tmp 16)])⟩, (.ent (e26 fu)))] [[], [], [0, 1]] false) (.cond (.tmp 17) (.seq (.region [(⟨(some 18), none, (.mov (.tmp 6))⟩, .none), (⟨(some 4), none, (.mov (.tmp 18))⟩, .none), (⟨(some 5), none, (.mov (.const (.bool true)))⟩, .none)] [[], [0, 0], [1, 0, 1]] false) .ret) .skip)))) (.region [(⟨(some 19), none, (.bin .add (.tmp 10) (.const (.int .i64 1)))⟩, .none), (⟨(some 10), none, (.mov (.tmp 19))⟩, .none)] [[], [0]] false))))))) (.seq (.region [(⟨(some 20), none, (.mov (.tmp 0))⟩, .none), (⟨(some 21), none, (.len false (.tmp 20))⟩, .none), (⟨(some 4), none, (.mov (.tmp 21))⟩, .none), (⟨(some 5), none, (.mov (.const (.bool false)))⟩, .none)] [[], [0], [1, 0, 1], [2, 0, 1, 2]] false) .ret)))
set_option maxRecDepth 1000000 in
theorem v25 (fu : Nat) : evF fu (d25 fu) rs25 22 (e25 fu).ash (e25 fu).osh (e25 fu).vsh = p25 fu := by kernel_rfl
set_option maxRecDepth 1000000 in
theorem b25 (fu : Nat) : BodyD Try.prog 25 22 (d25 fu).erase rs25 := bodyD_mk Try.func25 (by kernel_rfl) (by kernel_rfl) (by kernel_rfl) (by kernel_rfl)
theorem g25 (fu : Nat) : (e25 fu).Good Try.prog := good_by orders (b25 fu) (l := [e26 fu]) (by kernel_rfl) ⟨g26 fu, trivial⟩ (by kernel_rfl) (v25 fu)
def rs11 : List RVx := [(.tmp 6), (.tmp 7)]
/-- gazette/producers.Judge -/
def p11 (fu : Nat) : (List (D_api_Producer)) × ((Int) × ((Int) × (Unit))) → Option ((Unit) × ((Int) × ((Int) × (Unit)))) := fun ⟨a0, a1, a2, _⟩ =>
  bif (a1 == (0 : Int)) then
   some ((), ((4 : Int), (0 : Int), ()))
  else
   Option.bind (p24 fu (a2, ())) fun ⟨_, r9⟩ =>
   bif !r9 then
    some ((), ((4 : Int), (0 : Int), ()))
   else
    Option.bind (p25 fu (a0, ((), ((a1, ()), ())), ())) fun ⟨⟨⟨r10, _⟩, _⟩, ⟨r10_1, r10_2, _⟩⟩ =>
    orK (E := ((Bool) × (Unit)) × (Unit))
     (bif !r10_2 then
       some (.inl ((true, ()), ()))
      else
       bif decide ((0 : Int) ≤ r10_1 ∧ r10_1 < (List.length a0 : Int)) then
        bif decide (Int.toNat r10_1 < List.length a0) then
         some (.inl ((decide (a2 > (((List.getD a0 (Int.toNat r10_1) (dflt T_api_Producer)).2).1)), ()), ()))
        else none
       else none)
     fun ⟨⟨v23, _⟩, _⟩ =>
    bif v23 then
     some ((), ((1 : Int), (0 : Int), ()))
    else
     orK (E := ((Bool) × (Unit)) × (Unit))
      (bif decide ((0 : Int) ≤ r10_1 ∧ r10_1 < (List.length a0 : Int)) then
        bif decide (Int.toNat r10_1 < List.length a0) then
         bif (a2 == (((List.getD a0 (Int.toNat r10_1) (dflt T_api_Producer)).2).1)) then
          bif decide ((0 : Int) ≤ r10_1 ∧ r10_1 < (List.length a0 : Int)) then
           bif decide (Int.toNat r10_1 < List.length a0) then
            some (.inl (((((List.getD a0 (Int.toNat r10_1) (dflt T_api_Producer)).2).2).1, ()), ()))
           else none
          else none
         else
          some (.inl ((false, ()), ()))
        else none
       else none)
      fun ⟨⟨v35, _⟩, _⟩ =>
     bif v35 then
      bif decide ((0 : Int) ≤ r10_1 ∧ r10_1 < (List.length a0 : Int)) then
       bif decide (Int.toNat r10_1 < List.length a0) then
        some ((), ((2 : Int), (((List.getD a0 (Int.toNat r10_1) (dflt T_api_Producer)).2).2).2, ()))
       else none
      else none
     else
      some ((), ((3 : Int), (0 : Int), ()))
def e11 (fu : Nat) : Ent := ⟨11, (.cons (.hole (.sl T_api_Producer)) (.cons (.hole (.int .u64)) (.cons (.hole (.int .u64)) .nil))), .nil, (.tup 2 (.cons (.hole (.int .i64)) (.cons (.hole (.int .u64)) .nil))), p11 fu⟩
def d11 (fu : Nat) : DC := (.seq (.region [(⟨(some 4), none, (.box 23 1 (.tmp 1))⟩, .none), (⟨(some 6), none, (.mov (.const (.int .i64 0)))⟩, .none), (⟨(some 7), none, (.mov (.const (.int .u64 0)))⟩, .none)] [[], [], [1]] false) (.seq (.seq (.region [(⟨(some 10), none, (.load false 1 (.tmp 4))⟩, .none), (⟨(some 11), none, (.bin .eql (.tmp 10) (.const (.int .u64 0)))⟩, .none), (⟨(some 12), none, (.mov (.tmp 11))⟩, .none), (⟨(some 13), (some (12, false)), (.mov (.tmp 2))⟩, .none), (⟨(some 14), (some (12, false)), (.call 24 [(.tmp 13)])⟩, (.ent (e24 fu))), (⟨(some 15), (some (12, false)), (.not (.tmp 14))⟩, .none), (⟨(some 16), none, (.pick (.tmp 12) (.const (.bool true)) (.tmp 15))⟩, .none)] [[], [0], [1], [2], [3, 2, 2], [4, 2], [2, 5]] false) (.cond (.tmp 16) (.seq (.region [(⟨(some 6), none, (.mov (.const (.int .i64 4)))⟩, .none), (⟨(some 7), none, (.mov (.const (.int .u64 0)))⟩, .none)] [[], [0, 0]] false) .ret) .skip)) (.seq (.region [(⟨(some 18), none, (.mov (.tmp 0))⟩, .none), (⟨(some 19), none, (.fn 26 [] [(.tmp 4)])⟩, .none), (⟨(some 20), none, (.call 25 [(.tmp 18), (.tmp 19)])⟩, (.ent (e25 fu))), (⟨(some 17), none, (.mov (.tmp 20))⟩, .none), (⟨(some 21), none, (.ext (.tmp 17) 0)⟩, .none), (⟨(some 22), none, (.ext (.tmp 17) 1)⟩, .none), (⟨(some 8), none, (.mov (.tmp 21))⟩, .none), (⟨(some 9), none, (.mov (.tmp 22))⟩, .none)] [[], [], [0, 1], [2], [3], [3], [4, 2, 0, 1, 2, 3, 4], [5, 6, 0, 1, 2, 3, 4, 5, 6]] false) (.seq (.block 0 (.join ⟨[23], (.cons (.hole .bool) .nil), [], .nil, [0, 2, 8], []⟩
 (.region [(⟨(some 24), none, (.mov (.tmp 9))⟩, .none), (⟨(some 25), none, (.not (.tmp 24))⟩, .none), (⟨(some 26), none, (.mov (.tmp 25))⟩, .none), (⟨(some 27), (some (26, false)), (.mov (.tmp 2))⟩, .none), (⟨(some 28), (some (26, false)), (.mov (.tmp 0))⟩, .none), (⟨(some 29), (some (26, false)), (.mov (.tmp 8))⟩, .none), (⟨(some 30), (some (26, false)), (.iaddr 4 (.tmp 28) (.tmp 29))⟩, .none), (⟨(some 31), (some (26, false)), (.faddr 1 (.tmp 30))⟩, .none), (⟨(some 32), (some (26, false)), (.load false 1 (.tmp 31))⟩, .none), (⟨(some 33), (some (26, false)), (.bin .gtr (.tmp 27) (.tmp 32))⟩, .none), (⟨(some 34), none, (.pick (.tmp 26) (.const (.bool true)) (.tmp 33))⟩, .none), (⟨(some 23), none, (.mov (.tmp 34))⟩, .none)] [[], [0], [1], [2], [2], [2], [4, 5, 2], [6, 2], [7, 2], [3, 8, 2], [2, 9], [10, 2]] false)
 (.cond (.tmp 23) (.seq (.region [(⟨(some 6), none, (.mov (.const (.int .i64 1)))⟩, .none), (⟨(some 7), none, (.mov (.const (.int .u64 0)))⟩, .none)] [[], [0, 0]] false) .ret) (.join ⟨[35], (.cons (.hole .bool) .nil), [], .nil, [0, 8], []⟩
 (.region [(⟨(some 36), none, (.mov (.tmp 2))⟩, .none), (⟨(some 37), none, (.mov (.tmp 0))⟩, .none), (⟨(some 38), none, (.mov (.tmp 8))⟩, .none), (⟨(some 39), none, (.iaddr 4 (.tmp 37) (.tmp 38))⟩, .none), (⟨(some 40), none, (.faddr 1 (.tmp 39))⟩, .none), (⟨(some 41), none, (.load false 1 (.tmp 40))⟩, .none), (⟨(some 42), none, (.bin .eql (.tmp 36) (.tmp 41))⟩, .none), (⟨(some 43), none, (.mov (.tmp 42))⟩, .none), (⟨(some 44), (some (43, true)), (.mov (.tmp 0))⟩, .none), (⟨(some 45), (some (43, true)), (.mov (.tmp 8))⟩, .none), (⟨(some 46), (some (43, true)), (.iaddr 4 (.tmp 44) (.tmp 45))⟩, .none), (⟨(some 47), (some (43, true)), (.faddr 2 (.tmp 46))⟩, .none), (⟨(some 48), (some (43, true)), (.load false 1 (.tmp 47))⟩, .none), (⟨(some 49), none, (.pick (.tmp 43) (.tmp 48) (.const (.bool false)))⟩, .none), (⟨(some 35), none, (.mov (.tmp 49))⟩, .none)] [[], [], [], [1, 2], [3], [4], [0, 5], [6], [7], [7], [8, 9, 7], [10, 7], [11, 7], [7, 12], [13, 7]] false)
 (.cond (.tmp 35) (.seq (.region [(⟨(some 50), none, (.mov (.tmp 0))⟩, .none), (⟨(some 51), none, (.mov (.tmp 8))⟩, .none), (⟨(some 52), none, (.iaddr 4 (.tmp 50) (.tmp 51))⟩, .none), (⟨(some 53), none, (.faddr 3 (.tmp 52))⟩, .none), (⟨(some 54), none, (.load false 1 (.tmp 53))⟩, .none), (⟨(some 6), none, (.mov (.const (.int .i64 2)))⟩, .none), (⟨(some 7), none, (.mov (.tmp 54))⟩, .none)] [[], [], [0, 1], [2], [3], [], [4, 5, 0, 1, 2, 3, 4, 5]] true) .ret) .skip))))) (.seq (.region [(⟨(some 6), none, (.mov (.const (.int .i64 3)))⟩, .none), (⟨(some 7), none, (.mov (.const (.int .u64 0)))⟩, .none)] [[], [0, 0]] false) .ret)))))
set_option maxRecDepth 1000000 in
theorem v11 (fu : Nat) : evF fu (d11 fu) rs11 55 (e11 fu).ash (e11 fu).osh (e11 fu).vsh = p11 fu := by kernel_rfl
set_option maxRecDepth 1000000 in
theorem b11 (fu : Nat) : BodyD Try.prog 11 55 (d11 fu).erase rs11 := bodyD_mk Try.func11 (by kernel_rfl) (by kernel_rfl) (by kernel_rfl) (by kernel_rfl)
theorem g11 (fu : Nat) : (e11 fu).Good Try.prog := good_by orders (b11 fu) (l := [e24 fu, e25 fu]) (by kernel_rfl) ⟨g24 fu, g25 fu, trivial⟩ (by kernel_rfl) (v11 fu)
def rs9 : List RVx := [(.tmp 0)]
/-- gazette/gazettelaw15.lives -/
def p9 (fu : Nat) : Unit → Option ((Unit) × (Bool)) := fun _ =>
  Option.bind (p10 fu ((7 : Int), (3 : Int), (9 : Int), ())) fun ⟨_, ⟨r13, r13_1, r13_2, r13_3, _⟩⟩ =>
  Option.bind (p11 fu ([(r13, r13_1, r13_2, r13_3)], (7 : Int), (3 : Int), ())) fun ⟨_, ⟨r14, r14_1, _⟩⟩ =>
  Option.bind (p11 fu ([], (7 : Int), (3 : Int), ())) fun ⟨_, ⟨r15, r15_1, _⟩⟩ =>
  bif (r14 == (2 : Int)) then
   bif (r14_1 == (9 : Int)) then
    some ((), (r15 == (1 : Int)))
   else
    some ((), false)
  else
   some ((), false)
def e9 (fu : Nat) : Ent := ⟨9, .nil, .nil, (.hole .bool), p9 fu⟩
def d9 (fu : Nat) : DC := (.seq (.region [(⟨(some 0), none, (.mov (.const (.bool false)))⟩, .none)] [[]] false) (.seq (.region [(⟨(some 6), none, (.call 10 [(.const (.int .u64 7)), (.const (.int .u64 3)), (.const (.int .u64 9))])⟩, (.ent (e10 fu))), (⟨(some 7), none, (.bslice 25 4 1 [(.int .u64 0), (.int .u64 0), (.bool false), (.int .u64 0)] [(0, (.tmp 6))])⟩, (.ty T_api_Producer)), (⟨(some 8), none, (.call 11 [(.tmp 7), (.const (.int .u64 7)), (.const (.int .u64 3))])⟩, (.ent (e11 fu))), (⟨(some 5), none, (.mov (.tmp 8))⟩, .none), (⟨(some 9), none, (.ext (.tmp 5) 0)⟩, .none), (⟨(some 10), none, (.ext (.tmp 5) 1)⟩, .none), (⟨(some 1), none, (.mov (.tmp 9))⟩, .none), (⟨(some 2), none, (.mov (.tmp 10))⟩, .none)] [[], [0], [1, 0], [2], [3], [3], [4, 2, 0, 1, 2, 3, 4], [5, 6, 0, 1, 2, 3, 4, 5, 6]] false) (.seq (.region [(⟨(some 12), none, (.call 11 [(.const (.slice none 0 0)), (.const (.int .u64 7)), (.const (.int .u64 3))])⟩, (.ent (e11 fu))), (⟨(some 11), none, (.mov (.tmp 12))⟩, .none), (⟨(some 13), none, (.ext (.tmp 11) 0)⟩, .none), (⟨(some 14), none, (.ext (.tmp 11) 1)⟩, .none), (⟨(some 3), none, (.mov (.tmp 13))⟩, .none), (⟨(some 4), none, (.mov (.tmp 14))⟩, .none)] [[], [0], [1], [1], [2, 0, 0, 1, 2], [3, 4, 0, 1, 2, 3, 4]] false) (.seq (.region [(⟨(some 15), none, (.mov (.tmp 1))⟩, .none), (⟨(some 16), none, (.bin .eql (.tmp 15) (.const (.int .i64 2)))⟩, .none), (⟨(some 17), none, (.mov (.tmp 16))⟩, .none), (⟨(some 18), (some (17, true)), (.mov (.tmp 2))⟩, .none), (⟨(some 19), (some (17, true)), (.bin .eql (.tmp 18) (.const (.int .u64 9)))⟩, .none), (⟨(some 20), none, (.pick (.tmp 17) (.tmp 19) (.const (.bool false)))⟩, .none), (⟨(some 21), none, (.mov (.tmp 20))⟩, .none), (⟨(some 22), (some (21, true)), (.mov (.tmp 3))⟩, .none), (⟨(some 23), (some (21, true)), (.bin .eql (.tmp 22) (.const (.int .i64 1)))⟩, .none), (⟨(some 24), none, (.pick (.tmp 21) (.tmp 23) (.const (.bool false)))⟩, .none), (⟨(some 0), none, (.mov (.tmp 24))⟩, .none)] [[], [0], [1], [2], [3, 2], [2, 4], [5, 2], [6], [7, 6], [6, 8], [9, 6, 0, 1, 2, 3, 4, 5, 6, 7, 8, 9]] false) .ret))))
set_option maxRecDepth 1000000 in
theorem v9 (fu : Nat) : evF fu (d9 fu) rs9 25 (e9 fu).ash (e9 fu).osh (e9 fu).vsh = p9 fu := by kernel_rfl
set_option maxRecDepth 1000000 in
theorem b9 (fu : Nat) : BodyD Try.prog 9 25 (d9 fu).erase rs9 := bodyD_mk Try.func9 (by kernel_rfl) (by kernel_rfl) (by kernel_rfl) (by kernel_rfl)
theorem g9 (fu : Nat) : (e9 fu).Good Try.prog := good_by orders (b9 fu) (l := [e10 fu, e11 fu, e11 fu]) (by kernel_rfl) ⟨g10 fu, g11 fu, g11 fu, trivial⟩ (by kernel_rfl) (v9 fu)
def rs40 : List RVx := [(.tmp 2)]
/-- cmp.isNaN[uint64] -/
def p40 (fu : Nat) : (Int) × (Unit) → Option ((Unit) × (Bool)) := fun ⟨a0, _⟩ =>
  some ((), (a0 != a0))
def e40 (fu : Nat) : Ent := ⟨40, (.cons (.hole (.int .u64)) .nil), .nil, (.hole .bool), p40 fu⟩
def d40 (fu : Nat) : DC := (.seq (.region [(⟨(some 2), none, (.mov (.const (.bool false)))⟩, .none)] [[]] false) (.seq (.region [(⟨(some 3), none, (.mov (.tmp 0))⟩, .none), (⟨(some 4), none, (.mov (.tmp 0))⟩, .none), (⟨(some 5), none, (.bin .neq (.tmp 3) (.tmp 4))⟩, .none), (⟨(some 2), none, (.mov (.tmp 5))⟩, .none)] [[], [], [0, 1], [2, 0, 1, 2]] false) .ret))
set_option maxRecDepth 1000000 in
theorem v40 (fu : Nat) : evF fu (d40 fu) rs40 6 (e40 fu).ash (e40 fu).osh (e40 fu).vsh = p40 fu := by kernel_rfl
set_option maxRecDepth 1000000 in
theorem b40 (fu : Nat) : BodyD Try.prog 40 6 (d40 fu).erase rs40 := bodyD_mk Try.func40 (by kernel_rfl) (by kernel_rfl) (by kernel_rfl) (by kernel_rfl)
theorem g40 (fu : Nat) : (e40 fu).Good Try.prog := good_by orders (b40 fu) (l := []) (by kernel_rfl) trivial (by kernel_rfl) (v40 fu)
def rs39 : List RVx := [(.tmp 4)]
/-- cmp.Compare[uint64] -/
def p39 (fu : Nat) : (Int) × ((Int) × (Unit)) → Option ((Unit) × (Int)) := fun ⟨a0, a1, _⟩ =>
  Option.bind (p40 fu (a0, ())) fun ⟨_, r24⟩ =>
  Option.bind (p40 fu (a1, ())) fun ⟨_, r25⟩ =>
  bif r24 then
   bif r25 then
    some ((), (0 : Int))
   else
    some ((), ((-1) : Int))
  else
   bif r25 then
    some ((), (1 : Int))
   else
    bif decide (a0 < a1) then
     some ((), ((-1) : Int))
    else
     bif decide (a0 > a1) then
      some ((), (1 : Int))
     else
      some ((), (0 : Int))
def e39 (fu : Nat) : Ent := ⟨39, (.cons (.hole (.int .u64)) (.cons (.hole (.int .u64)) .nil)), .nil, (.hole (.int .i64)), p39 fu⟩
def d39 (fu : Nat) : DC := (.seq (.region [(⟨(some 4), none, (.mov (.const (.int .i64 0)))⟩, .none)] [[]] false) (.seq (.region [(⟨(some 7), none, (.mov (.tmp 0))⟩, .none), (⟨(some 8), none, (.call 40 [(.tmp 7)])⟩, (.ent (e40 fu))), (⟨(some 5), none, (.mov (.tmp 8))⟩, .none)] [[], [0], [1, 1, 0, 1]] false) (.seq (.region [(⟨(some 9), none, (.mov (.tmp 1))⟩, .none), (⟨(some 10), none, (.call 40 [(.tmp 9)])⟩, (.ent (e40 fu))), (⟨(some 6), none, (.mov (.tmp 10))⟩, .none)] [[], [0], [1, 1, 0, 1]] false) (.seq (.seq (.region [(⟨(some 11), none, (.mov (.tmp 5))⟩, .none)] [[]] false) (.cond (.tmp 11) (.seq (.seq (.region [(⟨(some 12), none, (.mov (.tmp 6))⟩, .none)] [[]] false) (.cond (.tmp 12) (.seq (.region [(⟨(some 4), none, (.mov (.const (.int .i64 0)))⟩, .none)] [[]] false) .ret) .skip)) (.seq (.region [(⟨(some 4), none, (.mov (.const (.int .i64 (-1))))⟩, .none)] [[]] false) .ret)) .skip)) (.seq (.seq (.region [(⟨(some 13), none, (.mov (.tmp 6))⟩, .none)] [[]] false) (.cond (.tmp 13) (.seq (.region [(⟨(some 4), none, (.mov (.const (.int .i64 1)))⟩, .none)] [[]] false) .ret) .skip)) (.seq (.seq (.region [(⟨(some 14), none, (.mov (.tmp 0))⟩, .none), (⟨(some 15), none, (.mov (.tmp 1))⟩, .none), (⟨(some 16), none, (.bin .lss (.tmp 14) (.tmp 15))⟩, .none)] [[], [], [0, 1]] false) (.cond (.tmp 16) (.seq (.region [(⟨(some 4), none, (.mov (.const (.int .i64 (-1))))⟩, .none)] [[]] false) .ret) .skip)) (.seq (.seq (.region [(⟨(some 17), none, (.mov (.tmp 0))⟩, .none), (⟨(some 18), none, (.mov (.tmp 1))⟩, .none), (⟨(some 19), none, (.bin .gtr (.tmp 17) (.tmp 18))⟩, .none)] [[], [], [0, 1]] false) (.cond (.tmp 19) (.seq (.region [(⟨(some 4), none, (.mov (.const (.int .i64 1)))⟩, .none)] [[]] false) .ret) .skip)) (.seq (.region [(⟨(some 4), none, (.mov (.const (.int .i64 0)))⟩, .none)] [[]] false) .ret))))))))
set_option maxRecDepth 1000000 in
theorem v39 (fu : Nat) : evF fu (d39 fu) rs39 20 (e39 fu).ash (e39 fu).osh (e39 fu).vsh = p39 fu := by kernel_rfl
set_option maxRecDepth 1000000 in
theorem b39 (fu : Nat) : BodyD Try.prog 39 20 (d39 fu).erase rs39 := bodyD_mk Try.func39 (by kernel_rfl) (by kernel_rfl) (by kernel_rfl) (by kernel_rfl)
theorem g39 (fu : Nat) : (e39 fu).Good Try.prog := good_by orders (b39 fu) (l := [e40 fu, e40 fu]) (by kernel_rfl) ⟨g40 fu, g40 fu, trivial⟩ (by kernel_rfl) (v39 fu)
def rs33 : List RVx := [(.tmp 4)]
/-- gazette/producers.byID -/
def p33 (fu : Nat) : ((Int) × ((Int) × ((Bool) × ((Int) × (Unit))))) × (((Int) × ((Int) × ((Bool) × ((Int) × (Unit))))) × (Unit)) → Option ((Unit) × (Int)) := fun ⟨⟨a0, a1, a2, a3, _⟩, ⟨a4, a5, a6, a7, _⟩, _⟩ =>
  Option.bind (p39 fu (a0, a4, ())) fun ⟨_, r27⟩ =>
  some ((), r27)
def e33 (fu : Nat) : Ent := ⟨33, (.cons (.agg 4 (.cons (.hole (.int .u64)) (.cons (.hole (.int .u64)) (.cons (.hole .bool) (.cons (.hole (.int .u64)) .nil))))) (.cons (.agg 4 (.cons (.hole (.int .u64)) (.cons (.hole (.int .u64)) (.cons (.hole .bool) (.cons (.hole (.int .u64)) .nil))))) .nil)), .nil, (.hole (.int .i64)), p33 fu⟩
def d33 (fu : Nat) : DC := (.seq (.region [(⟨(some 2), none, (.box 25 4 (.tmp 0))⟩, .none), (⟨(some 3), none, (.box 25 4 (.tmp 1))⟩, .none), (⟨(some 4), none, (.mov (.const (.int .i64 0)))⟩, .none)] [[], [], []] false) (.seq (.region [(⟨(some 5), none, (.faddr 0 (.tmp 2))⟩, .none), (⟨(some 6), none, (.load false 1 (.tmp 5))⟩, .none), (⟨(some 7), none, (.faddr 0 (.tmp 3))⟩, .none), (⟨(some 8), none, (.load false 1 (.tmp 7))⟩, .none), (⟨(some 9), none, (.call 39 [(.tmp 6), (.tmp 8)])⟩, (.ent (e39 fu))), (⟨(some 4), none, (.mov (.tmp 9))⟩, .none)] [[], [0], [], [2], [1, 3], [4, 4, 0, 1, 2, 3, 4]] false) .ret))
set_option maxRecDepth 1000000 in
theorem v33 (fu : Nat) : evF fu (d33 fu) rs33 10 (e33 fu).ash (e33 fu).osh (e33 fu).vsh = p33 fu := by kernel_rfl
set_option maxRecDepth 1000000 in
theorem b33 (fu : Nat) : BodyD Try.prog 33 10 (d33 fu).erase rs33 := bodyD_mk Try.func33 (by kernel_rfl) (by kernel_rfl) (by kernel_rfl) (by kernel_rfl)
theorem g33 (fu : Nat) : (e33 fu).Good Try.prog := good_by orders (b33 fu) (l := [e39 fu]) (by kernel_rfl) ⟨g39 fu, trivial⟩ (by kernel_rfl) (v33 fu)
def rs16 : List RVx := [(.tmp 2)]
/-- gazette/producers.Table -/
def p16 (fu : Nat) : (List (D_api_Producer)) × (Unit) → Option ((Unit) × (Bool)) := fun ⟨a0, _⟩ =>
  loopO (S := ((Int) × (Unit)) × (Unit)) fu (fun ⟨⟨v8, _⟩, _⟩ =>
    bif decide (v8 < (List.length a0 : Int)) then
     bif decide ((0 : Int) ≤ v8 ∧ v8 < (List.length a0 : Int)) then
      bif decide (Int.toNat v8 < List.length a0) then
       orK (E := ((Bool) × (Unit)) × (Unit))
        (bif (v8 == (0 : Int)) then
          some (.inl ((true, ()), ()))
         else
          bif decide ((0 : Int) ≤ IntKind.wrap .i64 (v8 - (1 : Int)) ∧ IntKind.wrap .i64 (v8 - (1 : Int)) < (List.length a0 : Int)) then
           bif decide (Int.toNat (IntKind.wrap .i64 (v8 - (1 : Int))) < List.length a0) then
            Option.bind (p33 fu (((List.getD a0 (Int.toNat (IntKind.wrap .i64 (v8 - (1 : Int)))) (dflt T_api_Producer)).1, ((List.getD a0 (Int.toNat (IntKind.wrap .i64 (v8 - (1 : Int)))) (dflt T_api_Producer)).2).1, (((List.getD a0 (Int.toNat (IntKind.wrap .i64 (v8 - (1 : Int)))) (dflt T_api_Producer)).2).2).1, (((List.getD a0 (Int.toNat (IntKind.wrap .i64 (v8 - (1 : Int)))) (dflt T_api_Producer)).2).2).2, ()), ((List.getD a0 (Int.toNat v8) (dflt T_api_Producer)).1, ((List.getD a0 (Int.toNat v8) (dflt T_api_Producer)).2).1, (((List.getD a0 (Int.toNat v8) (dflt T_api_Producer)).2).2).1, (((List.getD a0 (Int.toNat v8) (dflt T_api_Producer)).2).2).2, ()), ())) fun ⟨_, r33⟩ =>
            some (.inl ((decide (r33 < (0 : Int)), ()), ()))
           else none
          else none)
        fun ⟨⟨v5, _⟩, _⟩ =>
       bif (((List.getD a0 (Int.toNat v8) (dflt T_api_Producer)).1) == (0 : Int)) then
        inrO (some ((), false))
       else
        Option.bind (p24 fu (((List.getD a0 (Int.toNat v8) (dflt T_api_Producer)).2).1, ())) fun ⟨_, r34⟩ =>
        bif !r34 then
         inrO (some ((), false))
        else
         bif !v5 then
          inrO (some ((), false))
         else
          bif !((((List.getD a0 (Int.toNat v8) (dflt T_api_Producer)).2).2).1) then
           bif (((((List.getD a0 (Int.toNat v8) (dflt T_api_Producer)).2).2).2) != (0 : Int)) then
            inrO (some ((), false))
           else
            some (.inl ((IntKind.wrap .i64 (v8 + (1 : Int)), ()), ()))
          else
           some (.inl ((IntKind.wrap .i64 (v8 + (1 : Int)), ()), ()))
      else none
     else none
    else
     inrO (some ((), decide ((List.length a0 : Int) ≤ (256 : Int)))))
   (((0 : Int), ()), ())
def e16 (fu : Nat) : Ent := ⟨16, (.cons (.hole (.sl T_api_Producer)) .nil), .nil, (.hole .bool), p16 fu⟩
def d16 (fu : Nat) : DC := (.seq (.region [(⟨(some 2), none, (.mov (.const (.bool false)))⟩, .none)] [[]] false) (.seq (.seq (.region [(⟨(some 6), none, (.mov (.tmp 0))⟩, .none), (⟨(some 7), none, (.len false (.tmp 6))⟩, .none), (⟨(some 8), none, (.mov (.const (.int .i64 0)))⟩, .none)] [[], [0], []] false) (.block 0 (.loop ⟨[8], (.cons (.hole (.int .i64)) .nil), [], .nil, [0, 6, 7], []⟩
 (.seq (.region [(⟨(some 9), none, (.bin .lss (.tmp 8) (.tmp 7))⟩, .none)] [[]] false) (.seq (.cond (.tmp 9) .skip (.exit 0)) (.seq (.block 1 (.seq (.region [(⟨(some 10), none, (.mov (.tmp 8))⟩, .none), (⟨(some 11), none, (.iaddr 4 (.tmp 6) (.tmp 8))⟩, .none), (⟨(some 12), none, (.load true 4 (.tmp 11))⟩, .none), (⟨(some 4), none, (.alloc 25 4 [(.int .u64 0), (.int .u64 0), (.bool false), (.int .u64 0)])⟩, .none), (⟨(some 3), none, (.mov (.tmp 10))⟩, .none), (⟨none, none, (.store 4 (.tmp 4) (.tmp 12))⟩, .none)] [[], [], [1], [], [0, 0, 1, 2, 3], [3, 2, 4, 0, 1, 2, 3, 4]] false) (.join ⟨[5], (.cons (.hole .bool) .nil), [], .nil, [0, 4, 6, 7, 8], [128]⟩
 (.region [(⟨(some 13), none, (.mov (.tmp 3))⟩, .none), (⟨(some 14), none, (.bin .eql (.tmp 13) (.const (.int .i64 0)))⟩, .none), (⟨(some 15), none, (.mov (.tmp 14))⟩, .none), (⟨(some 16), (some (15, false)), (.mov (.tmp 0))⟩, .none), (⟨(some 17), (some (15, false)), (.mov (.tmp 3))⟩, .none), (⟨(some 18), (some (15, false)), (.bin .sub (.tmp 17) (.const (.int .i64 1)))⟩, .none), (⟨(some 19), (some (15, false)), (.iaddr 4 (.tmp 16) (.tmp 18))⟩, .none), (⟨(some 20), (some (15, false)), (.load true 4 (.tmp 19))⟩, .none), (⟨(some 21), (some (15, false)), (.load true 4 (.tmp 4))⟩, .none), (⟨(some 22), (some (15, false)), (.call 33 [(.tmp 20), (.tmp 21)])⟩, (.ent (e33 fu))), (⟨(some 23), (some (15, false)), (.bin .lss (.tmp 22) (.const (.int .i64 0)))⟩, .none), (⟨(some 24), none, (.pick (.tmp 15) (.const (.bool true)) (.tmp 23))⟩, .none), (⟨(some 5), none, (.mov (.tmp 24))⟩, .none)] [[], [0], [1], [2], [2], [4, 2], [3, 5, 2], [6, 2], [2], [7, 8, 2, 2], [9, 2], [2, 10], [11, 9, 0, 1, 2, 3, 4, 5, 6, 7, 8, 9, 10, 11]] true)
 (.seq (.region [(⟨(some 25), none, (.faddr 0 (.tmp 4))⟩, .none), (⟨(some 26), none, (.load false 1 (.tmp 25))⟩, .none), (⟨(some 27), none, (.bin .eql (.tmp 26) (.const (.int .u64 0)))⟩, .none), (⟨(some 28), none, (.mov (.tmp 27))⟩, .none), (⟨(some 29), (some (28, false)), (.faddr 1 (.tmp 4))⟩, .none), (⟨(some 30), (some (28, false)), (.load false 1 (.tmp 29))⟩, .none), (⟨(some 31), (some (28, false)), (.call 24 [(.tmp 30)])⟩, (.ent (e24 fu))), (⟨(some 32), (some (28, false)), (.not (.tmp 31))⟩, .none), (⟨(some 33), none, (.pick (.tmp 28) (.const (.bool true)) (.tmp 32))⟩, .none), (⟨(some 34), none, (.mov (.tmp 33))⟩, .none), (⟨(some 35), (some (34, false)), (.mov (.tmp 5))⟩, .none), (⟨(some 36), (some (34, false)), (.not (.tmp 35))⟩, .none), (⟨(some 37), none, (.pick (.tmp 34) (.const (.bool true)) (.tmp 36))⟩, .none), (⟨(some 38), none, (.mov (.tmp 37))⟩, .none), (⟨(some 39), (some (38, false)), (.faddr 2 (.tmp 4))⟩, .none), (⟨(some 40), (some (38, false)), (.load false 1 (.tmp 39))⟩, .none), (⟨(some 41), (some (38, false)), (.not (.tmp 40))⟩, .none), (⟨(some 42), (some (38, false)), (.mov (.tmp 41))⟩, .none), (⟨(some 43), (some (42, true)), (.faddr 3 (.tmp 4))⟩, .none), (⟨(some 44), (some (42, true)), (.load false 1 (.tmp 43))⟩, .none), (⟨(some 45), (some (42, true)), (.bin .neq (.tmp 44) (.const (.int .u64 0)))⟩, .none), (⟨(some 46), (some (38, false)), (.pick (.tmp 42) (.tmp 45) (.const (.bool false)))⟩, .none), (⟨(some 47), none, (.pick (.tmp 38) (.const (.bool true)) (.tmp 46))⟩, .none)] [[], [0], [1], [2], [3], [4, 3], [5, 3, 3], [6, 3], [3, 7], [8, 6], [9], [10, 9], [9, 11], [12, 9], [13], [14, 13], [15, 13], [16, 13, 13], [17], [18, 17], [19, 17], [17, 20, 13], [13, 21]] false) (.cond (.tmp 47) (.seq (.region [(⟨(some 2), none, (.mov (.const (.bool false)))⟩, .none)] [[]] false) .ret) .skip))))) (.region [(⟨(some 48), none, (.bin .add (.tmp 8) (.const (.int .i64 1)))⟩, .none), (⟨(some 8), none, (.mov (.tmp 48))⟩, .none)] [[], [0]] false))))))) (.seq (.region [(⟨(some 49), none, (.mov (.tmp 0))⟩, .none), (⟨(some 50), none, (.len false (.tmp 49))⟩, .none), (⟨(some 51), none, (.bin .leq (.tmp 50) (.const (.int .i64 256)))⟩, .none), (⟨(some 2), none, (.mov (.tmp 51))⟩, .none)] [[], [0], [1], [2, 0, 1, 2]] false) .ret)))
set_option maxRecDepth 1000000 in
theorem v16 (fu : Nat) : evF fu (d16 fu) rs16 52 (e16 fu).ash (e16 fu).osh (e16 fu).vsh = p16 fu := by kernel_rfl
set_option maxRecDepth 1000000 in
theorem b16 (fu : Nat) : BodyD Try.prog 16 52 (d16 fu).erase rs16 := bodyD_mk Try.func16 (by kernel_rfl) (by kernel_rfl) (by kernel_rfl) (by kernel_rfl)
theorem g16 (fu : Nat) : (e16 fu).Good Try.prog := good_by orders (b16 fu) (l := [e33 fu, e24 fu]) (by kernel_rfl) ⟨g33 fu, g24 fu, trivial⟩ (by kernel_rfl) (v16 fu)
def rs38 : List RVx := [(.cell 4 true 4)]
/-- gazette/producers.put$1 -/
def p38 (fu : Nat) : ((Int) × ((Int) × ((Bool) × ((Int) × (Unit))))) × (((Int) × ((Int) × ((Bool) × ((Int) × (Unit))))) × (Unit)) → Option ((Unit) × ((Int) × ((Int) × ((Bool) × ((Int) × (Unit)))))) := fun ⟨⟨a0, a1, a2, a3, _⟩, ⟨a4, a5, a6, a7, _⟩, _⟩ =>
  some ((), (a4, a5, a6, a7, ()))
def e38 (fu : Nat) : Ent := ⟨38, (.cons (.agg 4 (.cons (.hole (.int .u64)) (.cons (.hole (.int .u64)) (.cons (.hole .bool) (.cons (.hole (.int .u64)) .nil))))) (.cons (.agg 4 (.cons (.hole (.int .u64)) (.cons (.hole (.int .u64)) (.cons (.hole .bool) (.cons (.hole (.int .u64)) .nil))))) .nil)), .nil, (.agg 4 (.cons (.hole (.int .u64)) (.cons (.hole (.int .u64)) (.cons (.hole .bool) (.cons (.hole (.int .u64)) .nil))))), p38 fu⟩
def d38 (fu : Nat) : DC := (.seq (.region [(⟨(some 2), none, (.box 25 4 (.tmp 0))⟩, .none), (⟨(some 3), none, (.box 25 4 (.tmp 1))⟩, .none), (⟨(some 4), none, (.alloc 25 4 [(.int .u64 0), (.int .u64 0), (.bool false), (.int .u64 0)])⟩, .none)] [[], [], []] false) (.seq (.region [(⟨(some 5), none, (.load true 4 (.tmp 3))⟩, .none), (⟨none, none, (.store 4 (.tmp 4) (.tmp 5))⟩, .none)] [[], [0, 0]] false) .ret))
set_option maxRecDepth 1000000 in
theorem v38 (fu : Nat) : evF fu (d38 fu) rs38 6 (e38 fu).ash (e38 fu).osh (e38 fu).vsh = p38 fu := by kernel_rfl
set_option maxRecDepth 1000000 in
theorem b38 (fu : Nat) : BodyD Try.prog 38 6 (d38 fu).erase rs38 := bodyD_mk Try.func38 (by kernel_rfl) (by kernel_rfl) (by kernel_rfl) (by kernel_rfl)
theorem g38 (fu : Nat) : (e38 fu).Good Try.prog := good_by orders (b38 fu) (l := []) (by kernel_rfl) trivial (by kernel_rfl) (v38 fu)
def rs32 : List RVx := [(.tmp 8)]
/-- gazette/producers.merge[gazette/api.Producer] -/
def p32 (fu : Nat) : (List (D_api_Producer)) × ((List (D_api_Producer)) × (((Unit) × (Unit)) × (((Unit) × (Unit)) × (Unit)))) → Option ((Unit) × (List (D_api_Producer))) := fun ⟨a0, a1, ⟨_, _⟩, ⟨_, _⟩, _⟩ =>
  orK (E := ((List (D_api_Producer)) × ((List (D_api_Producer)) × ((List (D_api_Producer)) × (Unit)))) × (Unit))
   (loopO (S := ((List (D_api_Producer)) × ((List (D_api_Producer)) × ((List (D_api_Producer)) × (Unit)))) × (Unit)) fu (fun ⟨⟨v0, v1, v9, _⟩, _⟩ =>
      bif decide ((List.length v0 : Int) > (0 : Int)) then
       bif decide ((List.length v1 : Int) > (0 : Int)) then
        bif decide ((0 : Int) ≤ 0 ∧ 0 < (List.length v0 : Int)) then
         bif decide (0 < List.length v0) then
          bif decide ((0 : Int) ≤ 0 ∧ 0 < (List.length v1 : Int)) then
           bif decide (0 < List.length v1) then
            Option.bind (p33 fu (((List.getD v0 0 (dflt T_api_Producer)).1, ((List.getD v0 0 (dflt T_api_Producer)).2).1, (((List.getD v0 0 (dflt T_api_Producer)).2).2).1, (((List.getD v0 0 (dflt T_api_Producer)).2).2).2, ()), ((List.getD v1 0 (dflt T_api_Producer)).1, ((List.getD v1 0 (dflt T_api_Producer)).2).1, (((List.getD v1 0 (dflt T_api_Producer)).2).2).1, (((List.getD v1 0 (dflt T_api_Producer)).2).2).2, ()), ())) fun ⟨_, r46⟩ =>
            bif decide (r46 < (0 : Int)) then
             bif decide ((0 : Int) ≤ 0 ∧ 0 < (List.length v0 : Int)) then
              bif decide (0 < List.length v0) then
               bif decide (List.length v9 = List.length v9) then
                bif decide (List.length v9 + List.length ([((List.getD v0 0 (dflt T_api_Producer)).1, ((List.getD v0 0 (dflt T_api_Producer)).2).1, (((List.getD v0 0 (dflt T_api_Producer)).2).2).1, (((List.getD v0 0 (dflt T_api_Producer)).2).2).2)]) ≤ maxLen ∧ (List.length v9 + List.length ([((List.getD v0 0 (dflt T_api_Producer)).1, ((List.getD v0 0 (dflt T_api_Producer)).2).1, (((List.getD v0 0 (dflt T_api_Producer)).2).2).1, (((List.getD v0 0 (dflt T_api_Producer)).2).2).2)])) * 32 ≤ 140737488355328) then
                 bif decide (1 ≤ List.length v0) then
                  bif decide (List.length (v9 ++ [((List.getD v0 0 (dflt T_api_Producer)).1, ((List.getD v0 0 (dflt T_api_Producer)).2).1, (((List.getD v0 0 (dflt T_api_Producer)).2).2).1, (((List.getD v0 0 (dflt T_api_Producer)).2).2).2)]) = List.length (v9 ++ [((List.getD v0 0 (dflt T_api_Producer)).1, ((List.getD v0 0 (dflt T_api_Producer)).2).1, (((List.getD v0 0 (dflt T_api_Producer)).2).2).1, (((List.getD v0 0 (dflt T_api_Producer)).2).2).2)])) then
                   some (.inl ((List.drop 1 v0, v1, (v9 ++ [((List.getD v0 0 (dflt T_api_Producer)).1, ((List.getD v0 0 (dflt T_api_Producer)).2).1, (((List.getD v0 0 (dflt T_api_Producer)).2).2).1, (((List.getD v0 0 (dflt T_api_Producer)).2).2).2)]), ()), ()))
                  else none
                 else none
                else none
               else none
              else none
             else none
            else
             bif decide (r46 > (0 : Int)) then
              bif decide ((0 : Int) ≤ 0 ∧ 0 < (List.length v1 : Int)) then
               bif decide (0 < List.length v1) then
                bif decide (List.length v9 = List.length v9) then
                 bif decide (List.length v9 + List.length ([((List.getD v1 0 (dflt T_api_Producer)).1, ((List.getD v1 0 (dflt T_api_Producer)).2).1, (((List.getD v1 0 (dflt T_api_Producer)).2).2).1, (((List.getD v1 0 (dflt T_api_Producer)).2).2).2)]) ≤ maxLen ∧ (List.length v9 + List.length ([((List.getD v1 0 (dflt T_api_Producer)).1, ((List.getD v1 0 (dflt T_api_Producer)).2).1, (((List.getD v1 0 (dflt T_api_Producer)).2).2).1, (((List.getD v1 0 (dflt T_api_Producer)).2).2).2)])) * 32 ≤ 140737488355328) then
                  bif decide (1 ≤ List.length v1) then
                   bif decide (List.length (v9 ++ [((List.getD v1 0 (dflt T_api_Producer)).1, ((List.getD v1 0 (dflt T_api_Producer)).2).1, (((List.getD v1 0 (dflt T_api_Producer)).2).2).1, (((List.getD v1 0 (dflt T_api_Producer)).2).2).2)]) = List.length (v9 ++ [((List.getD v1 0 (dflt T_api_Producer)).1, ((List.getD v1 0 (dflt T_api_Producer)).2).1, (((List.getD v1 0 (dflt T_api_Producer)).2).2).1, (((List.getD v1 0 (dflt T_api_Producer)).2).2).2)])) then
                    some (.inl ((v0, List.drop 1 v1, (v9 ++ [((List.getD v1 0 (dflt T_api_Producer)).1, ((List.getD v1 0 (dflt T_api_Producer)).2).1, (((List.getD v1 0 (dflt T_api_Producer)).2).2).1, (((List.getD v1 0 (dflt T_api_Producer)).2).2).2)]), ()), ()))
                   else none
                  else none
                 else none
                else none
               else none
              else none
             else
              bif decide ((0 : Int) ≤ 0 ∧ 0 < (List.length v0 : Int)) then
               bif decide (0 < List.length v0) then
                bif decide ((0 : Int) ≤ 0 ∧ 0 < (List.length v1 : Int)) then
                 bif decide (0 < List.length v1) then
                  Option.bind (p38 fu (((List.getD v0 0 (dflt T_api_Producer)).1, ((List.getD v0 0 (dflt T_api_Producer)).2).1, (((List.getD v0 0 (dflt T_api_Producer)).2).2).1, (((List.getD v0 0 (dflt T_api_Producer)).2).2).2, ()), ((List.getD v1 0 (dflt T_api_Producer)).1, ((List.getD v1 0 (dflt T_api_Producer)).2).1, (((List.getD v1 0 (dflt T_api_Producer)).2).2).1, (((List.getD v1 0 (dflt T_api_Producer)).2).2).2, ()), ())) fun ⟨_, ⟨r47, r47_1, r47_2, r47_3, _⟩⟩ =>
                  bif decide (List.length v9 = List.length v9) then
                   bif decide (List.length v9 + List.length ([(r47, r47_1, r47_2, r47_3)]) ≤ maxLen ∧ (List.length v9 + List.length ([(r47, r47_1, r47_2, r47_3)])) * 32 ≤ 140737488355328) then
                    bif decide (1 ≤ List.length v0) then
                     bif decide (1 ≤ List.length v1) then
                      bif decide (List.length (v9 ++ [(r47, r47_1, r47_2, r47_3)]) = List.length (v9 ++ [(r47, r47_1, r47_2, r47_3)])) then
                       some (.inl ((List.drop 1 v0, List.drop 1 v1, (v9 ++ [(r47, r47_1, r47_2, r47_3)]), ()), ()))
                      else none
                     else none
                    else none
                   else none
                  else none
                 else none
                else none
               else none
              else none
           else none
          else none
         else none
        else none
       else
        inrO (bif decide (List.length v9 = List.length v9) then
         some (.inl ((v0, v1, v9, ()), ()))
        else none)
      else
       inrO (bif decide (List.length v9 = List.length v9) then
        some (.inl ((v0, v1, v9, ()), ()))
       else none))
     ((a0, a1, [], ()), ()))
   fun ⟨⟨v0, v1, v9, _⟩, _⟩ =>
  bif decide (List.length v9 = List.length v9) then
   bif decide (List.length v9 + List.length v0 ≤ maxLen ∧ (List.length v9 + List.length v0) * 32 ≤ 140737488355328) then
    bif decide (List.length (v9 ++ v0) = List.length (v9 ++ v0)) then
     bif decide (List.length (v9 ++ v0) + List.length v1 ≤ maxLen ∧ (List.length (v9 ++ v0) + List.length v1) * 32 ≤ 140737488355328) then
      bif decide (List.length ((v9 ++ v0) ++ v1) = List.length ((v9 ++ v0) ++ v1)) then
       some ((), ((v9 ++ v0) ++ v1))
      else none
     else none
    else none
   else none
  else none
def e32 (fu : Nat) : Ent := ⟨32, (.cons (.hole (.sl T_api_Producer)) (.cons (.hole (.sl T_api_Producer)) (.cons (.clo 33 0 .nil 0 .nil) (.cons (.clo 38 0 .nil 0 .nil) .nil)))), .nil, (.own 25 T_api_Producer), p32 fu⟩
def d32 (fu : Nat) : DC := (.seq (.region [(⟨(some 8), none, (.mov (.const (.slice none 0 0)))⟩, .none)] [[]] false) (.seq (.region [(⟨(some 9), none, (.mov (.const (.slice none 0 0)))⟩, .none)] [[]] false) (.join ⟨[0, 1, 9], (.cons (.hole (.sl T_api_Producer)) (.cons (.hole (.sl T_api_Producer)) (.cons (.own 25 T_api_Producer) .nil))), [], .nil, [], []⟩
 (.block 0 (.loop ⟨[0, 1, 9], (.cons (.hole (.sl T_api_Producer)) (.cons (.hole (.sl T_api_Producer)) (.cons (.own 25 T_api_Producer) .nil))), [], .nil, [2, 3], []⟩
 (.seq (.seq (.region [(⟨(some 11), none, (.mov (.tmp 0))⟩, .none), (⟨(some 12), none, (.len false (.tmp 11))⟩, .none), (⟨(some 13), none, (.bin .gtr (.tmp 12) (.const (.int .i64 0)))⟩, .none), (⟨(some 14), none, (.mov (.tmp 13))⟩, .none), (⟨(some 15), (some (14, true)), (.mov (.tmp 1))⟩, .none), (⟨(some 16), (some (14, true)), (.len false (.tmp 15))⟩, .none), (⟨(some 17), (some (14, true)), (.bin .gtr (.tmp 16) (.const (.int .i64 0)))⟩, .none), (⟨(some 18), none, (.pick (.tmp 14) (.tmp 17) (.const (.bool false)))⟩, .none)] [[], [0], [1], [2], [3], [4, 3], [5, 3], [3, 6]] false) (.cond (.tmp 18) .skip (.exit 0))) (.block 1 (.seq (.region [(⟨(some 19), none, (.mov (.tmp 2))⟩, .none), (⟨(some 20), none, (.mov (.tmp 0))⟩, .none), (⟨(some 21), none, (.iaddr 4 (.tmp 20) (.const (.int .i64 0)))⟩, .none), (⟨(some 22), none, (.load true 4 (.tmp 21))⟩, .none), (⟨(some 23), none, (.mov (.tmp 1))⟩, .none), (⟨(some 24), none, (.iaddr 4 (.tmp 23) (.const (.int .i64 0)))⟩, .none), (⟨(some 25), none, (.load true 4 (.tmp 24))⟩, .none), (⟨(some 26), none, (.callv (.tmp 19) [(.tmp 22), (.tmp 25)])⟩, (.ent (e33 fu))), (⟨(some 10), none, (.mov (.tmp 26))⟩, .none)] [[], [], [1], [2], [], [4], [5], [0, 3, 6], [7, 7, 0, 1, 2, 3, 4, 5, 6, 7]] true) (.block 2 (.seq (.region [(⟨(some 43), none, (.mov (.tmp 10))⟩, .none), (⟨(some 44), none, (.bin .lss (.tmp 43) (.const (.int .i64 0)))⟩, .none), (⟨(some 42), none, (.mov (.tmp 44))⟩, .none)] [[], [0], [1]] false) (.cond (.tmp 42) (.region [(⟨(some 45), none, (.mov (.tmp 9))⟩, .none), (⟨(some 46), none, (.mov (.tmp 0))⟩, .none), (⟨(some 47), none, (.iaddr 4 (.tmp 46) (.const (.int .i64 0)))⟩, .none), (⟨(some 48), none, (.load true 4 (.tmp 47))⟩, .none), (⟨(some 49), none, (.bslice 25 4 1 [(.int .u64 0), (.int .u64 0), (.bool false), (.int .u64 0)] [(0, (.tmp 48))])⟩, (.ty T_api_Producer)), (⟨(some 50), none, (.app 25 4 [(.int .u64 0), (.int .u64 0), (.bool false), (.int .u64 0)] 32 (.tmp 45) (.tmp 49))⟩, (.ty T_api_Producer)), (⟨(some 51), none, (.mov (.tmp 0))⟩, .none), (⟨(some 52), none, (.slc 4 (.tmp 51) (some (.const (.int .i64 1))) none)⟩, .none), (⟨(some 9), none, (.mov (.tmp 50))⟩, .none), (⟨(some 0), none, (.mov (.tmp 52))⟩, .none)] [[], [], [1], [2], [3], [0, 4], [], [6], [5, 5, 0, 1, 2, 3, 4, 5], [7, 8, 0, 1, 2, 3, 4, 5, 6, 7, 8]] true) (.seq (.region [(⟨(some 54), none, (.mov (.tmp 10))⟩, .none), (⟨(some 55), none, (.bin .gtr (.tmp 54) (.const (.int .i64 0)))⟩, .none), (⟨(some 53), none, (.mov (.tmp 55))⟩, .none)] [[], [0], [1]] false) (.cond (.tmp 53) (.region [(⟨(some 56), none, (.mov (.tmp 9))⟩, .none), (⟨(some 57), none, (.mov (.tmp 1))⟩, .none), (⟨(some 58), none, (.iaddr 4 (.tmp 57) (.const (.int .i64 0)))⟩, .none), (⟨(some 59), none, (.load true 4 (.tmp 58))⟩, .none), (⟨(some 60), none, (.bslice 25 4 1 [(.int .u64 0), (.int .u64 0), (.bool false), (.int .u64 0)] [(0, (.tmp 59))])⟩, (.ty T_api_Producer)), (⟨(some 61), none, (.app 25 4 [(.int .u64 0), (.int .u64 0), (.bool false), (.int .u64 0)] 32 (.tmp 56) (.tmp 60))⟩, (.ty T_api_Producer)), (⟨(some 62), none, (.mov (.tmp 1))⟩, .none), (⟨(some 63), none, (.slc 4 (.tmp 62) (some (.const (.int .i64 1))) none)⟩, .none), (⟨(some 9), none, (.mov (.tmp 61))⟩, .none), (⟨(some 1), none, (.mov (.tmp 63))⟩, .none)] [[], [], [1], [2], [3], [0, 4], [], [6], [5, 5, 0, 1, 2, 3, 4, 5], [7, 8, 0, 1, 2, 3, 4, 5, 6, 7, 8]] true) (.region [(⟨(some 27), none, (.mov (.tmp 9))⟩, .none), (⟨(some 28), none, (.mov (.tmp 3))⟩, .none), (⟨(some 29), none, (.mov (.tmp 0))⟩, .none), (⟨(some 30), none, (.iaddr 4 (.tmp 29) (.const (.int .i64 0)))⟩, .none), (⟨(some 31), none, (.load true 4 (.tmp 30))⟩, .none), (⟨(some 32), none, (.mov (.tmp 1))⟩, .none), (⟨(some 33), none, (.iaddr 4 (.tmp 32) (.const (.int .i64 0)))⟩, .none), (⟨(some 34), none, (.load true 4 (.tmp 33))⟩, .none), (⟨(some 35), none, (.callv (.tmp 28) [(.tmp 31), (.tmp 34)])⟩, (.ent (e38 fu))), (⟨(some 36), none, (.bslice 25 4 1 [(.int .u64 0), (.int .u64 0), (.bool false), (.int .u64 0)] [(0, (.tmp 35))])⟩, (.ty T_api_Producer)), (⟨(some 37), none, (.app 25 4 [(.int .u64 0), (.int .u64 0), (.bool false), (.int .u64 0)] 32 (.tmp 27) (.tmp 36))⟩, (.ty T_api_Producer)), (⟨(some 38), none, (.mov (.tmp 0))⟩, .none), (⟨(some 39), none, (.slc 4 (.tmp 38) (some (.const (.int .i64 1))) none)⟩, .none), (⟨(some 40), none, (.mov (.tmp 1))⟩, .none), (⟨(some 41), none, (.slc 4 (.tmp 40) (some (.const (.int .i64 1))) none)⟩, .none), (⟨(some 9), none, (.mov (.tmp 37))⟩, .none), (⟨(some 0), none, (.mov (.tmp 39))⟩, .none), (⟨(some 1), none, (.mov (.tmp 41))⟩, .none)] [[], [], [], [2], [3], [], [5], [6], [1, 4, 7], [8], [0, 9, 8], [], [11], [], [13], [10, 10, 0, 1, 2, 3, 4, 5, 6, 7, 8, 9, 10], [12, 15, 0, 1, 2, 3, 4, 5, 6, 7, 8, 9, 10, 11, 12, 15], [14, 16, 0, 1, 2, 3, 4, 5, 6, 7, 8, 9, 10, 11, 12, 13, 14, 15, 16]] true)))))))))))
 (.seq (.region [(⟨(some 64), none, (.mov (.tmp 9))⟩, .none), (⟨(some 65), none, (.mov (.tmp 0))⟩, .none), (⟨(some 66), none, (.app 25 4 [(.int .u64 0), (.int .u64 0), (.bool false), (.int .u64 0)] 32 (.tmp 64) (.tmp 65))⟩, (.ty T_api_Producer)), (⟨(some 67), none, (.mov (.tmp 1))⟩, .none), (⟨(some 68), none, (.app 25 4 [(.int .u64 0), (.int .u64 0), (.bool false), (.int .u64 0)] 32 (.tmp 66) (.tmp 67))⟩, (.ty T_api_Producer)), (⟨(some 8), none, (.mov (.tmp 68))⟩, .none)] [[], [], [0, 1], [], [2, 3, 2], [4, 4, 0, 1, 2, 3, 4]] false) .ret))))
set_option maxRecDepth 1000000 in
theorem v32 (fu : Nat) : evF fu (d32 fu) rs32 69 (e32 fu).ash (e32 fu).osh (e32 fu).vsh = p32 fu := by kernel_rfl
set_option maxRecDepth 1000000 in
theorem b32 (fu : Nat) : BodyD Try.prog 32 69 (d32 fu).erase rs32 := bodyD_mk Try.func32 (by kernel_rfl) (by kernel_rfl) (by kernel_rfl) (by kernel_rfl)
theorem g32 (fu : Nat) : (e32 fu).Good Try.prog := good_by orders (b32 fu) (l := [e33 fu, e38 fu]) (by kernel_rfl) ⟨g33 fu, g38 fu, trivial⟩ (by kernel_rfl) (v32 fu)
def rs31 : List RVx := [(.tmp 2), (.tmp 3)]
/-- gazette/producers.fitting -/
def p31_1 (fu : Nat) : (List (D_api_Producer)) × (Unit) → Option (((Unit) × (Unit)) × ((List (D_api_Producer)) × ((Int) × (Unit)))) := fun ⟨a0, _⟩ =>
  bif decide (((List.length a0) : Int) > (256 : Int)) then
   some (((), ()), ([], (153 : Int), ()))
  else
   bif decide (List.length a0 = List.length a0) then
    some (((), ()), (a0, (0 : Int), ()))
   else none
def e31_1 (fu : Nat) : Ent := ⟨31, (.cons (.own 25 T_api_Producer) .nil), (.cons .dead .nil), (.tup 2 (.cons (.own 25 T_api_Producer) (.cons (.hole (.int .i64)) .nil))), p31_1 fu⟩
def d31_1 (fu : Nat) : DC := (.seq (.region [(⟨(some 2), none, (.mov (.const (.slice none 0 0)))⟩, .none), (⟨(some 3), none, (.mov (.const (.int .i64 0)))⟩, .none)] [[], [0]] false) (.seq (.seq (.region [(⟨(some 4), none, (.mov (.tmp 0))⟩, .none), (⟨(some 5), none, (.len false (.tmp 4))⟩, .none), (⟨(some 6), none, (.bin .gtr (.tmp 5) (.const (.int .i64 256)))⟩, .none)] [[], [0], [1]] false) (.cond (.tmp 6) (.seq (.region [(⟨(some 2), none, (.mov (.const (.slice none 0 0)))⟩, .none), (⟨(some 3), none, (.mov (.const (.int .i64 153)))⟩, .none)] [[], [0, 0]] false) .ret) .skip)) (.seq (.region [(⟨(some 7), none, (.mov (.tmp 0))⟩, .none), (⟨(some 2), none, (.mov (.tmp 7))⟩, .none), (⟨(some 3), none, (.mov (.const (.int .i64 0)))⟩, .none)] [[], [0, 0], [1, 0, 1]] false) .ret)))
set_option maxRecDepth 1000000 in
theorem v31_1 (fu : Nat) : evF fu (d31_1 fu) rs31 8 (e31_1 fu).ash (e31_1 fu).osh (e31_1 fu).vsh = p31_1 fu := by kernel_rfl
set_option maxRecDepth 1000000 in
theorem b31_1 (fu : Nat) : BodyD Try.prog 31 8 (d31_1 fu).erase rs31 := bodyD_mk Try.func31 (by kernel_rfl) (by kernel_rfl) (by kernel_rfl) (by kernel_rfl)
theorem g31_1 (fu : Nat) : (e31_1 fu).Good Try.prog := good_by orders (b31_1 fu) (l := []) (by kernel_rfl) trivial (by kernel_rfl) (v31_1 fu)
def rs27 : List RVx := [(.tmp 4), (.tmp 5)]
/-- gazette/producers.put -/
def p27 (fu : Nat) : (List (D_api_Producer)) × (((Int) × ((Int) × ((Bool) × ((Int) × (Unit))))) × (Unit)) → Option ((Unit) × ((List (D_api_Producer)) × ((Int) × (Unit)))) := fun ⟨a0, ⟨a1, a2, a3, a4, _⟩, _⟩ =>
  Option.bind (p16 fu (a0, ())) fun ⟨_, r50⟩ =>
  bif !r50 then
   some ((), ([], (1 : Int), ()))
  else
   Option.bind (p11 fu (a0, a1, a2, ())) fun ⟨_, ⟨r51, r51_1, _⟩⟩ =>
   bif (r51 == (4 : Int)) then
    some ((), ([], (151 : Int), ()))
   else
    bif (r51 == (2 : Int)) then
     some ((), ([], (152 : Int), ()))
    else
     bif (r51 == (3 : Int)) then
      some ((), ([], (152 : Int), ()))
     else
      Option.bind (p32 fu (a0, [(a1, a2, a3, a4)], ((), ()), ((), ()), ())) fun ⟨_, r52⟩ =>
      bif decide (List.length r52 = List.length r52) then
       Option.bind (p31_1 fu (r52, ())) fun ⟨⟨_, _⟩, ⟨r53, r53_1, _⟩⟩ =>
       bif decide (List.length r53 = List.length r53) then
        some ((), (r53, r53_1, ()))
       else none
      else none
def e27 (fu : Nat) : Ent := ⟨27, (.cons (.hole (.sl T_api_Producer)) (.cons (.agg 4 (.cons (.hole (.int .u64)) (.cons (.hole (.int .u64)) (.cons (.hole .bool) (.cons (.hole (.int .u64)) .nil))))) .nil)), .nil, (.tup 2 (.cons (.own 25 T_api_Producer) (.cons (.hole (.int .i64)) .nil))), p27 fu⟩
def d27 (fu : Nat) : DC := (.seq (.region [(⟨(some 3), none, (.box 25 4 (.tmp 1))⟩, .none), (⟨(some 4), none, (.mov (.const (.slice none 0 0)))⟩, .none), (⟨(some 5), none, (.mov (.const (.int .i64 0)))⟩, .none)] [[], [], [1]] false) (.seq (.seq (.region [(⟨(some 9), none, (.mov (.tmp 0))⟩, .none), (⟨(some 10), none, (.call 16 [(.tmp 9)])⟩, (.ent (e16 fu))), (⟨(some 11), none, (.not (.tmp 10))⟩, .none)] [[], [0], [1]] false) (.cond (.tmp 11) (.seq (.region [(⟨(some 4), none, (.mov (.const (.slice none 0 0)))⟩, .none), (⟨(some 5), none, (.mov (.const (.int .i64 1)))⟩, .none)] [[], [0, 0]] false) .ret) .skip)) (.seq (.seq (.region [(⟨(some 13), none, (.mov (.tmp 0))⟩, .none), (⟨(some 14), none, (.faddr 0 (.tmp 3))⟩, .none), (⟨(some 15), none, (.load false 1 (.tmp 14))⟩, .none), (⟨(some 16), none, (.faddr 1 (.tmp 3))⟩, .none), (⟨(some 17), none, (.load false 1 (.tmp 16))⟩, .none), (⟨(some 18), none, (.call 11 [(.tmp 13), (.tmp 15), (.tmp 17)])⟩, (.ent (e11 fu))), (⟨(some 12), none, (.mov (.tmp 18))⟩, .none), (⟨(some 19), none, (.ext (.tmp 12) 0)⟩, .none), (⟨(some 20), none, (.ext (.tmp 12) 1)⟩, .none), (⟨(some 6), none, (.mov (.tmp 19))⟩, .none), (⟨(some 7), none, (.mov (.tmp 20))⟩, .none)] [[], [], [1], [], [3], [0, 2, 4], [5], [6], [6], [7, 5, 0, 1, 2, 3, 4, 5, 6, 7], [8, 9, 0, 1, 2, 3, 4, 5, 6, 7, 8, 9]] false) (.seq (.region [(⟨(some 21), none, (.mov (.tmp 6))⟩, .none)] [[]] false) (.block 0 (.seq (.region [(⟨(some 23), none, (.bin .eql (.tmp 21) (.const (.int .i64 4)))⟩, .none), (⟨(some 22), none, (.mov (.tmp 23))⟩, .none)] [[], [0]] false) (.cond (.tmp 22) (.seq (.region [(⟨(some 4), none, (.mov (.const (.slice none 0 0)))⟩, .none), (⟨(some 5), none, (.mov (.const (.int .i64 151)))⟩, .none)] [[], [0, 0]] false) .ret) (.seq (.seq (.region [(⟨(some 25), none, (.bin .eql (.tmp 21) (.const (.int .i64 2)))⟩, .none), (⟨(some 24), none, (.mov (.tmp 25))⟩, .none)] [[], [0]] false) (.cond (.tmp 24) .skip (.region [(⟨(some 26), none, (.bin .eql (.tmp 21) (.const (.int .i64 3)))⟩, .none), (⟨(some 24), none, (.mov (.tmp 26))⟩, .none)] [[], [0]] false))) (.cond (.tmp 24) (.seq (.region [(⟨(some 4), none, (.mov (.const (.slice none 0 0)))⟩, .none), (⟨(some 5), none, (.mov (.const (.int .i64 152)))⟩, .none)] [[], [0, 0]] false) .ret) .skip))))))) (.seq (.region [(⟨(some 8), none, (.mov (.func 38))⟩, .none)] [[]] false) (.seq (.region [(⟨(some 27), none, (.mov (.tmp 0))⟩, .none), (⟨(some 28), none, (.load true 4 (.tmp 3))⟩, .none), (⟨(some 29), none, (.bslice 25 4 1 [(.int .u64 0), (.int .u64 0), (.bool false), (.int .u64 0)] [(0, (.tmp 28))])⟩, (.ty T_api_Producer)), (⟨(some 30), none, (.mov (.tmp 8))⟩, .none), (⟨(some 31), none, (.call 32 [(.tmp 27), (.tmp 29), (.func 33), (.tmp 30)])⟩, (.ent (e32 fu))), (⟨(some 32), none, (.call 31 [(.tmp 31)])⟩, (.ent (e31_1 fu))), (⟨(some 33), none, (.ext (.tmp 32) 0)⟩, .none), (⟨(some 34), none, (.ext (.tmp 32) 1)⟩, .none), (⟨(some 4), none, (.mov (.tmp 33))⟩, .none), (⟨(some 5), none, (.mov (.tmp 34))⟩, .none)] [[], [], [1], [], [0, 2, 3], [4, 4], [5], [5], [6, 5, 0, 1, 2, 3, 4, 5, 6, 7], [7, 8, 0, 1, 2, 3, 4, 5, 6, 7, 8]] false) .ret)))))
set_option maxRecDepth 1000000 in
theorem v27 (fu : Nat) : evF fu (d27 fu) rs27 35 (e27 fu).ash (e27 fu).osh (e27 fu).vsh = p27 fu := by kernel_rfl
set_option maxRecDepth 1000000 in
theorem b27 (fu : Nat) : BodyD Try.prog 27 35 (d27 fu).erase rs27 := bodyD_mk Try.func27 (by kernel_rfl) (by kernel_rfl) (by kernel_rfl) (by kernel_rfl)
theorem g27 (fu : Nat) : (e27 fu).Good Try.prog := good_by orders (b27 fu) (l := [e16 fu, e11 fu, e32 fu, e31_1 fu]) (by kernel_rfl) ⟨g16 fu, g11 fu, g32 fu, g31_1 fu, trivial⟩ (by kernel_rfl) (v27 fu)
def rs12 : List RVx := [(.tmp 8), (.tmp 9)]
/-- gazette/producers.Accept -/
def p12 (fu : Nat) : (List (D_api_Producer)) × ((Int) × ((Int) × ((Int) × (Unit)))) → Option ((Unit) × ((List (D_api_Producer)) × ((Int) × (Unit)))) := fun ⟨a0, a1, a2, a3, _⟩ =>
  Option.bind (p27 fu (a0, (a1, a2, true, a3, ()), ())) fun ⟨_, ⟨r55, r55_1, _⟩⟩ =>
  bif decide (List.length r55 = List.length r55) then
   some ((), (r55, r55_1, ()))
  else none
def e12 (fu : Nat) : Ent := ⟨12, (.cons (.hole (.sl T_api_Producer)) (.cons (.hole (.int .u64)) (.cons (.hole (.int .u64)) (.cons (.hole (.int .u64)) .nil)))), .nil, (.tup 2 (.cons (.own 25 T_api_Producer) (.cons (.hole (.int .i64)) .nil))), p12 fu⟩
def d12 (fu : Nat) : DC := (.seq (.region [(⟨(some 8), none, (.mov (.const (.slice none 0 0)))⟩, .none), (⟨(some 9), none, (.mov (.const (.int .i64 0)))⟩, .none)] [[], [0]] false) (.seq (.region [(⟨(some 10), none, (.mov (.tmp 0))⟩, .none), (⟨(some 11), none, (.mov (.tmp 1))⟩, .none), (⟨(some 12), none, (.mov (.tmp 2))⟩, .none), (⟨(some 13), none, (.mov (.tmp 3))⟩, .none), (⟨(some 14), none, (.build 4 [(.int .u64 0), (.int .u64 0), (.bool false), (.int .u64 0)] [(0, (1, (.tmp 11))), (1, (1, (.tmp 12))), (2, (1, (.const (.bool true)))), (3, (1, (.tmp 13)))])⟩, .none), (⟨(some 15), none, (.call 27 [(.tmp 10), (.tmp 14)])⟩, (.ent (e27 fu))), (⟨(some 16), none, (.ext (.tmp 15) 0)⟩, .none), (⟨(some 17), none, (.ext (.tmp 15) 1)⟩, .none), (⟨(some 8), none, (.mov (.tmp 16))⟩, .none), (⟨(some 9), none, (.mov (.tmp 17))⟩, .none)] [[], [], [], [], [1, 2, 3], [0, 4], [5], [5], [6, 5, 0, 1, 2, 3, 4, 5, 6, 7], [7, 8, 0, 1, 2, 3, 4, 5, 6, 7, 8]] false) .ret))
set_option maxRecDepth 1000000 in
theorem v12 (fu : Nat) : evF fu (d12 fu) rs12 18 (e12 fu).ash (e12 fu).osh (e12 fu).vsh = p12 fu := by kernel_rfl
set_option maxRecDepth 1000000 in
theorem b12 (fu : Nat) : BodyD Try.prog 12 18 (d12 fu).erase rs12 := bodyD_mk Try.func12 (by kernel_rfl) (by kernel_rfl) (by kernel_rfl) (by kernel_rfl)
theorem g12 (fu : Nat) : (e12 fu).Good Try.prog := good_by orders (b12 fu) (l := [e27 fu]) (by kernel_rfl) ⟨g27 fu, trivial⟩ (by kernel_rfl) (v12 fu)
def rs30 : List RVx := [(.tmp 4)]
/-- gazette/producers.stands -/
def p30 (fu : Nat) : (Int) × ((List (Int)) × (Unit)) → Option ((Unit) × (Bool)) := fun ⟨a0, a1, _⟩ =>
  bif decide (a0 < (IntKind.wrap .u64 (List.length a1 : Int))) then
   bif decide ((IntKind.wrap .u64 (a0 + (1 : Int))) < (IntKind.wrap .u64 (List.length a1 : Int))) then
    bif decide ((0 : Int) ≤ a0 ∧ a0 < (List.length a1 : Int)) then
     bif decide (Int.toNat a0 < List.length a1) then
      bif decide ((0 : Int) ≤ IntKind.wrap .u64 (a0 + (1 : Int)) ∧ IntKind.wrap .u64 (a0 + (1 : Int)) < (List.length a1 : Int)) then
       bif decide (Int.toNat (IntKind.wrap .u64 (a0 + (1 : Int))) < List.length a1) then
        some ((), decide ((List.getD a1 (Int.toNat a0) (dflt (.int .u64))) < (List.getD a1 (Int.toNat (IntKind.wrap .u64 (a0 + (1 : Int)))) (dflt (.int .u64)))))
       else none
      else none
     else none
    else none
   else
    some ((), false)
  else
   some ((), false)
def e30 (fu : Nat) : Ent := ⟨30, (.cons (.hole (.int .u64)) (.cons (.hole (.sl (.int .u64))) .nil)), .nil, (.hole .bool), p30 fu⟩
def d30 (fu : Nat) : DC := (.seq (.region [(⟨(some 4), none, (.mov (.const (.bool false)))⟩, .none)] [[]] false) (.seq (.region [(⟨(some 6), none, (.mov (.tmp 1))⟩, .none), (⟨(some 7), none, (.len false (.tmp 6))⟩, .none), (⟨(some 8), none, (.conv .u64 (.tmp 7))⟩, .none), (⟨(some 5), none, (.mov (.tmp 8))⟩, .none)] [[], [0], [1], [2, 0, 1, 2]] false) (.seq (.region [(⟨(some 9), none, (.mov (.tmp 0))⟩, .none), (⟨(some 10), none, (.mov (.tmp 5))⟩, .none), (⟨(some 11), none, (.bin .lss (.tmp 9) (.tmp 10))⟩, .none), (⟨(some 12), none, (.mov (.tmp 11))⟩, .none), (⟨(some 13), (some (12, true)), (.mov (.tmp 0))⟩, .none), (⟨(some 14), (some (12, true)), (.bin .add (.tmp 13) (.const (.int .u64 1)))⟩, .none), (⟨(some 15), (some (12, true)), (.mov (.tmp 5))⟩, .none), (⟨(some 16), (some (12, true)), (.bin .lss (.tmp 14) (.tmp 15))⟩, .none), (⟨(some 17), none, (.pick (.tmp 12) (.tmp 16) (.const (.bool false)))⟩, .none), (⟨(some 18), none, (.mov (.tmp 17))⟩, .none), (⟨(some 19), (some (18, true)), (.mov (.tmp 1))⟩, .none), (⟨(some 20), (some (18, true)), (.mov (.tmp 0))⟩, .none), (⟨(some 21), (some (18, true)), (.iaddr 1 (.tmp 19) (.tmp 20))⟩, .none), (⟨(some 22), (some (18, true)), (.load false 1 (.tmp 21))⟩, .none), (⟨(some 23), (some (18, true)), (.mov (.tmp 1))⟩, .none), (⟨(some 24), (some (18, true)), (.mov (.tmp 0))⟩, .none), (⟨(some 25), (some (18, true)), (.bin .add (.tmp 24) (.const (.int .u64 1)))⟩, .none), (⟨(some 26), (some (18, true)), (.iaddr 1 (.tmp 23) (.tmp 25))⟩, .none), (⟨(some 27), (some (18, true)), (.load false 1 (.tmp 26))⟩, .none), (⟨(some 28), (some (18, true)), (.bin .lss (.tmp 22) (.tmp 27))⟩, .none), (⟨(some 29), none, (.pick (.tmp 18) (.tmp 28) (.const (.bool false)))⟩, .none), (⟨(some 4), none, (.mov (.tmp 29))⟩, .none)] [[], [], [0, 1], [2], [3], [4, 3], [3], [5, 6, 3], [3, 7], [8, 3], [9], [9], [10, 11, 9], [12, 9], [9], [9], [15, 9], [14, 16, 9], [17, 9], [13, 18, 9], [9, 19], [20, 9, 0, 1, 2, 3, 4, 5, 6, 7, 8, 9, 10, 11, 12, 13, 14, 15, 16, 17, 18, 19, 20]] true) .ret)))
set_option maxRecDepth 1000000 in
theorem v30 (fu : Nat) : evF fu (d30 fu) rs30 30 (e30 fu).ash (e30 fu).osh (e30 fu).vsh = p30 fu := by kernel_rfl
set_option maxRecDepth 1000000 in
theorem b30 (fu : Nat) : BodyD Try.prog 30 30 (d30 fu).erase rs30 := bodyD_mk Try.func30 (by kernel_rfl) (by kernel_rfl) (by kernel_rfl) (by kernel_rfl)
theorem g30 (fu : Nat) : (e30 fu).Good Try.prog := good_by orders (b30 fu) (l := []) (by kernel_rfl) trivial (by kernel_rfl) (v30 fu)
def rs29 : List RVx := [(.cell 3 true 4)]
/-- gazette/producers.Move$1 -/
def p29 (fu : Nat) : ((Int) × ((Int) × ((Bool) × ((Int) × (Unit))))) × (((List (Int)) × (Unit)) × (Unit)) → Option ((((List (Int)) × (Unit)) × (Unit)) × ((Int) × ((Int) × ((Bool) × ((Int) × (Unit)))))) := fun ⟨⟨a0, a1, a2, a3, _⟩, ⟨a4, _⟩, _⟩ =>
  orK (E := ((Bool) × (Unit)) × (Unit))
   (bif a2 then
     Option.bind (p30 fu (a3, a4, ())) fun ⟨_, r61⟩ =>
     some (.inl ((r61, ()), ()))
    else
     some (.inl ((false, ()), ())))
   fun ⟨⟨v17, _⟩, _⟩ =>
  bif v17 then
   bif decide ((0 : Int) ≤ a3 ∧ a3 < (List.length a4 : Int)) then
    bif decide (Int.toNat a3 < List.length a4) then
     some (((a4, ()), ()), (a0, a1, true, (List.getD a4 (Int.toNat a3) (dflt (.int .u64))), ()))
    else none
   else none
  else
   some (((a4, ()), ()), (a0, a1, false, (0 : Int), ()))
def e29 (fu : Nat) : Ent := ⟨29, (.cons (.agg 4 (.cons (.hole (.int .u64)) (.cons (.hole (.int .u64)) (.cons (.hole .bool) (.cons (.hole (.int .u64)) .nil))))) (.cons (.box 35 1 (.cons (.hole (.sl (.int .u64))) .nil)) .nil)), (.cons (.agg 1 (.cons (.hole (.sl (.int .u64))) .nil)) .nil), (.agg 4 (.cons (.hole (.int .u64)) (.cons (.hole (.int .u64)) (.cons (.hole .bool) (.cons (.hole (.int .u64)) .nil))))), p29 fu⟩
def d29 (fu : Nat) : DC := (.seq (.region [(⟨(some 2), none, (.box 25 4 (.tmp 0))⟩, .none), (⟨(some 3), none, (.alloc 25 4 [(.int .u64 0), (.int .u64 0), (.bool false), (.int .u64 0)])⟩, .none)] [[], []] false) (.seq (.region [(⟨(some 5), none, (.faddr 0 (.tmp 2))⟩, .none), (⟨(some 6), none, (.load false 1 (.tmp 5))⟩, .none), (⟨(some 7), none, (.faddr 1 (.tmp 2))⟩, .none), (⟨(some 8), none, (.load false 1 (.tmp 7))⟩, .none), (⟨(some 9), none, (.build 4 [(.int .u64 0), (.int .u64 0), (.bool false), (.int .u64 0)] [(0, (1, (.tmp 6))), (1, (1, (.tmp 8)))])⟩, .none), (⟨(some 4), none, (.alloc 25 4 [(.int .u64 0), (.int .u64 0), (.bool false), (.int .u64 0)])⟩, .none), (⟨none, none, (.store 4 (.tmp 4) (.tmp 9))⟩, .none)] [[], [0], [], [2], [1, 3], [], [5, 4, 0, 1, 2, 3, 4, 5]] false) (.seq (.join ⟨[17], (.cons (.hole .bool) .nil), [], .nil, [1, 2, 3, 4], [0, 2, 18, 114]⟩
 (.region [(⟨(some 10), none, (.faddr 2 (.tmp 2))⟩, .none), (⟨(some 11), none, (.load false 1 (.tmp 10))⟩, .none), (⟨(some 12), none, (.mov (.tmp 11))⟩, .none), (⟨(some 13), (some (12, true)), (.faddr 3 (.tmp 2))⟩, .none), (⟨(some 14), (some (12, true)), (.load false 1 (.tmp 13))⟩, .none), (⟨(some 15), (some (12, true)), (.load false 1 (.tmp 1))⟩, .none), (⟨(some 16), (some (12, true)), (.call 30 [(.tmp 14), (.tmp 15)])⟩, (.ent (e30 fu))), (⟨(some 17), none, (.pick (.tmp 12) (.tmp 16) (.const (.bool false)))⟩, .none)] [[], [0], [1], [2], [3, 2], [2], [4, 5, 2, 2], [2, 6]] false)
 (.cond (.tmp 17) (.region [(⟨(some 18), none, (.load false 1 (.tmp 1))⟩, .none), (⟨(some 19), none, (.faddr 3 (.tmp 2))⟩, .none), (⟨(some 20), none, (.load false 1 (.tmp 19))⟩, .none), (⟨(some 21), none, (.iaddr 1 (.tmp 18) (.tmp 20))⟩, .none), (⟨(some 22), none, (.load false 1 (.tmp 21))⟩, .none), (⟨(some 23), none, (.faddr 2 (.tmp 4))⟩, .none), (⟨none, none, (.store 1 (.tmp 23) (.const (.bool true)))⟩, .none), (⟨(some 24), none, (.faddr 3 (.tmp 4))⟩, .none), (⟨none, none, (.store 1 (.tmp 24) (.tmp 22))⟩, .none)] [[], [], [1], [0, 2], [3], [], [5], [0, 1, 2, 3, 4, 5, 6], [7, 4, 6, 0, 1, 2, 3, 4, 5, 6]] true) .skip)) (.seq (.region [(⟨(some 25), none, (.load true 4 (.tmp 4))⟩, .none), (⟨none, none, (.store 4 (.tmp 3) (.tmp 25))⟩, .none)] [[], [0, 0]] false) .ret))))
set_option maxRecDepth 1000000 in
theorem v29 (fu : Nat) : evF fu (d29 fu) rs29 26 (e29 fu).ash (e29 fu).osh (e29 fu).vsh = p29 fu := by kernel_rfl
set_option maxRecDepth 1000000 in
theorem b29 (fu : Nat) : BodyD Try.prog 29 26 (d29 fu).erase rs29 := bodyD_mk Try.func29 (by kernel_rfl) (by kernel_rfl) (by kernel_rfl) (by kernel_rfl)
theorem g29 (fu : Nat) : (e29 fu).Good Try.prog := good_by orders (b29 fu) (l := [e30 fu]) (by kernel_rfl) ⟨g30 fu, trivial⟩ (by kernel_rfl) (v29 fu)
def rs28 : List RVx := [(.tmp 4)]
/-- gazette/copies.Each[gazette/api.Producer] -/
def p28 (fu : Nat) : (List (D_api_Producer)) × (((Unit) × (((List (Int)) × (Unit)) × (Unit))) × (Unit)) → Option ((((List (Int)) × (Unit)) × (Unit)) × (List (D_api_Producer))) := fun ⟨a0, ⟨_, ⟨⟨a1, _⟩, _⟩⟩, _⟩ =>
  bif ((List.length a0 : Int) == (0 : Int)) then
   some (((a1, ()), ()), [])
  else
   bif decide ((0 : Int) ≤ (List.length a0 : Int) ∧ ((List.length a0 : Int) : Int) ≤ (List.length a0 : Int) ∧ ((List.length a0 : Int) : Int) ≤ 9223372036854775807 ∧ (32 : Int) * (List.length a0 : Int) ≤ 140737488355328) then
    bif decide (Int.toNat (List.length a0 : Int) = List.length (List.replicate (Int.toNat (List.length a0 : Int)) ((0 : Int), (0 : Int), false, (0 : Int)))) then
     loopO (S := ((List (D_api_Producer)) × ((Int) × (Unit))) × (((List (Int)) × (Unit)) × (Unit))) fu (fun ⟨⟨v5, v16, _⟩, ⟨⟨v1000, _⟩, _⟩⟩ =>
       bif decide (v16 < (List.length a0 : Int)) then
        bif decide ((0 : Int) ≤ v16 ∧ v16 < (List.length a0 : Int)) then
         bif decide (Int.toNat v16 < List.length a0) then
          Option.bind (p29 fu (((List.getD a0 (Int.toNat v16) (dflt T_api_Producer)).1, ((List.getD a0 (Int.toNat v16) (dflt T_api_Producer)).2).1, (((List.getD a0 (Int.toNat v16) (dflt T_api_Producer)).2).2).1, (((List.getD a0 (Int.toNat v16) (dflt T_api_Producer)).2).2).2, ()), (v1000, ()), ())) fun ⟨⟨⟨r65, _⟩, _⟩, ⟨r65_1, r65_2, r65_3, r65_4, _⟩⟩ =>
          bif decide ((0 : Int) ≤ v16 ∧ v16 < (List.length v5 : Int)) then
           bif decide (Int.toNat v16 < List.length v5) then
            bif decide (List.length v5 = List.length (List.set v5 (Int.toNat v16) (r65_1, r65_2, r65_3, r65_4))) then
             some (.inl (((List.set v5 (Int.toNat v16) (r65_1, r65_2, r65_3, r65_4)), IntKind.wrap .i64 (v16 + (1 : Int)), ()), ((r65, ()), ())))
            else none
           else none
          else none
         else none
        else none
       else
        inrO (bif decide (List.length v5 = List.length v5) then
         some (((v1000, ()), ()), v5)
        else none))
      ((List.replicate (Int.toNat (List.length a0 : Int)) ((0 : Int), (0 : Int), false, (0 : Int)), (0 : Int), ()), ((a1, ()), ()))
    else none
   else none
def e28 (fu : Nat) : Ent := ⟨28, (.cons (.hole (.sl T_api_Producer)) (.cons (.clo 29 0 .nil 1 (.cons (.box 35 1 (.cons (.hole (.sl (.int .u64))) .nil)) .nil)) .nil)), (.cons (.agg 1 (.cons (.hole (.sl (.int .u64))) .nil)) .nil), (.own 25 T_api_Producer), p28 fu⟩
def d28 (fu : Nat) : DC := (.seq (.region [(⟨(some 4), none, (.mov (.const (.slice none 0 0)))⟩, .none)] [[]] false) (.seq (.seq (.region [(⟨(some 8), none, (.mov (.tmp 0))⟩, .none), (⟨(some 9), none, (.len false (.tmp 8))⟩, .none), (⟨(some 10), none, (.bin .eql (.tmp 9) (.const (.int .i64 0)))⟩, .none)] [[], [0], [1]] false) (.cond (.tmp 10) (.seq (.region [(⟨(some 4), none, (.mov (.const (.slice none 0 0)))⟩, .none)] [[]] false) .ret) .skip)) (.seq (.region [(⟨(some 11), none, (.mov (.tmp 0))⟩, .none), (⟨(some 12), none, (.len false (.tmp 11))⟩, .none), (⟨(some 13), none, (.make 25 4 [(.int .u64 0), (.int .u64 0), (.bool false), (.int .u64 0)] 32 (.tmp 12) (.tmp 12))⟩, (.ty T_api_Producer)), (⟨(some 5), none, (.mov (.tmp 13))⟩, .none)] [[], [0], [1, 1], [2, 0, 1, 2]] false) (.seq (.seq (.region [(⟨(some 14), none, (.mov (.tmp 0))⟩, .none), (⟨(some 15), none, (.len false (.tmp 14))⟩, .none), (⟨(some 16), none, (.mov (.const (.int .i64 0)))⟩, .none)] [[], [0], []] false) (.block 0 (.loop ⟨[5, 16], (.cons (.own 25 T_api_Producer) (.cons (.hole (.int .i64)) .nil)), [(0, 35, 1)], (.cons (.agg 1 (.cons (.hole (.sl (.int .u64))) .nil)) .nil), [1, 14, 15], []⟩
 (.seq (.region [(⟨(some 17), none, (.bin .lss (.tmp 16) (.tmp 15))⟩, .none)] [[]] false) (.seq (.cond (.tmp 17) .skip (.exit 0)) (.seq (.block 1 (.seq (.region [(⟨(some 18), none, (.mov (.tmp 16))⟩, .none), (⟨(some 19), none, (.iaddr 4 (.tmp 14) (.tmp 16))⟩, .none), (⟨(some 20), none, (.load true 4 (.tmp 19))⟩, .none), (⟨(some 7), none, (.alloc 25 4 [(.int .u64 0), (.int .u64 0), (.bool false), (.int .u64 0)])⟩, .none), (⟨(some 6), none, (.mov (.tmp 18))⟩, .none), (⟨none, none, (.store 4 (.tmp 7) (.tmp 20))⟩, .none)] [[], [], [1], [], [0, 0, 1, 2, 3], [3, 2, 4, 0, 1, 2, 3, 4]] false) (.region [(⟨(some 21), none, (.mov (.tmp 5))⟩, .none), (⟨(some 22), none, (.mov (.tmp 6))⟩, .none), (⟨(some 23), none, (.mov (.tmp 1))⟩, .none), (⟨(some 24), none, (.load true 4 (.tmp 7))⟩, .none), (⟨(some 25), none, (.callv (.tmp 23) [(.tmp 24)])⟩, (.ent (e29 fu))), (⟨(some 26), none, (.iaddr 4 (.tmp 21) (.tmp 22))⟩, .none), (⟨none, none, (.store 4 (.tmp 26) (.tmp 25))⟩, .none)] [[], [], [], [], [2, 3], [0, 1, 0, 1, 2, 3, 4], [5, 4, 4, 0, 1, 2, 3, 4]] false))) (.region [(⟨(some 27), none, (.bin .add (.tmp 16) (.const (.int .i64 1)))⟩, .none), (⟨(some 16), none, (.mov (.tmp 27))⟩, .none)] [[], [0]] false))))))) (.seq (.region [(⟨(some 28), none, (.mov (.tmp 5))⟩, .none), (⟨(some 4), none, (.mov (.tmp 28))⟩, .none)] [[], [0, 0]] false) .ret)))))
set_option maxRecDepth 1000000 in
theorem v28 (fu : Nat) : evF fu (d28 fu) rs28 29 (e28 fu).ash (e28 fu).osh (e28 fu).vsh = p28 fu := by kernel_rfl
set_option maxRecDepth 1000000 in
theorem b28 (fu : Nat) : BodyD Try.prog 28 29 (d28 fu).erase rs28 := bodyD_mk Try.func28 (by kernel_rfl) (by kernel_rfl) (by kernel_rfl) (by kernel_rfl)
theorem g28 (fu : Nat) : (e28 fu).Good Try.prog := good_by orders (b28 fu) (l := [e29 fu]) (by kernel_rfl) ⟨g29 fu, trivial⟩ (by kernel_rfl) (v28 fu)
def rs13 : List RVx := [(.tmp 4)]
/-- gazette/producers.Move -/
def p13 (fu : Nat) : (List (D_api_Producer)) × ((List (Int)) × (Unit)) → Option ((Unit) × (List (D_api_Producer))) := fun ⟨a0, a1, _⟩ =>
  Option.bind (p28 fu (a0, ((), ((a1, ()), ())), ())) fun ⟨⟨⟨r67, _⟩, _⟩, r67_1⟩ =>
  bif decide (List.length r67_1 = List.length r67_1) then
   some ((), r67_1)
  else none
def e13 (fu : Nat) : Ent := ⟨13, (.cons (.hole (.sl T_api_Producer)) (.cons (.hole (.sl (.int .u64))) .nil)), .nil, (.own 25 T_api_Producer), p13 fu⟩
def d13 (fu : Nat) : DC := (.seq (.region [(⟨(some 3), none, (.box 35 1 (.tmp 1))⟩, .none), (⟨(some 4), none, (.mov (.const (.slice none 0 0)))⟩, .none)] [[], []] false) (.seq (.region [(⟨(some 5), none, (.mov (.tmp 0))⟩, .none), (⟨(some 6), none, (.fn 29 [] [(.tmp 3)])⟩, .none), (⟨(some 7), none, (.call 28 [(.tmp 5), (.tmp 6)])⟩, (.ent (e28 fu))), (⟨(some 4), none, (.mov (.tmp 7))⟩, .none)] [[], [], [0, 1], [2, 2, 0, 1, 2]] false) .ret))
set_option maxRecDepth 1000000 in
theorem v13 (fu : Nat) : evF fu (d13 fu) rs13 8 (e13 fu).ash (e13 fu).osh (e13 fu).vsh = p13 fu := by kernel_rfl
set_option maxRecDepth 1000000 in
theorem b13 (fu : Nat) : BodyD Try.prog 13 8 (d13 fu).erase rs13 := bodyD_mk Try.func13 (by kernel_rfl) (by kernel_rfl) (by kernel_rfl) (by kernel_rfl)
theorem g13 (fu : Nat) : (e13 fu).Good Try.prog := good_by orders (b13 fu) (l := [e28 fu]) (by kernel_rfl) ⟨g28 fu, trivial⟩ (by kernel_rfl) (v13 fu)
def rs34 : List RVx := [(.cell 4 true 4)]
/-- gazette/producers.later -/
def p34 (fu : Nat) : ((Int) × ((Int) × ((Bool) × ((Int) × (Unit))))) × (((Int) × ((Int) × ((Bool) × ((Int) × (Unit))))) × (Unit)) → Option ((Unit) × ((Int) × ((Int) × ((Bool) × ((Int) × (Unit)))))) := fun ⟨⟨a0, a1, a2, a3, _⟩, ⟨a4, a5, a6, a7, _⟩, _⟩ =>
  bif decide (a5 > a1) then
   some ((), (a4, a5, a6, a7, ()))
  else
   bif (a5 == a1) then
    bif a6 then
     bif !a2 then
      some ((), (a4, a5, a6, a7, ()))
     else
      some ((), (a0, a1, a2, a3, ()))
    else
     some ((), (a0, a1, a2, a3, ()))
   else
    some ((), (a0, a1, a2, a3, ()))
def e34 (fu : Nat) : Ent := ⟨34, (.cons (.agg 4 (.cons (.hole (.int .u64)) (.cons (.hole (.int .u64)) (.cons (.hole .bool) (.cons (.hole (.int .u64)) .nil))))) (.cons (.agg 4 (.cons (.hole (.int .u64)) (.cons (.hole (.int .u64)) (.cons (.hole .bool) (.cons (.hole (.int .u64)) .nil))))) .nil)), .nil, (.agg 4 (.cons (.hole (.int .u64)) (.cons (.hole (.int .u64)) (.cons (.hole .bool) (.cons (.hole (.int .u64)) .nil))))), p34 fu⟩
def d34 (fu : Nat) : DC := (.seq (.region [(⟨(some 2), none, (.box 25 4 (.tmp 0))⟩, .none), (⟨(some 3), none, (.box 25 4 (.tmp 1))⟩, .none), (⟨(some 4), none, (.alloc 25 4 [(.int .u64 0), (.int .u64 0), (.bool false), (.int .u64 0)])⟩, .none)] [[], [], []] false) (.seq (.seq (.region [(⟨(some 5), none, (.faddr 1 (.tmp 3))⟩, .none), (⟨(some 6), none, (.load false 1 (.tmp 5))⟩, .none), (⟨(some 7), none, (.faddr 1 (.tmp 2))⟩, .none), (⟨(some 8), none, (.load false 1 (.tmp 7))⟩, .none), (⟨(some 9), none, (.bin .gtr (.tmp 6) (.tmp 8))⟩, .none), (⟨(some 10), none, (.mov (.tmp 9))⟩, .none), (⟨(some 11), (some (10, false)), (.faddr 1 (.tmp 3))⟩, .none), (⟨(some 12), (some (10, false)), (.load false 1 (.tmp 11))⟩, .none), (⟨(some 13), (some (10, false)), (.faddr 1 (.tmp 2))⟩, .none), (⟨(some 14), (some (10, false)), (.load false 1 (.tmp 13))⟩, .none), (⟨(some 15), (some (10, false)), (.bin .eql (.tmp 12) (.tmp 14))⟩, .none), (⟨(some 16), (some (10, false)), (.mov (.tmp 15))⟩, .none), (⟨(some 17), (some (16, true)), (.faddr 2 (.tmp 3))⟩, .none), (⟨(some 18), (some (16, true)), (.load false 1 (.tmp 17))⟩, .none), (⟨(some 19), (some (10, false)), (.pick (.tmp 16) (.tmp 18) (.const (.bool false)))⟩, .none), (⟨(some 20), (some (10, false)), (.mov (.tmp 19))⟩, .none), (⟨(some 21), (some (20, true)), (.faddr 2 (.tmp 2))⟩, .none), (⟨(some 22), (some (20, true)), (.load false 1 (.tmp 21))⟩, .none), (⟨(some 23), (some (20, true)), (.not (.tmp 22))⟩, .none), (⟨(some 24), (some (10, false)), (.pick (.tmp 20) (.tmp 23) (.const (.bool false)))⟩, .none), (⟨(some 25), none, (.pick (.tmp 10) (.const (.bool true)) (.tmp 24))⟩, .none)] [[], [0], [], [2], [1, 3], [4], [5], [6, 5], [5], [8, 5], [7, 9, 5], [10, 5, 5], [11], [12, 11], [11, 13, 5], [14, 11, 5], [15], [16, 15], [17, 15], [15, 18, 5], [5, 19]] false) (.cond (.tmp 25) (.seq (.region [(⟨(some 26), none, (.load true 4 (.tmp 3))⟩, .none), (⟨none, none, (.store 4 (.tmp 4) (.tmp 26))⟩, .none)] [[], [0, 0]] false) .ret) .skip)) (.seq (.region [(⟨(some 27), none, (.load true 4 (.tmp 2))⟩, .none), (⟨none, none, (.store 4 (.tmp 4) (.tmp 27))⟩, .none)] [[], [0, 0]] false) .ret)))
set_option maxRecDepth 1000000 in
theorem v34 (fu : Nat) : evF fu (d34 fu) rs34 28 (e34 fu).ash (e34 fu).osh (e34 fu).vsh = p34 fu := by kernel_rfl
set_option maxRecDepth 1000000 in
theorem b34 (fu : Nat) : BodyD Try.prog 34 28 (d34 fu).erase rs34 := bodyD_mk Try.func34 (by kernel_rfl) (by kernel_rfl) (by kernel_rfl) (by kernel_rfl)
theorem g34 (fu : Nat) : (e34 fu).Good Try.prog := good_by orders (b34 fu) (l := []) (by kernel_rfl) trivial (by kernel_rfl) (v34 fu)
/-- gazette/producers.merge[gazette/api.Producer] -/
def p32_1 (fu : Nat) : (List (D_api_Producer)) × ((List (D_api_Producer)) × (((Unit) × (Unit)) × (((Unit) × (Unit)) × (Unit)))) → Option ((Unit) × (List (D_api_Producer))) := fun ⟨a0, a1, ⟨_, _⟩, ⟨_, _⟩, _⟩ =>
  orK (E := ((List (D_api_Producer)) × ((List (D_api_Producer)) × ((List (D_api_Producer)) × (Unit)))) × (Unit))
   (loopO (S := ((List (D_api_Producer)) × ((List (D_api_Producer)) × ((List (D_api_Producer)) × (Unit)))) × (Unit)) fu (fun ⟨⟨v0, v1, v9, _⟩, _⟩ =>
      bif decide ((List.length v0 : Int) > (0 : Int)) then
       bif decide ((List.length v1 : Int) > (0 : Int)) then
        bif decide ((0 : Int) ≤ 0 ∧ 0 < (List.length v0 : Int)) then
         bif decide (0 < List.length v0) then
          bif decide ((0 : Int) ≤ 0 ∧ 0 < (List.length v1 : Int)) then
           bif decide (0 < List.length v1) then
            Option.bind (p33 fu (((List.getD v0 0 (dflt T_api_Producer)).1, ((List.getD v0 0 (dflt T_api_Producer)).2).1, (((List.getD v0 0 (dflt T_api_Producer)).2).2).1, (((List.getD v0 0 (dflt T_api_Producer)).2).2).2, ()), ((List.getD v1 0 (dflt T_api_Producer)).1, ((List.getD v1 0 (dflt T_api_Producer)).2).1, (((List.getD v1 0 (dflt T_api_Producer)).2).2).1, (((List.getD v1 0 (dflt T_api_Producer)).2).2).2, ()), ())) fun ⟨_, r85⟩ =>
            bif decide (r85 < (0 : Int)) then
             bif decide ((0 : Int) ≤ 0 ∧ 0 < (List.length v0 : Int)) then
              bif decide (0 < List.length v0) then
               bif decide (List.length v9 = List.length v9) then
                bif decide (List.length v9 + List.length ([((List.getD v0 0 (dflt T_api_Producer)).1, ((List.getD v0 0 (dflt T_api_Producer)).2).1, (((List.getD v0 0 (dflt T_api_Producer)).2).2).1, (((List.getD v0 0 (dflt T_api_Producer)).2).2).2)]) ≤ maxLen ∧ (List.length v9 + List.length ([((List.getD v0 0 (dflt T_api_Producer)).1, ((List.getD v0 0 (dflt T_api_Producer)).2).1, (((List.getD v0 0 (dflt T_api_Producer)).2).2).1, (((List.getD v0 0 (dflt T_api_Producer)).2).2).2)])) * 32 ≤ 140737488355328) then
                 bif decide (1 ≤ List.length v0) then
                  bif decide (List.length (v9 ++ [((List.getD v0 0 (dflt T_api_Producer)).1, ((List.getD v0 0 (dflt T_api_Producer)).2).1, (((List.getD v0 0 (dflt T_api_Producer)).2).2).1, (((List.getD v0 0 (dflt T_api_Producer)).2).2).2)]) = List.length (v9 ++ [((List.getD v0 0 (dflt T_api_Producer)).1, ((List.getD v0 0 (dflt T_api_Producer)).2).1, (((List.getD v0 0 (dflt T_api_Producer)).2).2).1, (((List.getD v0 0 (dflt T_api_Producer)).2).2).2)])) then
                   some (.inl ((List.drop 1 v0, v1, (v9 ++ [((List.getD v0 0 (dflt T_api_Producer)).1, ((List.getD v0 0 (dflt T_api_Producer)).2).1, (((List.getD v0 0 (dflt T_api_Producer)).2).2).1, (((List.getD v0 0 (dflt T_api_Producer)).2).2).2)]), ()), ()))
                  else none
                 else none
                else none
               else none
              else none
             else none
            else
             bif decide (r85 > (0 : Int)) then
              bif decide ((0 : Int) ≤ 0 ∧ 0 < (List.length v1 : Int)) then
               bif decide (0 < List.length v1) then
                bif decide (List.length v9 = List.length v9) then
                 bif decide (List.length v9 + List.length ([((List.getD v1 0 (dflt T_api_Producer)).1, ((List.getD v1 0 (dflt T_api_Producer)).2).1, (((List.getD v1 0 (dflt T_api_Producer)).2).2).1, (((List.getD v1 0 (dflt T_api_Producer)).2).2).2)]) ≤ maxLen ∧ (List.length v9 + List.length ([((List.getD v1 0 (dflt T_api_Producer)).1, ((List.getD v1 0 (dflt T_api_Producer)).2).1, (((List.getD v1 0 (dflt T_api_Producer)).2).2).1, (((List.getD v1 0 (dflt T_api_Producer)).2).2).2)])) * 32 ≤ 140737488355328) then
                  bif decide (1 ≤ List.length v1) then
                   bif decide (List.length (v9 ++ [((List.getD v1 0 (dflt T_api_Producer)).1, ((List.getD v1 0 (dflt T_api_Producer)).2).1, (((List.getD v1 0 (dflt T_api_Producer)).2).2).1, (((List.getD v1 0 (dflt T_api_Producer)).2).2).2)]) = List.length (v9 ++ [((List.getD v1 0 (dflt T_api_Producer)).1, ((List.getD v1 0 (dflt T_api_Producer)).2).1, (((List.getD v1 0 (dflt T_api_Producer)).2).2).1, (((List.getD v1 0 (dflt T_api_Producer)).2).2).2)])) then
                    some (.inl ((v0, List.drop 1 v1, (v9 ++ [((List.getD v1 0 (dflt T_api_Producer)).1, ((List.getD v1 0 (dflt T_api_Producer)).2).1, (((List.getD v1 0 (dflt T_api_Producer)).2).2).1, (((List.getD v1 0 (dflt T_api_Producer)).2).2).2)]), ()), ()))
                   else none
                  else none
                 else none
                else none
               else none
              else none
             else
              bif decide ((0 : Int) ≤ 0 ∧ 0 < (List.length v0 : Int)) then
               bif decide (0 < List.length v0) then
                bif decide ((0 : Int) ≤ 0 ∧ 0 < (List.length v1 : Int)) then
                 bif decide (0 < List.length v1) then
                  Option.bind (p34 fu (((List.getD v0 0 (dflt T_api_Producer)).1, ((List.getD v0 0 (dflt T_api_Producer)).2).1, (((List.getD v0 0 (dflt T_api_Producer)).2).2).1, (((List.getD v0 0 (dflt T_api_Producer)).2).2).2, ()), ((List.getD v1 0 (dflt T_api_Producer)).1, ((List.getD v1 0 (dflt T_api_Producer)).2).1, (((List.getD v1 0 (dflt T_api_Producer)).2).2).1, (((List.getD v1 0 (dflt T_api_Producer)).2).2).2, ()), ())) fun ⟨_, ⟨r86, r86_1, r86_2, r86_3, _⟩⟩ =>
                  bif decide (List.length v9 = List.length v9) then
                   bif decide (List.length v9 + List.length ([(r86, r86_1, r86_2, r86_3)]) ≤ maxLen ∧ (List.length v9 + List.length ([(r86, r86_1, r86_2, r86_3)])) * 32 ≤ 140737488355328) then
                    bif decide (1 ≤ List.length v0) then
                     bif decide (1 ≤ List.length v1) then
                      bif decide (List.length (v9 ++ [(r86, r86_1, r86_2, r86_3)]) = List.length (v9 ++ [(r86, r86_1, r86_2, r86_3)])) then
                       some (.inl ((List.drop 1 v0, List.drop 1 v1, (v9 ++ [(r86, r86_1, r86_2, r86_3)]), ()), ()))
                      else none
                     else none
                    else none
                   else none
                  else none
                 else none
                else none
               else none
              else none
           else none
          else none
         else none
        else none
       else
        inrO (bif decide (List.length v9 = List.length v9) then
         some (.inl ((v0, v1, v9, ()), ()))
        else none)
      else
       inrO (bif decide (List.length v9 = List.length v9) then
        some (.inl ((v0, v1, v9, ()), ()))
       else none))
     ((a0, a1, [], ()), ()))
   fun ⟨⟨v0, v1, v9, _⟩, _⟩ =>
  bif decide (List.length v9 = List.length v9) then
   bif decide (List.length v9 + List.length v0 ≤ maxLen ∧ (List.length v9 + List.length v0) * 32 ≤ 140737488355328) then
    bif decide (List.length (v9 ++ v0) = List.length (v9 ++ v0)) then
     bif decide (List.length (v9 ++ v0) + List.length v1 ≤ maxLen ∧ (List.length (v9 ++ v0) + List.length v1) * 32 ≤ 140737488355328) then
      bif decide (List.length ((v9 ++ v0) ++ v1) = List.length ((v9 ++ v0) ++ v1)) then
       some ((), ((v9 ++ v0) ++ v1))
      else none
     else none
    else none
   else none
  else none
def e32_1 (fu : Nat) : Ent := ⟨32, (.cons (.hole (.sl T_api_Producer)) (.cons (.hole (.sl T_api_Producer)) (.cons (.clo 33 0 .nil 0 .nil) (.cons (.clo 34 0 .nil 0 .nil) .nil)))), .nil, (.own 25 T_api_Producer), p32_1 fu⟩
def d32_1 (fu : Nat) : DC := (.seq (.region [(⟨(some 8), none, (.mov (.const (.slice none 0 0)))⟩, .none)] [[]] false) (.seq (.region [(⟨(some 9), none, (.mov (.const (.slice none 0 0)))⟩, .none)] [[]] false) (.join ⟨[0, 1, 9], (.cons (.hole (.sl T_api_Producer)) (.cons (.hole (.sl T_api_Producer)) (.cons (.own 25 T_api_Producer) .nil))), [], .nil, [], []⟩
 (.block 0 (.loop ⟨[0, 1, 9], (.cons (.hole (.sl T_api_Producer)) (.cons (.hole (.sl T_api_Producer)) (.cons (.own 25 T_api_Producer) .nil))), [], .nil, [2, 3], []⟩
 (.seq (.seq (.region [(⟨(some 11), none, (.mov (.tmp 0))⟩, .none), (⟨(some 12), none, (.len false (.tmp 11))⟩, .none), (⟨(some 13), none, (.bin .gtr (.tmp 12) (.const (.int .i64 0)))⟩, .none), (⟨(some 14), none, (.mov (.tmp 13))⟩, .none), (⟨(some 15), (some (14, true)), (.mov (.tmp 1))⟩, .none), (⟨(some 16), (some (14, true)), (.len false (.tmp 15))⟩, .none), (⟨(some 17), (some (14, true)), (.bin .gtr (.tmp 16) (.const (.int .i64 0)))⟩, .none), (⟨(some 18), none, (.pick (.tmp 14) (.tmp 17) (.const (.bool false)))⟩, .none)] [[], [0], [1], [2], [3], [4, 3], [5, 3], [3, 6]] false) (.cond (.tmp 18) .skip (.exit 0))) (.block 1 (.seq (.region [(⟨(some 19), none, (.mov (.tmp 2))⟩, .none), (⟨(some 20), none, (.mov (.tmp 0))⟩, .none), (⟨(some 21), none, (.iaddr 4 (.tmp 20) (.const (.int .i64 0)))⟩, .none), (⟨(some 22), none, (.load true 4 (.tmp 21))⟩, .none), (⟨(some 23), none, (.mov (.tmp 1))⟩, .none), (⟨(some 24), none, (.iaddr 4 (.tmp 23) (.const (.int .i64 0)))⟩, .none), (⟨(some 25), none, (.load true 4 (.tmp 24))⟩, .none), (⟨(some 26), none, (.callv (.tmp 19) [(.tmp 22), (.tmp 25)])⟩, (.ent (e33 fu))), (⟨(some 10), none, (.mov (.tmp 26))⟩, .none)] [[], [], [1], [2], [], [4], [5], [0, 3, 6], [7, 7, 0, 1, 2, 3, 4, 5, 6, 7]] true) (.block 2 (.seq (.region [(⟨(some 43), none, (.mov (.tmp 10))⟩, .none), (⟨(some 44), none, (.bin .lss (.tmp 43) (.const (.int .i64 0)))⟩, .none), (⟨(some 42), none, (.mov (.tmp 44))⟩, .none)] [[], [0], [1]] false) (.cond (.tmp 42) (.region [(⟨(some 45), none, (.mov (.tmp 9))⟩, .none), (⟨(some 46), none, (.mov (.tmp 0))⟩, .none), (⟨(some 47), none, (.iaddr 4 (.tmp 46) (.const (.int .i64 0)))⟩, .none), (⟨(some 48), none, (.load true 4 (.tmp 47))⟩, .none), (⟨(some 49), none, (.bslice 25 4 1 [(.int .u64 0), (.int .u64 0), (.bool false), (.int .u64 0)] [(0, (.tmp 48))])⟩, (.ty T_api_Producer)), (⟨(some 50), none, (.app 25 4 [(.int .u64 0), (.int .u64 0), (.bool false), (.int .u64 0)] 32 (.tmp 45) (.tmp 49))⟩, (.ty T_api_Producer)), (⟨(some 51), none, (.mov (.tmp 0))⟩, .none), (⟨(some 52), none, (.slc 4 (.tmp 51) (some (.const (.int .i64 1))) none)⟩, .none), (⟨(some 9), none, (.mov (.tmp 50))⟩, .none), (⟨(some 0), none, (.mov (.tmp 52))⟩, .none)] [[], [], [1], [2], [3], [0, 4], [], [6], [5, 5, 0, 1, 2, 3, 4, 5], [7, 8, 0, 1, 2, 3, 4, 5, 6, 7, 8]] true) (.seq (.region [(⟨(some 54), none, (.mov (.tmp 10))⟩, .none), (⟨(some 55), none, (.bin .gtr (.tmp 54) (.const (.int .i64 0)))⟩, .none), (⟨(some 53), none, (.mov (.tmp 55))⟩, .none)] [[], [0], [1]] false) (.cond (.tmp 53) (.region [(⟨(some 56), none, (.mov (.tmp 9))⟩, .none), (⟨(some 57), none, (.mov (.tmp 1))⟩, .none), (⟨(some 58), none, (.iaddr 4 (.tmp 57) (.const (.int .i64 0)))⟩, .none), (⟨(some 59), none, (.load true 4 (.tmp 58))⟩, .none), (⟨(some 60), none, (.bslice 25 4 1 [(.int .u64 0), (.int .u64 0), (.bool false), (.int .u64 0)] [(0, (.tmp 59))])⟩, (.ty T_api_Producer)), (⟨(some 61), none, (.app 25 4 [(.int .u64 0), (.int .u64 0), (.bool false), (.int .u64 0)] 32 (.tmp 56) (.tmp 60))⟩, (.ty T_api_Producer)), (⟨(some 62), none, (.mov (.tmp 1))⟩, .none), (⟨(some 63), none, (.slc 4 (.tmp 62) (some (.const (.int .i64 1))) none)⟩, .none), (⟨(some 9), none, (.mov (.tmp 61))⟩, .none), (⟨(some 1), none, (.mov (.tmp 63))⟩, .none)] [[], [], [1], [2], [3], [0, 4], [], [6], [5, 5, 0, 1, 2, 3, 4, 5], [7, 8, 0, 1, 2, 3, 4, 5, 6, 7, 8]] true) (.region [(⟨(some 27), none, (.mov (.tmp 9))⟩, .none), (⟨(some 28), none, (.mov (.tmp 3))⟩, .none), (⟨(some 29), none, (.mov (.tmp 0))⟩, .none), (⟨(some 30), none, (.iaddr 4 (.tmp 29) (.const (.int .i64 0)))⟩, .none), (⟨(some 31), none, (.load true 4 (.tmp 30))⟩, .none), (⟨(some 32), none, (.mov (.tmp 1))⟩, .none), (⟨(some 33), none, (.iaddr 4 (.tmp 32) (.const (.int .i64 0)))⟩, .none), (⟨(some 34), none, (.load true 4 (.tmp 33))⟩, .none), (⟨(some 35), none, (.callv (.tmp 28) [(.tmp 31), (.tmp 34)])⟩, (.ent (e34 fu))), (⟨(some 36), none, (.bslice 25 4 1 [(.int .u64 0), (.int .u64 0), (.bool false), (.int .u64 0)] [(0, (.tmp 35))])⟩, (.ty T_api_Producer)), (⟨(some 37), none, (.app 25 4 [(.int .u64 0), (.int .u64 0), (.bool false), (.int .u64 0)] 32 (.tmp 27) (.tmp 36))⟩, (.ty T_api_Producer)), (⟨(some 38), none, (.mov (.tmp 0))⟩, .none), (⟨(some 39), none, (.slc 4 (.tmp 38) (some (.const (.int .i64 1))) none)⟩, .none), (⟨(some 40), none, (.mov (.tmp 1))⟩, .none), (⟨(some 41), none, (.slc 4 (.tmp 40) (some (.const (.int .i64 1))) none)⟩, .none), (⟨(some 9), none, (.mov (.tmp 37))⟩, .none), (⟨(some 0), none, (.mov (.tmp 39))⟩, .none), (⟨(some 1), none, (.mov (.tmp 41))⟩, .none)] [[], [], [], [2], [3], [], [5], [6], [1, 4, 7], [8], [0, 9, 8], [], [11], [], [13], [10, 10, 0, 1, 2, 3, 4, 5, 6, 7, 8, 9, 10], [12, 15, 0, 1, 2, 3, 4, 5, 6, 7, 8, 9, 10, 11, 12, 15], [14, 16, 0, 1, 2, 3, 4, 5, 6, 7, 8, 9, 10, 11, 12, 13, 14, 15, 16]] true)))))))))))
 (.seq (.region [(⟨(some 64), none, (.mov (.tmp 9))⟩, .none), (⟨(some 65), none, (.mov (.tmp 0))⟩, .none), (⟨(some 66), none, (.app 25 4 [(.int .u64 0), (.int .u64 0), (.bool false), (.int .u64 0)] 32 (.tmp 64) (.tmp 65))⟩, (.ty T_api_Producer)), (⟨(some 67), none, (.mov (.tmp 1))⟩, .none), (⟨(some 68), none, (.app 25 4 [(.int .u64 0), (.int .u64 0), (.bool false), (.int .u64 0)] 32 (.tmp 66) (.tmp 67))⟩, (.ty T_api_Producer)), (⟨(some 8), none, (.mov (.tmp 68))⟩, .none)] [[], [], [0, 1], [], [2, 3, 2], [4, 4, 0, 1, 2, 3, 4]] false) .ret))))
set_option maxRecDepth 1000000 in
theorem v32_1 (fu : Nat) : evF fu (d32_1 fu) rs32 69 (e32_1 fu).ash (e32_1 fu).osh (e32_1 fu).vsh = p32_1 fu := by kernel_rfl
set_option maxRecDepth 1000000 in
theorem b32_1 (fu : Nat) : BodyD Try.prog 32 69 (d32_1 fu).erase rs32 := bodyD_mk Try.func32 (by kernel_rfl) (by kernel_rfl) (by kernel_rfl) (by kernel_rfl)
theorem g32_1 (fu : Nat) : (e32_1 fu).Good Try.prog := good_by orders (b32_1 fu) (l := [e33 fu, e34 fu]) (by kernel_rfl) ⟨g33 fu, g34 fu, trivial⟩ (by kernel_rfl) (v32_1 fu)
def rs14 : List RVx := [(.tmp 8), (.tmp 9)]
/-- gazette/producers.Both -/
def p14 (fu : Nat) : (List (D_api_Producer)) × ((List (D_api_Producer)) × ((List (Int)) × ((List (Int)) × (Unit)))) → Option ((Unit) × ((List (D_api_Producer)) × ((Int) × (Unit)))) := fun ⟨a0, a1, a2, a3, _⟩ =>
  Option.bind (p16 fu (a0, ())) fun ⟨_, r89⟩ =>
  bif !r89 then
   some ((), ([], (1 : Int), ()))
  else
   Option.bind (p16 fu (a1, ())) fun ⟨_, r90⟩ =>
   bif !r90 then
    some ((), ([], (1 : Int), ()))
   else
    Option.bind (p13 fu (a0, a2, ())) fun ⟨_, r91⟩ =>
    Option.bind (p13 fu (a1, a3, ())) fun ⟨_, r92⟩ =>
    bif decide (List.length r91 = List.length r91) then
     bif decide (List.length r92 = List.length r92) then
      Option.bind (p32_1 fu (r91, r92, ((), ()), ((), ()), ())) fun ⟨_, r93⟩ =>
      bif decide (List.length r93 = List.length r93) then
       Option.bind (p31_1 fu (r93, ())) fun ⟨⟨_, _⟩, ⟨r94, r94_1, _⟩⟩ =>
       bif decide (List.length r94 = List.length r94) then
        some ((), (r94, r94_1, ()))
       else none
      else none
     else none
    else none
def e14 (fu : Nat) : Ent := ⟨14, (.cons (.hole (.sl T_api_Producer)) (.cons (.hole (.sl T_api_Producer)) (.cons (.hole (.sl (.int .u64))) (.cons (.hole (.sl (.int .u64))) .nil)))), .nil, (.tup 2 (.cons (.own 25 T_api_Producer) (.cons (.hole (.int .i64)) .nil))), p14 fu⟩
def d14 (fu : Nat) : DC := (.seq (.region [(⟨(some 8), none, (.mov (.const (.slice none 0 0)))⟩, .none), (⟨(some 9), none, (.mov (.const (.int .i64 0)))⟩, .none)] [[], [0]] false) (.seq (.seq (.region [(⟨(some 10), none, (.mov (.tmp 0))⟩, .none), (⟨(some 11), none, (.call 16 [(.tmp 10)])⟩, (.ent (e16 fu))), (⟨(some 12), none, (.not (.tmp 11))⟩, .none), (⟨(some 13), none, (.mov (.tmp 12))⟩, .none), (⟨(some 14), (some (13, false)), (.mov (.tmp 1))⟩, .none), (⟨(some 15), (some (13, false)), (.call 16 [(.tmp 14)])⟩, (.ent (e16 fu))), (⟨(some 16), (some (13, false)), (.not (.tmp 15))⟩, .none), (⟨(some 17), none, (.pick (.tmp 13) (.const (.bool true)) (.tmp 16))⟩, .none)] [[], [0], [1], [2, 1], [3], [4, 3, 3], [5, 3], [3, 6]] false) (.cond (.tmp 17) (.seq (.region [(⟨(some 8), none, (.mov (.const (.slice none 0 0)))⟩, .none), (⟨(some 9), none, (.mov (.const (.int .i64 1)))⟩, .none)] [[], [0, 0]] false) .ret) .skip)) (.seq (.region [(⟨(some 18), none, (.mov (.tmp 0))⟩, .none), (⟨(some 19), none, (.mov (.tmp 2))⟩, .none), (⟨(some 20), none, (.call 13 [(.tmp 18), (.tmp 19)])⟩, (.ent (e13 fu))), (⟨(some 21), none, (.mov (.tmp 1))⟩, .none), (⟨(some 22), none, (.mov (.tmp 3))⟩, .none), (⟨(some 23), none, (.call 13 [(.tmp 21), (.tmp 22)])⟩, (.ent (e13 fu))), (⟨(some 24), none, (.call 32 [(.tmp 20), (.tmp 23), (.func 33), (.func 34)])⟩, (.ent (e32_1 fu))), (⟨(some 25), none, (.call 31 [(.tmp 24)])⟩, (.ent (e31_1 fu))), (⟨(some 26), none, (.ext (.tmp 25) 0)⟩, .none), (⟨(some 27), none, (.ext (.tmp 25) 1)⟩, .none), (⟨(some 8), none, (.mov (.tmp 26))⟩, .none), (⟨(some 9), none, (.mov (.tmp 27))⟩, .none)] [[], [], [0, 1], [], [], [3, 4, 2], [2, 5, 5], [6, 6], [7], [7], [8, 7, 0, 1, 2, 3, 4, 5, 6, 7, 8, 9], [9, 10, 0, 1, 2, 3, 4, 5, 6, 7, 8, 9, 10]] false) .ret)))
set_option maxRecDepth 1000000 in
theorem v14 (fu : Nat) : evF fu (d14 fu) rs14 28 (e14 fu).ash (e14 fu).osh (e14 fu).vsh = p14 fu := by kernel_rfl
set_option maxRecDepth 1000000 in
theorem b14 (fu : Nat) : BodyD Try.prog 14 28 (d14 fu).erase rs14 := bodyD_mk Try.func14 (by kernel_rfl) (by kernel_rfl) (by kernel_rfl) (by kernel_rfl)
theorem g14 (fu : Nat) : (e14 fu).Good Try.prog := good_by orders (b14 fu) (l := [e16 fu, e16 fu, e13 fu, e13 fu, e32_1 fu, e31_1 fu]) (by kernel_rfl) ⟨g16 fu, g16 fu, g13 fu, g13 fu, g32_1 fu, g31_1 fu, trivial⟩ (by kernel_rfl) (v14 fu)
def rs15 : List RVx := [(.tmp 4)]
/-- gazette/gazetteref15.Same -/
def p15 (fu : Nat) : (List (D_api_Producer)) × ((List (D_api_Producer)) × (Unit)) → Option ((Unit) × (Bool)) := fun ⟨a0, a1, _⟩ =>
  bif ((List.length a0 : Int) != (List.length a1 : Int)) then
   some ((), false)
  else
   loopO (S := ((Int) × (Unit)) × (Unit)) fu (fun ⟨⟨v5, _⟩, _⟩ =>
     bif decide (v5 < (List.length a0 : Int)) then
      bif decide ((0 : Int) ≤ v5 ∧ v5 < (List.length a0 : Int)) then
       bif decide (Int.toNat v5 < List.length a0) then
        bif decide ((0 : Int) ≤ v5 ∧ v5 < (List.length a1 : Int)) then
         bif decide (Int.toNat v5 < List.length a1) then
          bif !(((List.getD a0 (Int.toNat v5) (dflt T_api_Producer)).1) == ((List.getD a1 (Int.toNat v5) (dflt T_api_Producer)).1) && ((((List.getD a0 (Int.toNat v5) (dflt T_api_Producer)).2).1) == (((List.getD a1 (Int.toNat v5) (dflt T_api_Producer)).2).1) && (((((List.getD a0 (Int.toNat v5) (dflt T_api_Producer)).2).2).1) == ((((List.getD a1 (Int.toNat v5) (dflt T_api_Producer)).2).2).1) && (((((List.getD a0 (Int.toNat v5) (dflt T_api_Producer)).2).2).2) == ((((List.getD a1 (Int.toNat v5) (dflt T_api_Producer)).2).2).2) && true)))) then
           inrO (some ((), false))
          else
           some (.inl ((IntKind.wrap .i64 (v5 + (1 : Int)), ()), ()))
         else none
        else none
       else none
      else none
     else
      inrO (some ((), true)))
    (((0 : Int), ()), ())
def e15 (fu : Nat) : Ent := ⟨15, (.cons (.hole (.sl T_api_Producer)) (.cons (.hole (.sl T_api_Producer)) .nil)), .nil, (.hole .bool), p15 fu⟩
def d15 (fu : Nat) : DC := (.seq (.region [(⟨(some 4), none, (.mov (.const (.bool false)))⟩, .none)] [[]] false) (.seq (.seq (.region [(⟨(some 6), none, (.mov (.tmp 0))⟩, .none), (⟨(some 7), none, (.len false (.tmp 6))⟩, .none), (⟨(some 8), none, (.mov (.tmp 1))⟩, .none), (⟨(some 9), none, (.len false (.tmp 8))⟩, .none), (⟨(some 10), none, (.bin .neq (.tmp 7) (.tmp 9))⟩, .none)] [[], [0], [], [2], [1, 3]] false) (.cond (.tmp 10) (.seq (.region [(⟨(some 4), none, (.mov (.const (.bool false)))⟩, .none)] [[]] false) .ret) .skip)) (.seq (.seq (.region [(⟨(some 5), none, (.mov (.const (.int .i64 0)))⟩, .none)] [[]] false) (.block 0 (.loop ⟨[5], (.cons (.hole (.int .i64)) .nil), [], .nil, [0, 1], []⟩
 (.seq (.seq (.region [(⟨(some 11), none, (.mov (.tmp 5))⟩, .none), (⟨(some 12), none, (.mov (.tmp 0))⟩, .none), (⟨(some 13), none, (.len false (.tmp 12))⟩, .none), (⟨(some 14), none, (.bin .lss (.tmp 11) (.tmp 13))⟩, .none)] [[], [], [1], [0, 2]] false) (.cond (.tmp 14) .skip (.exit 0))) (.seq (.block 1 (.seq (.region [(⟨(some 17), none, (.mov (.tmp 0))⟩, .none), (⟨(some 18), none, (.mov (.tmp 5))⟩, .none), (⟨(some 19), none, (.iaddr 4 (.tmp 17) (.tmp 18))⟩, .none), (⟨(some 20), none, (.load true 4 (.tmp 19))⟩, .none), (⟨(some 21), none, (.mov (.tmp 1))⟩, .none), (⟨(some 22), none, (.mov (.tmp 5))⟩, .none), (⟨(some 23), none, (.iaddr 4 (.tmp 21) (.tmp 22))⟩, .none), (⟨(some 24), none, (.load true 4 (.tmp 23))⟩, .none), (⟨(some 25), none, (.seq true [.int, .int, .bool, .int] (.tmp 20) (.tmp 24))⟩, .none)] [[], [], [0, 1], [2], [], [], [4, 5], [6], [3, 7]] true) (.cond (.tmp 25) (.seq (.region [(⟨(some 4), none, (.mov (.const (.bool false)))⟩, .none)] [[]] false) .ret) .skip))) (.region [(⟨(some 15), none, (.mov (.tmp 5))⟩, .none), (⟨(some 16), none, (.bin .add (.tmp 15) (.const (.int .i64 1)))⟩, .none), (⟨(some 5), none, (.mov (.tmp 16))⟩, .none)] [[], [0], [1, 0, 1]] false)))))) (.seq (.region [(⟨(some 4), none, (.mov (.const (.bool true)))⟩, .none)] [[]] false) .ret))))
set_option maxRecDepth 1000000 in
theorem v15 (fu : Nat) : evF fu (d15 fu) rs15 26 (e15 fu).ash (e15 fu).osh (e15 fu).vsh = p15 fu := by kernel_rfl
set_option maxRecDepth 1000000 in
theorem b15 (fu : Nat) : BodyD Try.prog 15 26 (d15 fu).erase rs15 := bodyD_mk Try.func15 (by kernel_rfl) (by kernel_rfl) (by kernel_rfl) (by kernel_rfl)
theorem g15 (fu : Nat) : (e15 fu).Good Try.prog := good_by orders (b15 fu) (l := []) (by kernel_rfl) trivial (by kernel_rfl) (v15 fu)
def rs3 : List RVx := [(.tmp 0)]
/-- gazette/gazettelaw15.ProducersNames -/
def p3 (fu : Nat) : Unit → Option ((Unit) × (Bool)) := fun _ =>
  Option.bind (p9 fu ()) fun ⟨_, r113⟩ =>
  Option.bind (p10 fu ((7 : Int), (3 : Int), (9 : Int), ())) fun ⟨_, ⟨r114, r114_1, r114_2, r114_3, _⟩⟩ =>
  Option.bind (p11 fu ([(r114, r114_1, r114_2, r114_3)], (7 : Int), (2 : Int), ())) fun ⟨_, ⟨r115, r115_1, _⟩⟩ =>
  Option.bind (p11 fu ([(r114, r114_1, r114_2, r114_3)], (7 : Int), (4 : Int), ())) fun ⟨_, ⟨r116, r116_1, _⟩⟩ =>
  Option.bind (p11 fu ([(r114, r114_1, r114_2, r114_3)], (0 : Int), (1 : Int), ())) fun ⟨_, ⟨r117, r117_1, _⟩⟩ =>
  Option.bind (p11 fu ([(r114, r114_1, r114_2, r114_3)], (7 : Int), (9223372036854775808 : Int), ())) fun ⟨_, ⟨r118, r118_1, _⟩⟩ =>
  Option.bind (p12 fu ([(r114, r114_1, r114_2, r114_3)], (5 : Int), (1 : Int), (2 : Int), ())) fun ⟨_, ⟨r119, r119_1, _⟩⟩ =>
  Option.bind (p10 fu ((5 : Int), (1 : Int), (2 : Int), ())) fun ⟨_, ⟨r120, r120_1, r120_2, r120_3, _⟩⟩ =>
  Option.bind (p10 fu ((7 : Int), (3 : Int), (0 : Int), ())) fun ⟨_, ⟨r121, r121_1, r121_2, r121_3, _⟩⟩ =>
  Option.bind (p13 fu ([(r120, r120_1, r120_2, r120_3), (r121, r121_1, r121_2, r121_3)], [(0 : Int), (1 : Int), (1 : Int), (1 : Int)], ())) fun ⟨_, r122⟩ =>
  Option.bind (p10 fu ((5 : Int), (1 : Int), (0 : Int), ())) fun ⟨_, ⟨r123, r123_1, r123_2, r123_3, _⟩⟩ =>
  Option.bind (p10 fu ((5 : Int), (2 : Int), (0 : Int), ())) fun ⟨_, ⟨r124, r124_1, r124_2, r124_3, _⟩⟩ =>
  Option.bind (p14 fu ([(r123, r123_1, r123_2, r123_3)], [(r124, r124_1, r124_2, r124_3)], [(0 : Int), (2 : Int)], [(1 : Int), (2 : Int)], ())) fun ⟨_, ⟨r125, r125_1, _⟩⟩ =>
  Option.bind (p12 fu ([(r114, r114_1, r114_2, r114_3)], (0 : Int), (1 : Int), (0 : Int), ())) fun ⟨_, ⟨r126, r126_1, _⟩⟩ =>
  Option.bind (p12 fu ([(r114, r114_1, r114_2, r114_3)], (7 : Int), (3 : Int), (0 : Int), ())) fun ⟨_, ⟨r127, r127_1, _⟩⟩ =>
  Option.bind (p12 fu ([((1 : Int), (0 : Int), false, (0 : Int))], (7 : Int), (3 : Int), (0 : Int), ())) fun ⟨_, ⟨r128, r128_1, _⟩⟩ =>
  orK (E := ((Bool) × (Unit)) × (Unit))
   (bif (r115 == (3 : Int)) then
     bif (r116 == (1 : Int)) then
      bif (r117 == (4 : Int)) then
       bif (r118 == (4 : Int)) then
        Option.bind (p10 fu ((5 : Int), (1 : Int), (2 : Int), ())) fun ⟨_, ⟨r129, r129_1, r129_2, r129_3, _⟩⟩ =>
        Option.bind (p10 fu ((7 : Int), (3 : Int), (9 : Int), ())) fun ⟨_, ⟨r130, r130_1, r130_2, r130_3, _⟩⟩ =>
        bif decide (List.length r119 = List.length r119) then
         Option.bind (p15 fu (r119, [(r129, r129_1, r129_2, r129_3), (r130, r130_1, r130_2, r130_3)], ())) fun ⟨_, r131⟩ =>
         bif r131 then
          some (.inl (((r119_1 == (0 : Int)), ()), ()))
         else
          some (.inl ((false, ()), ()))
        else none
       else
        some (.inl ((false, ()), ()))
      else
       some (.inl ((false, ()), ()))
     else
      some (.inl ((false, ()), ()))
    else
     some (.inl ((false, ()), ())))
   fun ⟨⟨v22, _⟩, _⟩ =>
  orK (E := ((Bool) × (Unit)) × (Unit))
   (Option.bind (p10 fu ((7 : Int), (3 : Int), (0 : Int), ())) fun ⟨_, ⟨r132, r132_1, r132_2, r132_3, _⟩⟩ =>
    bif decide (List.length r122 = List.length r122) then
     Option.bind (p15 fu (r122, [((5 : Int), (1 : Int), false, (0 : Int)), (r132, r132_1, r132_2, r132_3)], ())) fun ⟨_, r133⟩ =>
     bif r133 then
      Option.bind (p10 fu ((5 : Int), (2 : Int), (1 : Int), ())) fun ⟨_, ⟨r134, r134_1, r134_2, r134_3, _⟩⟩ =>
      bif decide (List.length r125 = List.length r125) then
       Option.bind (p15 fu (r125, [(r134, r134_1, r134_2, r134_3)], ())) fun ⟨_, r135⟩ =>
       bif r135 then
        some (.inl (((r125_1 == (0 : Int)), ()), ()))
       else
        some (.inl ((false, ()), ()))
      else none
     else
      some (.inl ((false, ()), ()))
    else none)
   fun ⟨⟨v23, _⟩, _⟩ =>
  bif r113 then
   bif v22 then
    bif v23 then
     bif (r126_1 == (151 : Int)) then
      bif (r127_1 == (152 : Int)) then
       some ((), cond (r128_1 == (1 : Int)) true false)
      else
       some ((), false)
     else
      some ((), false)
    else
     some ((), false)
   else
    some ((), false)
  else
   some ((), false)
def e3 (fu : Nat) : Ent := ⟨3, .nil, .nil, (.hole .bool), p3 fu⟩
def d3 (fu : Nat) : DC := (.seq (.region [(⟨(some 0), none, (.mov (.const (.bool false)))⟩, .none)] [[]] false) (.seq (.region [(⟨(some 24), none, (.call 9 [])⟩, (.ent (e9 fu))), (⟨(some 1), none, (.mov (.tmp 24))⟩, .none)] [[], [0, 0, 0]] false) (.seq (.region [(⟨(some 25), none, (.call 10 [(.const (.int .u64 7)), (.const (.int .u64 3)), (.const (.int .u64 9))])⟩, (.ent (e10 fu))), (⟨(some 26), none, (.bslice 25 4 1 [(.int .u64 0), (.int .u64 0), (.bool false), (.int .u64 0)] [(0, (.tmp 25))])⟩, (.ty T_api_Producer)), (⟨(some 2), none, (.mov (.tmp 26))⟩, .none)] [[], [0], [1, 0, 0, 1]] false) (.seq (.region [(⟨(some 28), none, (.mov (.tmp 2))⟩, .none), (⟨(some 29), none, (.call 11 [(.tmp 28), (.const (.int .u64 7)), (.const (.int .u64 2))])⟩, (.ent (e11 fu))), (⟨(some 27), none, (.mov (.tmp 29))⟩, .none), (⟨(some 30), none, (.ext (.tmp 27) 0)⟩, .none), (⟨(some 31), none, (.ext (.tmp 27) 1)⟩, .none), (⟨(some 3), none, (.mov (.tmp 30))⟩, .none), (⟨(some 4), none, (.mov (.tmp 31))⟩, .none)] [[], [0], [1], [2], [2], [3, 1, 0, 1, 2, 3], [4, 5, 0, 1, 2, 3, 4, 5]] false) (.seq (.region [(⟨(some 33), none, (.mov (.tmp 2))⟩, .none), (⟨(some 34), none, (.call 11 [(.tmp 33), (.const (.int .u64 7)), (.const (.int .u64 4))])⟩, (.ent (e11 fu))), (⟨(some 32), none, (.mov (.tmp 34))⟩, .none), (⟨(some 35), none, (.ext (.tmp 32) 0)⟩, .none), (⟨(some 36), none, (.ext (.tmp 32) 1)⟩, .none), (⟨(some 5), none, (.mov (.tmp 35))⟩, .none), (⟨(some 6), none, (.mov (.tmp 36))⟩, .none)] [[], [0], [1], [2], [2], [3, 1, 0, 1, 2, 3], [4, 5, 0, 1, 2, 3, 4, 5]] false) (.seq (.region [(⟨(some 38), none, (.mov (.tmp 2))⟩, .none), (⟨(some 39), none, (.call 11 [(.tmp 38), (.const (.int .u64 0)), (.const (.int .u64 1))])⟩, (.ent (e11 fu))), (⟨(some 37), none, (.mov (.tmp 39))⟩, .none), (⟨(some 40), none, (.ext (.tmp 37) 0)⟩, .none), (⟨(some 41), none, (.ext (.tmp 37) 1)⟩, .none), (⟨(some 7), none, (.mov (.tmp 40))⟩, .none), (⟨(some 8), none, (.mov (.tmp 41))⟩, .none)] [[], [0], [1], [2], [2], [3, 1, 0, 1, 2, 3], [4, 5, 0, 1, 2, 3, 4, 5]] false) (.seq (.region [(⟨(some 43), none, (.mov (.tmp 2))⟩, .none), (⟨(some 44), none, (.call 11 [(.tmp 43), (.const (.int .u64 7)), (.const (.int .u64 9223372036854775808))])⟩, (.ent (e11 fu))), (⟨(some 42), none, (.mov (.tmp 44))⟩, .none), (⟨(some 45), none, (.ext (.tmp 42) 0)⟩, .none), (⟨(some 46), none, (.ext (.tmp 42) 1)⟩, .none), (⟨(some 9), none, (.mov (.tmp 45))⟩, .none), (⟨(some 10), none, (.mov (.tmp 46))⟩, .none)] [[], [0], [1], [2], [2], [3, 1, 0, 1, 2, 3], [4, 5, 0, 1, 2, 3, 4, 5]] false) (.seq (.region [(⟨(some 48), none, (.mov (.tmp 2))⟩, .none), (⟨(some 49), none, (.call 12 [(.tmp 48), (.const (.int .u64 5)), (.const (.int .u64 1)), (.const (.int .u64 2))])⟩, (.ent (e12 fu))), (⟨(some 47), none, (.mov (.tmp 49))⟩, .none), (⟨(some 50), none, (.ext (.tmp 47) 0)⟩, .none), (⟨(some 51), none, (.ext (.tmp 47) 1)⟩, .none), (⟨(some 11), none, (.mov (.tmp 50))⟩, .none), (⟨(some 12), none, (.mov (.tmp 51))⟩, .none)] [[], [0], [1], [2], [2], [3, 1, 0, 1, 2, 3], [4, 5, 0, 1, 2, 3, 4, 5]] false) (.seq (.region [(⟨(some 52), none, (.call 10 [(.const (.int .u64 5)), (.const (.int .u64 1)), (.const (.int .u64 2))])⟩, (.ent (e10 fu))), (⟨(some 53), none, (.call 10 [(.const (.int .u64 7)), (.const (.int .u64 3)), (.const (.int .u64 0))])⟩, (.ent (e10 fu))), (⟨(some 54), none, (.bslice 25 4 2 [(.int .u64 0), (.int .u64 0), (.bool false), (.int .u64 0)] [(0, (.tmp 52)), (1, (.tmp 53))])⟩, (.ty T_api_Producer)), (⟨(some 55), none, (.bslice 23 1 4 [(.int .u64 0)] [(0, (.const (.int .u64 0))), (1, (.const (.int .u64 1))), (2, (.const (.int .u64 1))), (3, (.const (.int .u64 1)))])⟩, (.ty (.int .u64))), (⟨(some 56), none, (.call 13 [(.tmp 54), (.tmp 55)])⟩, (.ent (e13 fu))), (⟨(some 13), none, (.mov (.tmp 56))⟩, .none)] [[], [0], [0, 1], [], [2, 3, 1], [4, 4, 0, 1, 2, 3, 4]] false) (.seq (.region [(⟨(some 58), none, (.call 10 [(.const (.int .u64 5)), (.const (.int .u64 1)), (.const (.int .u64 0))])⟩, (.ent (e10 fu))), (⟨(some 59), none, (.bslice 25 4 1 [(.int .u64 0), (.int .u64 0), (.bool false), (.int .u64 0)] [(0, (.tmp 58))])⟩, (.ty T_api_Producer)), (⟨(some 60), none, (.call 10 [(.const (.int .u64 5)), (.const (.int .u64 2)), (.const (.int .u64 0))])⟩, (.ent (e10 fu))), (⟨(some 61), none, (.bslice 25 4 1 [(.int .u64 0), (.int .u64 0), (.bool false), (.int .u64 0)] [(0, (.tmp 60))])⟩, (.ty T_api_Producer)), (⟨(some 62), none, (.bslice 23 1 2 [(.int .u64 0)] [(0, (.const (.int .u64 0))), (1, (.const (.int .u64 2)))])⟩, (.ty (.int .u64))), (⟨(some 63), none, (.bslice 23 1 2 [(.int .u64 0)] [(0, (.const (.int .u64 1))), (1, (.const (.int .u64 2)))])⟩, (.ty (.int .u64))), (⟨(some 64), none, (.call 14 [(.tmp 59), (.tmp 61), (.tmp 62), (.tmp 63)])⟩, (.ent (e14 fu))), (⟨(some 57), none, (.mov (.tmp 64))⟩, .none), (⟨(some 65), none, (.ext (.tmp 57) 0)⟩, .none), (⟨(some 66), none, (.ext (.tmp 57) 1)⟩, .none), (⟨(some 14), none, (.mov (.tmp 65))⟩, .none), (⟨(some 15), none, (.mov (.tmp 66))⟩, .none)] [[], [0], [0], [2], [], [], [1, 3, 4, 5, 2], [6], [7], [7], [8, 6, 0, 1, 2, 3, 4, 5, 6, 7, 8], [9, 10, 0, 1, 2, 3, 4, 5, 6, 7, 8, 9, 10]] false) (.seq (.region [(⟨(some 68), none, (.mov (.tmp 2))⟩, .none), (⟨(some 69), none, (.call 12 [(.tmp 68), (.const (.int .u64 0)), (.const (.int .u64 1)), (.const (.int .u64 0))])⟩, (.ent (e12 fu))), (⟨(some 67), none, (.mov (.tmp 69))⟩, .none), (⟨(some 70), none, (.ext (.tmp 67) 0)⟩, .none), (⟨(some 71), none, (.ext (.tmp 67) 1)⟩, .none), (⟨(some 16), none, (.mov (.tmp 70))⟩, .none), (⟨(some 17), none, (.mov (.tmp 71))⟩, .none)] [[], [0], [1], [2], [2], [3, 1, 0, 1, 2, 3], [4, 5, 0, 1, 2, 3, 4, 5]] false) (.seq (.region [(⟨(some 73), none, (.mov (.tmp 2))⟩, .none), (⟨(some 74), none, (.call 12 [(.tmp 73), (.const (.int .u64 7)), (.const (.int .u64 3)), (.const (.int .u64 0))])⟩, (.ent (e12 fu))), (⟨(some 72), none, (.mov (.tmp 74))⟩, .none), (⟨(some 75), none, (.ext (.tmp 72) 0)⟩, .none), (⟨(some 76), none, (.ext (.tmp 72) 1)⟩, .none), (⟨(some 18), none, (.mov (.tmp 75))⟩, .none), (⟨(some 19), none, (.mov (.tmp 76))⟩, .none)] [[], [0], [1], [2], [2], [3, 1, 0, 1, 2, 3], [4, 5, 0, 1, 2, 3, 4, 5]] false) (.seq (.region [(⟨(some 78), none, (.build 4 [(.int .u64 0), (.int .u64 0), (.bool false), (.int .u64 0)] [(0, (1, (.const (.int .u64 1))))])⟩, .none), (⟨(some 79), none, (.bslice 25 4 1 [(.int .u64 0), (.int .u64 0), (.bool false), (.int .u64 0)] [(0, (.tmp 78))])⟩, (.ty T_api_Producer)), (⟨(some 80), none, (.call 12 [(.tmp 79), (.const (.int .u64 7)), (.const (.int .u64 3)), (.const (.int .u64 0))])⟩, (.ent (e12 fu))), (⟨(some 77), none, (.mov (.tmp 80))⟩, .none), (⟨(some 81), none, (.ext (.tmp 77) 0)⟩, .none), (⟨(some 82), none, (.ext (.tmp 77) 1)⟩, .none), (⟨(some 20), none, (.mov (.tmp 81))⟩, .none), (⟨(some 21), none, (.mov (.tmp 82))⟩, .none)] [[], [0], [1], [2], [3], [3], [4, 2, 0, 1, 2, 3, 4], [5, 6, 0, 1, 2, 3, 4, 5, 6]] false) (.join ⟨[22], (.cons (.hole .bool) .nil), [], .nil, [1, 13, 14, 15, 17, 19, 21], [720, 848]⟩
 (.region [(⟨(some 83), none, (.mov (.tmp 3))⟩, .none), (⟨(some 84), none, (.bin .eql (.tmp 83) (.const (.int .i64 3)))⟩, .none), (⟨(some 85), none, (.mov (.tmp 84))⟩, .none), (⟨(some 86), (some (85, true)), (.mov (.tmp 5))⟩, .none), (⟨(some 87), (some (85, true)), (.bin .eql (.tmp 86) (.const (.int .i64 1)))⟩, .none), (⟨(some 88), none, (.pick (.tmp 85) (.tmp 87) (.const (.bool false)))⟩, .none), (⟨(some 89), none, (.mov (.tmp 88))⟩, .none), (⟨(some 90), (some (89, true)), (.mov (.tmp 7))⟩, .none), (⟨(some 91), (some (89, true)), (.bin .eql (.tmp 90) (.const (.int .i64 4)))⟩, .none), (⟨(some 92), none, (.pick (.tmp 89) (.tmp 91) (.const (.bool false)))⟩, .none), (⟨(some 93), none, (.mov (.tmp 92))⟩, .none), (⟨(some 94), (some (93, true)), (.mov (.tmp 9))⟩, .none), (⟨(some 95), (some (93, true)), (.bin .eql (.tmp 94) (.const (.int .i64 4)))⟩, .none), (⟨(some 96), none, (.pick (.tmp 93) (.tmp 95) (.const (.bool false)))⟩, .none), (⟨(some 97), none, (.mov (.tmp 96))⟩, .none), (⟨(some 98), (some (97, true)), (.mov (.tmp 11))⟩, .none), (⟨(some 99), (some (97, true)), (.call 10 [(.const (.int .u64 5)), (.const (.int .u64 1)), (.const (.int .u64 2))])⟩, (.ent (e10 fu))), (⟨(some 100), (some (97, true)), (.call 10 [(.const (.int .u64 7)), (.const (.int .u64 3)), (.const (.int .u64 9))])⟩, (.ent (e10 fu))), (⟨(some 101), (some (97, true)), (.bslice 25 4 2 [(.int .u64 0), (.int .u64 0), (.bool false), (.int .u64 0)] [(0, (.tmp 99)), (1, (.tmp 100))])⟩, (.ty T_api_Producer)), (⟨(some 102), (some (97, true)), (.call 15 [(.tmp 98), (.tmp 101)])⟩, (.ent (e15 fu))), (⟨(some 103), none, (.pick (.tmp 97) (.tmp 102) (.const (.bool false)))⟩, .none), (⟨(some 104), none, (.mov (.tmp 103))⟩, .none), (⟨(some 105), (some (104, true)), (.mov (.tmp 12))⟩, .none), (⟨(some 106), (some (104, true)), (.bin .eql (.tmp 105) (.const (.int .i64 0)))⟩, .none), (⟨(some 107), none, (.pick (.tmp 104) (.tmp 106) (.const (.bool false)))⟩, .none), (⟨(some 22), none, (.mov (.tmp 107))⟩, .none)] [[], [0], [1], [2], [3, 2], [2, 4], [5, 2], [6], [7, 6], [6, 8], [9, 6], [10], [11, 10], [10, 12], [13, 10], [14], [14, 14], [16, 14], [16, 17, 14], [15, 18, 17, 14], [14, 19], [20, 19], [21], [22, 21], [21, 23], [24, 21, 0, 1, 2, 3, 4, 5, 6, 7, 8, 9, 10, 11, 12, 13, 14, 15, 16, 17, 18, 19, 20, 21, 22, 23, 24]] false)
 (.join ⟨[23], (.cons (.hole .bool) .nil), [], .nil, [1, 17, 19, 21, 22], []⟩
 (.region [(⟨(some 108), none, (.mov (.tmp 13))⟩, .none), (⟨(some 109), none, (.build 4 [(.int .u64 0), (.int .u64 0), (.bool false), (.int .u64 0)] [(0, (1, (.const (.int .u64 5)))), (1, (1, (.const (.int .u64 1))))])⟩, .none), (⟨(some 110), none, (.call 10 [(.const (.int .u64 7)), (.const (.int .u64 3)), (.const (.int .u64 0))])⟩, (.ent (e10 fu))), (⟨(some 111), none, (.bslice 25 4 2 [(.int .u64 0), (.int .u64 0), (.bool false), (.int .u64 0)] [(0, (.tmp 109)), (1, (.tmp 110))])⟩, (.ty T_api_Producer)), (⟨(some 112), none, (.call 15 [(.tmp 108), (.tmp 111)])⟩, (.ent (e15 fu))), (⟨(some 113), none, (.mov (.tmp 112))⟩, .none), (⟨(some 114), (some (113, true)), (.mov (.tmp 14))⟩, .none), (⟨(some 115), (some (113, true)), (.call 10 [(.const (.int .u64 5)), (.const (.int .u64 2)), (.const (.int .u64 1))])⟩, (.ent (e10 fu))), (⟨(some 116), (some (113, true)), (.bslice 25 4 1 [(.int .u64 0), (.int .u64 0), (.bool false), (.int .u64 0)] [(0, (.tmp 115))])⟩, (.ty T_api_Producer)), (⟨(some 117), (some (113, true)), (.call 15 [(.tmp 114), (.tmp 116)])⟩, (.ent (e15 fu))), (⟨(some 118), none, (.pick (.tmp 113) (.tmp 117) (.const (.bool false)))⟩, .none), (⟨(some 119), none, (.mov (.tmp 118))⟩, .none), (⟨(some 120), (some (119, true)), (.mov (.tmp 15))⟩, .none), (⟨(some 121), (some (119, true)), (.bin .eql (.tmp 120) (.const (.int .i64 0)))⟩, .none), (⟨(some 122), none, (.pick (.tmp 119) (.tmp 121) (.const (.bool false)))⟩, .none), (⟨(some 23), none, (.mov (.tmp 122))⟩, .none)] [[], [], [], [1, 2], [0, 3, 2], [4, 4], [5], [5, 5], [7, 5], [6, 8, 7, 5], [5, 9], [10, 9], [11], [12, 11], [11, 13], [14, 11, 0, 1, 2, 3, 4, 5, 6, 7, 8, 9, 10, 11, 12, 13, 14]] false)
 (.seq (.region [(⟨(some 123), none, (.mov (.tmp 1))⟩, .none), (⟨(some 124), none, (.mov (.tmp 123))⟩, .none), (⟨(some 125), (some (124, true)), (.mov (.tmp 22))⟩, .none), (⟨(some 126), none, (.pick (.tmp 124) (.tmp 125) (.const (.bool false)))⟩, .none), (⟨(some 127), none, (.mov (.tmp 126))⟩, .none), (⟨(some 128), (some (127, true)), (.mov (.tmp 23))⟩, .none), (⟨(some 129), none, (.pick (.tmp 127) (.tmp 128) (.const (.bool false)))⟩, .none), (⟨(some 130), none, (.mov (.tmp 129))⟩, .none), (⟨(some 131), (some (130, true)), (.mov (.tmp 17))⟩, .none), (⟨(some 132), (some (130, true)), (.bin .eql (.tmp 131) (.const (.int .i64 151)))⟩, .none), (⟨(some 133), none, (.pick (.tmp 130) (.tmp 132) (.const (.bool false)))⟩, .none), (⟨(some 134), none, (.mov (.tmp 133))⟩, .none), (⟨(some 135), (some (134, true)), (.mov (.tmp 19))⟩, .none), (⟨(some 136), (some (134, true)), (.bin .eql (.tmp 135) (.const (.int .i64 152)))⟩, .none), (⟨(some 137), none, (.pick (.tmp 134) (.tmp 136) (.const (.bool false)))⟩, .none), (⟨(some 138), none, (.mov (.tmp 137))⟩, .none), (⟨(some 139), (some (138, true)), (.mov (.tmp 21))⟩, .none), (⟨(some 140), (some (138, true)), (.bin .eql (.tmp 139) (.const (.int .i64 1)))⟩, .none), (⟨(some 141), none, (.pick (.tmp 138) (.tmp 140) (.const (.bool false)))⟩, .none), (⟨(some 142), none, (.mov (.tmp 141))⟩, .none), (⟨(some 143), none, (.pick (.tmp 142) (.const (.bool true)) (.const (.bool false)))⟩, .none), (⟨(some 0), none, (.mov (.tmp 143))⟩, .none)] [[], [0], [1], [1, 2], [3, 1], [4], [4, 5], [6, 4], [7], [8, 7], [7, 9], [10, 7], [11], [12, 11], [11, 13], [14, 11], [15], [16, 15], [15, 17], [18, 15], [19], [20, 19, 0, 1, 2, 3, 4, 5, 6, 7, 8, 9, 10, 11, 12, 13, 14, 15, 16, 17, 18, 19, 20]] false) .ret))))))))))))))))
set_option maxRecDepth 1000000 in
theorem v3 (fu : Nat) : evF fu (d3 fu) rs3 144 (e3 fu).ash (e3 fu).osh (e3 fu).vsh = p3 fu := by kernel_rfl
set_option maxRecDepth 1000000 in
theorem b3 (fu : Nat) : BodyD Try.prog 3 144 (d3 fu).erase rs3 := bodyD_mk Try.func3 (by kernel_rfl) (by kernel_rfl) (by kernel_rfl) (by kernel_rfl)
theorem g3 (fu : Nat) : (e3 fu).Good Try.prog := good_by orders (b3 fu) (l := [e9 fu, e10 fu, e11 fu, e11 fu, e11 fu, e11 fu, e12 fu, e10 fu, e10 fu, e13 fu, e10 fu, e10 fu, e14 fu, e12 fu, e12 fu, e12 fu, e10 fu, e10 fu, e15 fu, e10 fu, e15 fu, e10 fu, e15 fu]) (by kernel_rfl) ⟨g9 fu, g10 fu, g11 fu, g11 fu, g11 fu, g11 fu, g12 fu, g10 fu, g10 fu, g13 fu, g10 fu, g10 fu, g14 fu, g12 fu, g12 fu, g12 fu, g10 fu, g10 fu, g15 fu, g10 fu, g15 fu, g10 fu, g15 fu, trivial⟩ (by kernel_rfl) (v3 fu)
def rs17 : List RVx := [(.tmp 2)]
/-- gazette/gazetteref15.Table -/
def p17 (fu : Nat) : (List (D_api_Producer)) × (Unit) → Option ((Unit) × (Bool)) := fun ⟨a0, _⟩ =>
  bif decide ((List.length a0 : Int) > (256 : Int)) then
   some ((), false)
  else
   loopO (S := ((Int) × (Unit)) × (Unit)) fu (fun ⟨⟨v3, _⟩, _⟩ =>
     bif decide (v3 < (List.length a0 : Int)) then
      bif decide ((0 : Int) ≤ v3 ∧ v3 < (List.length a0 : Int)) then
       bif decide (Int.toNat v3 < List.length a0) then
        bif (((List.getD a0 (Int.toNat v3) (dflt T_api_Producer)).1) == (0 : Int)) then
         inrO (some ((), false))
        else
         bif decide ((0 : Int) ≤ v3 ∧ v3 < (List.length a0 : Int)) then
          bif decide (Int.toNat v3 < List.length a0) then
           bif decide ((((List.getD a0 (Int.toNat v3) (dflt T_api_Producer)).2).1) < (1 : Int)) then
            inrO (some ((), false))
           else
            bif decide ((0 : Int) ≤ v3 ∧ v3 < (List.length a0 : Int)) then
             bif decide (Int.toNat v3 < List.length a0) then
              bif decide ((((List.getD a0 (Int.toNat v3) (dflt T_api_Producer)).2).1) > (9223372036854775807 : Int)) then
               inrO (some ((), false))
              else
               bif decide ((0 : Int) ≤ v3 ∧ v3 < (List.length a0 : Int)) then
                bif decide (Int.toNat v3 < List.length a0) then
                 bif !((((List.getD a0 (Int.toNat v3) (dflt T_api_Producer)).2).2).1) then
                  bif decide ((0 : Int) ≤ v3 ∧ v3 < (List.length a0 : Int)) then
                   bif decide (Int.toNat v3 < List.length a0) then
                    bif (((((List.getD a0 (Int.toNat v3) (dflt T_api_Producer)).2).2).2) != (0 : Int)) then
                     inrO (some ((), false))
                    else
                     bif decide (v3 > (0 : Int)) then
                      bif decide ((0 : Int) ≤ IntKind.wrap .i64 (v3 - (1 : Int)) ∧ IntKind.wrap .i64 (v3 - (1 : Int)) < (List.length a0 : Int)) then
                       bif decide (Int.toNat (IntKind.wrap .i64 (v3 - (1 : Int))) < List.length a0) then
                        bif decide ((0 : Int) ≤ v3 ∧ v3 < (List.length a0 : Int)) then
                         bif decide (Int.toNat v3 < List.length a0) then
                          bif decide (((List.getD a0 (Int.toNat (IntKind.wrap .i64 (v3 - (1 : Int)))) (dflt T_api_Producer)).1) ≥ ((List.getD a0 (Int.toNat v3) (dflt T_api_Producer)).1)) then
                           inrO (some ((), false))
                          else
                           some (.inl ((IntKind.wrap .i64 (v3 + (1 : Int)), ()), ()))
                         else none
                        else none
                       else none
                      else none
                     else
                      some (.inl ((IntKind.wrap .i64 (v3 + (1 : Int)), ()), ()))
                   else none
                  else none
                 else
                  bif decide (v3 > (0 : Int)) then
                   bif decide ((0 : Int) ≤ IntKind.wrap .i64 (v3 - (1 : Int)) ∧ IntKind.wrap .i64 (v3 - (1 : Int)) < (List.length a0 : Int)) then
                    bif decide (Int.toNat (IntKind.wrap .i64 (v3 - (1 : Int))) < List.length a0) then
                     bif decide ((0 : Int) ≤ v3 ∧ v3 < (List.length a0 : Int)) then
                      bif decide (Int.toNat v3 < List.length a0) then
                       bif decide (((List.getD a0 (Int.toNat (IntKind.wrap .i64 (v3 - (1 : Int)))) (dflt T_api_Producer)).1) ≥ ((List.getD a0 (Int.toNat v3) (dflt T_api_Producer)).1)) then
                        inrO (some ((), false))
                       else
                        some (.inl ((IntKind.wrap .i64 (v3 + (1 : Int)), ()), ()))
                      else none
                     else none
                    else none
                   else none
                  else
                   some (.inl ((IntKind.wrap .i64 (v3 + (1 : Int)), ()), ()))
                else none
               else none
             else none
            else none
          else none
         else none
       else none
      else none
     else
      inrO (some ((), true)))
    (((0 : Int), ()), ())
def e17 (fu : Nat) : Ent := ⟨17, (.cons (.hole (.sl T_api_Producer)) .nil), .nil, (.hole .bool), p17 fu⟩
def d17 (fu : Nat) : DC := (.seq (.region [(⟨(some 2), none, (.mov (.const (.bool false)))⟩, .none)] [[]] false) (.seq (.seq (.region [(⟨(some 4), none, (.mov (.tmp 0))⟩, .none), (⟨(some 5), none, (.len false (.tmp 4))⟩, .none), (⟨(some 6), none, (.bin .gtr (.tmp 5) (.const (.int .i64 256)))⟩, .none)] [[], [0], [1]] false) (.cond (.tmp 6) (.seq (.region [(⟨(some 2), none, (.mov (.const (.bool false)))⟩, .none)] [[]] false) .ret) .skip)) (.seq (.seq (.region [(⟨(some 3), none, (.mov (.const (.int .i64 0)))⟩, .none)] [[]] false) (.block 0 (.loop ⟨[3], (.cons (.hole (.int .i64)) .nil), [], .nil, [0], []⟩
 (.seq (.seq (.region [(⟨(some 7), none, (.mov (.tmp 3))⟩, .none), (⟨(some 8), none, (.mov (.tmp 0))⟩, .none), (⟨(some 9), none, (.len false (.tmp 8))⟩, .none), (⟨(some 10), none, (.bin .lss (.tmp 7) (.tmp 9))⟩, .none)] [[], [], [1], [0, 2]] false) (.cond (.tmp 10) .skip (.exit 0))) (.seq (.block 1 (.seq (.region [(⟨(some 13), none, (.mov (.tmp 0))⟩, .none), (⟨(some 14), none, (.mov (.tmp 3))⟩, .none), (⟨(some 15), none, (.iaddr 4 (.tmp 13) (.tmp 14))⟩, .none), (⟨(some 16), none, (.faddr 0 (.tmp 15))⟩, .none), (⟨(some 17), none, (.load false 1 (.tmp 16))⟩, .none), (⟨(some 18), none, (.bin .eql (.tmp 17) (.const (.int .u64 0)))⟩, .none), (⟨(some 19), none, (.mov (.tmp 18))⟩, .none), (⟨(some 20), (some (19, false)), (.mov (.tmp 0))⟩, .none), (⟨(some 21), (some (19, false)), (.mov (.tmp 3))⟩, .none), (⟨(some 22), (some (19, false)), (.iaddr 4 (.tmp 20) (.tmp 21))⟩, .none), (⟨(some 23), (some (19, false)), (.faddr 1 (.tmp 22))⟩, .none), (⟨(some 24), (some (19, false)), (.load false 1 (.tmp 23))⟩, .none), (⟨(some 25), (some (19, false)), (.bin .lss (.tmp 24) (.const (.int .u64 1)))⟩, .none), (⟨(some 26), none, (.pick (.tmp 19) (.const (.bool true)) (.tmp 25))⟩, .none), (⟨(some 27), none, (.mov (.tmp 26))⟩, .none), (⟨(some 28), (some (27, false)), (.mov (.tmp 0))⟩, .none), (⟨(some 29), (some (27, false)), (.mov (.tmp 3))⟩, .none), (⟨(some 30), (some (27, false)), (.iaddr 4 (.tmp 28) (.tmp 29))⟩, .none), (⟨(some 31), (some (27, false)), (.faddr 1 (.tmp 30))⟩, .none), (⟨(some 32), (some (27, false)), (.load false 1 (.tmp 31))⟩, .none), (⟨(some 33), (some (27, false)), (.bin .gtr (.tmp 32) (.const (.int .u64 9223372036854775807)))⟩, .none), (⟨(some 34), none, (.pick (.tmp 27) (.const (.bool true)) (.tmp 33))⟩, .none), (⟨(some 35), none, (.mov (.tmp 34))⟩, .none), (⟨(some 36), (some (35, false)), (.mov (.tmp 0))⟩, .none), (⟨(some 37), (some (35, false)), (.mov (.tmp 3))⟩, .none), (⟨(some 38), (some (35, false)), (.iaddr 4 (.tmp 36) (.tmp 37))⟩, .none), (⟨(some 39), (some (35, false)), (.faddr 2 (.tmp 38))⟩, .none), (⟨(some 40), (some (35, false)), (.load false 1 (.tmp 39))⟩, .none), (⟨(some 41), (some (35, false)), (.not (.tmp 40))⟩, .none), (⟨(some 42), (some (35, false)), (.mov (.tmp 41))⟩, .none), (⟨(some 43), (some (42, true)), (.mov (.tmp 0))⟩, .none), (⟨(some 44), (some (42, true)), (.mov (.tmp 3))⟩, .none), (⟨(some 45), (some (42, true)), (.iaddr 4 (.tmp 43) (.tmp 44))⟩, .none), (⟨(some 46), (some (42, true)), (.faddr 3 (.tmp 45))⟩, .none), (⟨(some 47), (some (42, true)), (.load false 1 (.tmp 46))⟩, .none), (⟨(some 48), (some (42, true)), (.bin .neq (.tmp 47) (.const (.int .u64 0)))⟩, .none), (⟨(some 49), (some (35, false)), (.pick (.tmp 42) (.tmp 48) (.const (.bool false)))⟩, .none), (⟨(some 50), none, (.pick (.tmp 35) (.const (.bool true)) (.tmp 49))⟩, .none), (⟨(some 51), none, (.mov (.tmp 50))⟩, .none), (⟨(some 52), (some (51, false)), (.mov (.tmp 3))⟩, .none), (⟨(some 53), (some (51, false)), (.bin .gtr (.tmp 52) (.const (.int .i64 0)))⟩, .none), (⟨(some 54), (some (51, false)), (.mov (.tmp 53))⟩, .none), (⟨(some 55), (some (54, true)), (.mov (.tmp 0))⟩, .none), (⟨(some 56), (some (54, true)), (.mov (.tmp 3))⟩, .none), (⟨(some 57), (some (54, true)), (.bin .sub (.tmp 56) (.const (.int .i64 1)))⟩, .none), (⟨(some 58), (some (54, true)), (.iaddr 4 (.tmp 55) (.tmp 57))⟩, .none), (⟨(some 59), (some (54, true)), (.faddr 0 (.tmp 58))⟩, .none), (⟨(some 60), (some (54, true)), (.load false 1 (.tmp 59))⟩, .none), (⟨(some 61), (some (54, true)), (.mov (.tmp 0))⟩, .none), (⟨(some 62), (some (54, true)), (.mov (.tmp 3))⟩, .none), (⟨(some 63), (some (54, true)), (.iaddr 4 (.tmp 61) (.tmp 62))⟩, .none), (⟨(some 64), (some (54, true)), (.faddr 0 (.tmp 63))⟩, .none), (⟨(some 65), (some (54, true)), (.load false 1 (.tmp 64))⟩, .none), (⟨(some 66), (some (54, true)), (.bin .geq (.tmp 60) (.tmp 65))⟩, .none), (⟨(some 67), (some (51, false)), (.pick (.tmp 54) (.tmp 66) (.const (.bool false)))⟩, .none), (⟨(some 68), none, (.pick (.tmp 51) (.const (.bool true)) (.tmp 67))⟩, .none)] [[], [], [0, 1], [2], [3], [4], [5], [6], [6], [7, 8, 6], [9, 6], [10, 6], [11, 6], [6, 12], [13, 6], [14], [14], [15, 16, 14], [17, 14], [18, 14], [19, 14], [14, 20], [21, 14], [22], [22], [23, 24, 22], [25, 22], [26, 22], [27, 22], [28, 22, 22], [29], [29], [30, 31, 29], [32, 29], [33, 29], [34, 29], [29, 35, 22], [22, 36], [37, 29], [38], [39, 38], [40, 38, 38], [41], [41], [43, 41], [42, 44, 41], [45, 41], [46, 41], [41], [41], [48, 49, 41], [50, 41], [51, 41], [47, 52, 41], [41, 53, 38], [38, 54]] true) (.cond (.tmp 68) (.seq (.region [(⟨(some 2), none, (.mov (.const (.bool false)))⟩, .none)] [[]] false) .ret) .skip))) (.region [(⟨(some 11), none, (.mov (.tmp 3))⟩, .none), (⟨(some 12), none, (.bin .add (.tmp 11) (.const (.int .i64 1)))⟩, .none), (⟨(some 3), none, (.mov (.tmp 12))⟩, .none)] [[], [0], [1, 0, 1]] false)))))) (.seq (.region [(⟨(some 2), none, (.mov (.const (.bool true)))⟩, .none)] [[]] false) .ret))))
set_option maxRecDepth 1000000 in
theorem v17 (fu : Nat) : evF fu (d17 fu) rs17 69 (e17 fu).ash (e17 fu).osh (e17 fu).vsh = p17 fu := by kernel_rfl
set_option maxRecDepth 1000000 in
theorem b17 (fu : Nat) : BodyD Try.prog 17 69 (d17 fu).erase rs17 := bodyD_mk Try.func17 (by kernel_rfl) (by kernel_rfl) (by kernel_rfl) (by kernel_rfl)
theorem g17 (fu : Nat) : (e17 fu).Good Try.prog := good_by orders (b17 fu) (l := []) (by kernel_rfl) trivial (by kernel_rfl) (v17 fu)
def rs35 : List RVx := [(.tmp 4)]
/-- gazette/gazetteref15.find -/
def p35 (fu : Nat) : (List (D_api_Producer)) × ((Int) × (Unit)) → Option ((Unit) × (Int)) := fun ⟨a0, a1, _⟩ =>
  loopO (S := ((Int) × (Unit)) × (Unit)) fu (fun ⟨⟨v5, _⟩, _⟩ =>
    bif decide (v5 < (List.length a0 : Int)) then
     bif decide ((0 : Int) ≤ v5 ∧ v5 < (List.length a0 : Int)) then
      bif decide (Int.toNat v5 < List.length a0) then
       bif (((List.getD a0 (Int.toNat v5) (dflt T_api_Producer)).1) == a1) then
        inrO (some ((), v5))
       else
        some (.inl ((IntKind.wrap .i64 (v5 + (1 : Int)), ()), ()))
      else none
     else none
    else
     inrO (some ((), ((-1) : Int))))
   (((0 : Int), ()), ())
def e35 (fu : Nat) : Ent := ⟨35, (.cons (.hole (.sl T_api_Producer)) (.cons (.hole (.int .u64)) .nil)), .nil, (.hole (.int .i64)), p35 fu⟩
def d35 (fu : Nat) : DC := (.seq (.region [(⟨(some 4), none, (.mov (.const (.int .i64 0)))⟩, .none)] [[]] false) (.seq (.seq (.region [(⟨(some 5), none, (.mov (.const (.int .i64 0)))⟩, .none)] [[]] false) (.block 0 (.loop ⟨[5], (.cons (.hole (.int .i64)) .nil), [], .nil, [0, 1], []⟩
 (.seq (.seq (.region [(⟨(some 6), none, (.mov (.tmp 5))⟩, .none), (⟨(some 7), none, (.mov (.tmp 0))⟩, .none), (⟨(some 8), none, (.len false (.tmp 7))⟩, .none), (⟨(some 9), none, (.bin .lss (.tmp 6) (.tmp 8))⟩, .none)] [[], [], [1], [0, 2]] false) (.cond (.tmp 9) .skip (.exit 0))) (.seq (.block 1 (.seq (.region [(⟨(some 12), none, (.mov (.tmp 0))⟩, .none), (⟨(some 13), none, (.mov (.tmp 5))⟩, .none), (⟨(some 14), none, (.iaddr 4 (.tmp 12) (.tmp 13))⟩, .none), (⟨(some 15), none, (.faddr 0 (.tmp 14))⟩, .none), (⟨(some 16), none, (.load false 1 (.tmp 15))⟩, .none), (⟨(some 17), none, (.mov (.tmp 1))⟩, .none), (⟨(some 18), none, (.bin .eql (.tmp 16) (.tmp 17))⟩, .none)] [[], [], [0, 1], [2], [3], [], [4, 5]] false) (.cond (.tmp 18) (.seq (.region [(⟨(some 19), none, (.mov (.tmp 5))⟩, .none), (⟨(some 4), none, (.mov (.tmp 19))⟩, .none)] [[], [0, 0]] false) .ret) .skip))) (.region [(⟨(some 10), none, (.mov (.tmp 5))⟩, .none), (⟨(some 11), none, (.bin .add (.tmp 10) (.const (.int .i64 1)))⟩, .none), (⟨(some 5), none, (.mov (.tmp 11))⟩, .none)] [[], [0], [1, 0, 1]] false)))))) (.seq (.region [(⟨(some 4), none, (.mov (.const (.int .i64 (-1))))⟩, .none)] [[]] false) .ret)))
set_option maxRecDepth 1000000 in
theorem v35 (fu : Nat) : evF fu (d35 fu) rs35 20 (e35 fu).ash (e35 fu).osh (e35 fu).vsh = p35 fu := by kernel_rfl
set_option maxRecDepth 1000000 in
theorem b35 (fu : Nat) : BodyD Try.prog 35 20 (d35 fu).erase rs35 := bodyD_mk Try.func35 (by kernel_rfl) (by kernel_rfl) (by kernel_rfl) (by kernel_rfl)
theorem g35 (fu : Nat) : (e35 fu).Good Try.prog := good_by orders (b35 fu) (l := []) (by kernel_rfl) trivial (by kernel_rfl) (v35 fu)
def rs18 : List RVx := [(.tmp 6), (.tmp 7)]
/-- gazette/gazetteref15.Judge -/
def p18 (fu : Nat) : (List (D_api_Producer)) × ((Int) × ((Int) × (Unit))) → Option ((Unit) × ((Int) × ((Int) × (Unit)))) := fun ⟨a0, a1, a2, _⟩ =>
  bif (a1 == (0 : Int)) then
   some ((), ((4 : Int), (0 : Int), ()))
  else
   bif decide (a2 < (1 : Int)) then
    some ((), ((4 : Int), (0 : Int), ()))
   else
    bif decide (a2 > (9223372036854775807 : Int)) then
     some ((), ((4 : Int), (0 : Int), ()))
    else
     Option.bind (p35 fu (a0, a1, ())) fun ⟨_, r141⟩ =>
     orK (E := ((Bool) × (Unit)) × (Unit))
      (bif decide (r141 < (0 : Int)) then
        some (.inl ((true, ()), ()))
       else
        bif decide ((0 : Int) ≤ r141 ∧ r141 < (List.length a0 : Int)) then
         bif decide (Int.toNat r141 < List.length a0) then
          some (.inl ((decide (a2 > (((List.getD a0 (Int.toNat r141) (dflt T_api_Producer)).2).1)), ()), ()))
         else none
        else none)
      fun ⟨⟨v22, _⟩, _⟩ =>
     bif v22 then
      some ((), ((1 : Int), (0 : Int), ()))
     else
      orK (E := ((Bool) × (Unit)) × (Unit))
       (bif decide ((0 : Int) ≤ r141 ∧ r141 < (List.length a0 : Int)) then
         bif decide (Int.toNat r141 < List.length a0) then
          bif (a2 == (((List.getD a0 (Int.toNat r141) (dflt T_api_Producer)).2).1)) then
           bif decide ((0 : Int) ≤ r141 ∧ r141 < (List.length a0 : Int)) then
            bif decide (Int.toNat r141 < List.length a0) then
             some (.inl (((((List.getD a0 (Int.toNat r141) (dflt T_api_Producer)).2).2).1, ()), ()))
            else none
           else none
          else
           some (.inl ((false, ()), ()))
         else none
        else none)
       fun ⟨⟨v34, _⟩, _⟩ =>
      bif v34 then
       bif decide ((0 : Int) ≤ r141 ∧ r141 < (List.length a0 : Int)) then
        bif decide (Int.toNat r141 < List.length a0) then
         some ((), ((2 : Int), (((List.getD a0 (Int.toNat r141) (dflt T_api_Producer)).2).2).2, ()))
        else none
       else none
      else
       some ((), ((3 : Int), (0 : Int), ()))
def e18 (fu : Nat) : Ent := ⟨18, (.cons (.hole (.sl T_api_Producer)) (.cons (.hole (.int .u64)) (.cons (.hole (.int .u64)) .nil))), .nil, (.tup 2 (.cons (.hole (.int .i64)) (.cons (.hole (.int .u64)) .nil))), p18 fu⟩
def d18 (fu : Nat) : DC := (.seq (.region [(⟨(some 6), none, (.mov (.const (.int .i64 0)))⟩, .none), (⟨(some 7), none, (.mov (.const (.int .u64 0)))⟩, .none)] [[], [0]] false) (.seq (.seq (.region [(⟨(some 9), none, (.mov (.tmp 1))⟩, .none), (⟨(some 10), none, (.bin .eql (.tmp 9) (.const (.int .u64 0)))⟩, .none), (⟨(some 11), none, (.mov (.tmp 10))⟩, .none), (⟨(some 12), (some (11, false)), (.mov (.tmp 2))⟩, .none), (⟨(some 13), (some (11, false)), (.bin .lss (.tmp 12) (.const (.int .u64 1)))⟩, .none), (⟨(some 14), none, (.pick (.tmp 11) (.const (.bool true)) (.tmp 13))⟩, .none), (⟨(some 15), none, (.mov (.tmp 14))⟩, .none), (⟨(some 16), (some (15, false)), (.mov (.tmp 2))⟩, .none), (⟨(some 17), (some (15, false)), (.bin .gtr (.tmp 16) (.const (.int .u64 9223372036854775807)))⟩, .none), (⟨(some 18), none, (.pick (.tmp 15) (.const (.bool true)) (.tmp 17))⟩, .none)] [[], [0], [1], [2], [3, 2], [2, 4], [5, 2], [6], [7, 6], [6, 8]] false) (.cond (.tmp 18) (.seq (.region [(⟨(some 6), none, (.mov (.const (.int .i64 4)))⟩, .none), (⟨(some 7), none, (.mov (.const (.int .u64 0)))⟩, .none)] [[], [0, 0]] false) .ret) .skip)) (.seq (.region [(⟨(some 19), none, (.mov (.tmp 0))⟩, .none), (⟨(some 20), none, (.mov (.tmp 1))⟩, .none), (⟨(some 21), none, (.call 35 [(.tmp 19), (.tmp 20)])⟩, (.ent (e35 fu))), (⟨(some 8), none, (.mov (.tmp 21))⟩, .none)] [[], [], [0, 1], [2, 2, 0, 1, 2]] false) (.seq (.block 0 (.join ⟨[22], (.cons (.hole .bool) .nil), [], .nil, [0, 2, 8], []⟩
 (.region [(⟨(some 23), none, (.mov (.tmp 8))⟩, .none), (⟨(some 24), none, (.bin .lss (.tmp 23) (.const (.int .i64 0)))⟩, .none), (⟨(some 25), none, (.mov (.tmp 24))⟩, .none), (⟨(some 26), (some (25, false)), (.mov (.tmp 2))⟩, .none), (⟨(some 27), (some (25, false)), (.mov (.tmp 0))⟩, .none), (⟨(some 28), (some (25, false)), (.mov (.tmp 8))⟩, .none), (⟨(some 29), (some (25, false)), (.iaddr 4 (.tmp 27) (.tmp 28))⟩, .none), (⟨(some 30), (some (25, false)), (.faddr 1 (.tmp 29))⟩, .none), (⟨(some 31), (some (25, false)), (.load false 1 (.tmp 30))⟩, .none), (⟨(some 32), (some (25, false)), (.bin .gtr (.tmp 26) (.tmp 31))⟩, .none), (⟨(some 33), none, (.pick (.tmp 25) (.const (.bool true)) (.tmp 32))⟩, .none), (⟨(some 22), none, (.mov (.tmp 33))⟩, .none)] [[], [0], [1], [2], [2], [2], [4, 5, 2], [6, 2], [7, 2], [3, 8, 2], [2, 9], [10, 2]] false)
 (.cond (.tmp 22) (.seq (.region [(⟨(some 6), none, (.mov (.const (.int .i64 1)))⟩, .none), (⟨(some 7), none, (.mov (.const (.int .u64 0)))⟩, .none)] [[], [0, 0]] false) .ret) (.join ⟨[34], (.cons (.hole .bool) .nil), [], .nil, [0, 8], []⟩
 (.region [(⟨(some 35), none, (.mov (.tmp 2))⟩, .none), (⟨(some 36), none, (.mov (.tmp 0))⟩, .none), (⟨(some 37), none, (.mov (.tmp 8))⟩, .none), (⟨(some 38), none, (.iaddr 4 (.tmp 36) (.tmp 37))⟩, .none), (⟨(some 39), none, (.faddr 1 (.tmp 38))⟩, .none), (⟨(some 40), none, (.load false 1 (.tmp 39))⟩, .none), (⟨(some 41), none, (.bin .eql (.tmp 35) (.tmp 40))⟩, .none), (⟨(some 42), none, (.mov (.tmp 41))⟩, .none), (⟨(some 43), (some (42, true)), (.mov (.tmp 0))⟩, .none), (⟨(some 44), (some (42, true)), (.mov (.tmp 8))⟩, .none), (⟨(some 45), (some (42, true)), (.iaddr 4 (.tmp 43) (.tmp 44))⟩, .none), (⟨(some 46), (some (42, true)), (.faddr 2 (.tmp 45))⟩, .none), (⟨(some 47), (some (42, true)), (.load false 1 (.tmp 46))⟩, .none), (⟨(some 48), none, (.pick (.tmp 42) (.tmp 47) (.const (.bool false)))⟩, .none), (⟨(some 34), none, (.mov (.tmp 48))⟩, .none)] [[], [], [], [1, 2], [3], [4], [0, 5], [6], [7], [7], [8, 9, 7], [10, 7], [11, 7], [7, 12], [13, 7]] false)
 (.cond (.tmp 34) (.seq (.region [(⟨(some 49), none, (.mov (.tmp 0))⟩, .none), (⟨(some 50), none, (.mov (.tmp 8))⟩, .none), (⟨(some 51), none, (.iaddr 4 (.tmp 49) (.tmp 50))⟩, .none), (⟨(some 52), none, (.faddr 3 (.tmp 51))⟩, .none), (⟨(some 53), none, (.load false 1 (.tmp 52))⟩, .none), (⟨(some 6), none, (.mov (.const (.int .i64 2)))⟩, .none), (⟨(some 7), none, (.mov (.tmp 53))⟩, .none)] [[], [], [0, 1], [2], [3], [], [4, 5, 0, 1, 2, 3, 4, 5]] true) .ret) .skip))))) (.seq (.region [(⟨(some 6), none, (.mov (.const (.int .i64 3)))⟩, .none), (⟨(some 7), none, (.mov (.const (.int .u64 0)))⟩, .none)] [[], [0, 0]] false) .ret)))))
set_option maxRecDepth 1000000 in
theorem v18 (fu : Nat) : evF fu (d18 fu) rs18 54 (e18 fu).ash (e18 fu).osh (e18 fu).vsh = p18 fu := by kernel_rfl
set_option maxRecDepth 1000000 in
theorem b18 (fu : Nat) : BodyD Try.prog 18 54 (d18 fu).erase rs18 := bodyD_mk Try.func18 (by kernel_rfl) (by kernel_rfl) (by kernel_rfl) (by kernel_rfl)
theorem g18 (fu : Nat) : (e18 fu).Good Try.prog := good_by orders (b18 fu) (l := [e35 fu]) (by kernel_rfl) ⟨g35 fu, trivial⟩ (by kernel_rfl) (v18 fu)
def rs36 : List RVx := [(.tmp 4)]
/-- gazette/gazetteref15.put -/
def p36 (fu : Nat) : (List (D_api_Producer)) × (((Int) × ((Int) × ((Bool) × ((Int) × (Unit))))) × (Unit)) → Option ((Unit) × (List (D_api_Producer))) := fun ⟨a0, ⟨a1, a2, a3, a4, _⟩, _⟩ =>
  loopO (S := ((List (D_api_Producer)) × ((Bool) × ((Int) × (Unit)))) × (Unit)) fu (fun ⟨⟨v5, v6, v7, _⟩, _⟩ =>
    bif decide (v7 < (List.length a0 : Int)) then
     orK (E := ((List (D_api_Producer)) × ((Bool) × (Unit))) × (Unit))
      (orK (E := ((Bool) × (Unit)) × (Unit))
        (bif decide ((0 : Int) ≤ v7 ∧ v7 < (List.length a0 : Int)) then
          bif decide (Int.toNat v7 < List.length a0) then
           bif decide (((List.getD a0 (Int.toNat v7) (dflt T_api_Producer)).1) ≥ a1) then
            some (.inl ((!v6, ()), ()))
           else
            some (.inl ((false, ()), ()))
          else none
         else none)
        fun ⟨⟨v25, _⟩, _⟩ =>
       bif v25 then
        bif decide (List.length v5 = List.length v5) then
         bif decide (List.length v5 + List.length ([(a1, a2, a3, a4)]) ≤ maxLen ∧ (List.length v5 + List.length ([(a1, a2, a3, a4)])) * 32 ≤ 140737488355328) then
          bif decide (List.length (v5 ++ [(a1, a2, a3, a4)]) = List.length (v5 ++ [(a1, a2, a3, a4)])) then
           some (.inl (((v5 ++ [(a1, a2, a3, a4)]), true, ()), ()))
          else none
         else none
        else none
       else
        bif decide (List.length v5 = List.length v5) then
         some (.inl ((v5, v6, ()), ()))
        else none)
      fun ⟨⟨v5, v6, _⟩, _⟩ =>
     bif decide ((0 : Int) ≤ v7 ∧ v7 < (List.length a0 : Int)) then
      bif decide (Int.toNat v7 < List.length a0) then
       bif (((List.getD a0 (Int.toNat v7) (dflt T_api_Producer)).1) != a1) then
        bif decide ((0 : Int) ≤ v7 ∧ v7 < (List.length a0 : Int)) then
         bif decide (Int.toNat v7 < List.length a0) then
          bif decide (List.length v5 = List.length v5) then
           bif decide (List.length v5 + List.length ([((List.getD a0 (Int.toNat v7) (dflt T_api_Producer)).1, ((List.getD a0 (Int.toNat v7) (dflt T_api_Producer)).2).1, (((List.getD a0 (Int.toNat v7) (dflt T_api_Producer)).2).2).1, (((List.getD a0 (Int.toNat v7) (dflt T_api_Producer)).2).2).2)]) ≤ maxLen ∧ (List.length v5 + List.length ([((List.getD a0 (Int.toNat v7) (dflt T_api_Producer)).1, ((List.getD a0 (Int.toNat v7) (dflt T_api_Producer)).2).1, (((List.getD a0 (Int.toNat v7) (dflt T_api_Producer)).2).2).1, (((List.getD a0 (Int.toNat v7) (dflt T_api_Producer)).2).2).2)])) * 32 ≤ 140737488355328) then
            bif decide (List.length (v5 ++ [((List.getD a0 (Int.toNat v7) (dflt T_api_Producer)).1, ((List.getD a0 (Int.toNat v7) (dflt T_api_Producer)).2).1, (((List.getD a0 (Int.toNat v7) (dflt T_api_Producer)).2).2).1, (((List.getD a0 (Int.toNat v7) (dflt T_api_Producer)).2).2).2)]) = List.length (v5 ++ [((List.getD a0 (Int.toNat v7) (dflt T_api_Producer)).1, ((List.getD a0 (Int.toNat v7) (dflt T_api_Producer)).2).1, (((List.getD a0 (Int.toNat v7) (dflt T_api_Producer)).2).2).1, (((List.getD a0 (Int.toNat v7) (dflt T_api_Producer)).2).2).2)])) then
             some (.inl (((v5 ++ [((List.getD a0 (Int.toNat v7) (dflt T_api_Producer)).1, ((List.getD a0 (Int.toNat v7) (dflt T_api_Producer)).2).1, (((List.getD a0 (Int.toNat v7) (dflt T_api_Producer)).2).2).1, (((List.getD a0 (Int.toNat v7) (dflt T_api_Producer)).2).2).2)]), v6, IntKind.wrap .i64 (v7 + (1 : Int)), ()), ()))
            else none
           else none
          else none
         else none
        else none
       else
        bif decide (List.length v5 = List.length v5) then
         some (.inl ((v5, v6, IntKind.wrap .i64 (v7 + (1 : Int)), ()), ()))
        else none
      else none
     else none
    else
     inrO (bif !v6 then
      bif decide (List.length v5 = List.length v5) then
       bif decide (List.length v5 + List.length ([(a1, a2, a3, a4)]) ≤ maxLen ∧ (List.length v5 + List.length ([(a1, a2, a3, a4)])) * 32 ≤ 140737488355328) then
        bif decide (List.length (v5 ++ [(a1, a2, a3, a4)]) = List.length (v5 ++ [(a1, a2, a3, a4)])) then
         some ((), (v5 ++ [(a1, a2, a3, a4)]))
        else none
       else none
      else none
     else
      bif decide (List.length v5 = List.length v5) then
       some ((), v5)
      else none))
   (([], false, (0 : Int), ()), ())
def e36 (fu : Nat) : Ent := ⟨36, (.cons (.hole (.sl T_api_Producer)) (.cons (.agg 4 (.cons (.hole (.int .u64)) (.cons (.hole (.int .u64)) (.cons (.hole .bool) (.cons (.hole (.int .u64)) .nil))))) .nil)), .nil, (.own 25 T_api_Producer), p36 fu⟩
def d36 (fu : Nat) : DC := (.seq (.region [(⟨(some 3), none, (.box 25 4 (.tmp 1))⟩, .none), (⟨(some 4), none, (.mov (.const (.slice none 0 0)))⟩, .none)] [[], []] false) (.seq (.region [(⟨(some 5), none, (.mov (.const (.slice none 0 0)))⟩, .none)] [[]] false) (.seq (.region [(⟨(some 6), none, (.mov (.const (.bool false)))⟩, .none)] [[]] false) (.seq (.seq (.region [(⟨(some 7), none, (.mov (.const (.int .i64 0)))⟩, .none)] [[]] false) (.block 0 (.loop ⟨[5, 6, 7], (.cons (.own 25 T_api_Producer) (.cons (.hole .bool) (.cons (.hole (.int .i64)) .nil))), [], .nil, [0, 3], [0]⟩
 (.seq (.seq (.region [(⟨(some 8), none, (.mov (.tmp 7))⟩, .none), (⟨(some 9), none, (.mov (.tmp 0))⟩, .none), (⟨(some 10), none, (.len false (.tmp 9))⟩, .none), (⟨(some 11), none, (.bin .lss (.tmp 8) (.tmp 10))⟩, .none)] [[], [], [1], [0, 2]] false) (.cond (.tmp 11) .skip (.exit 0))) (.seq (.block 1 (.join ⟨[5, 6], (.cons (.own 25 T_api_Producer) (.cons (.hole .bool) .nil)), [], .nil, [0, 3, 7], [0]⟩
 (.join ⟨[25], (.cons (.hole .bool) .nil), [], .nil, [0, 3, 5, 6, 7], [0, 80]⟩
 (.region [(⟨(some 14), none, (.mov (.tmp 0))⟩, .none), (⟨(some 15), none, (.mov (.tmp 7))⟩, .none), (⟨(some 16), none, (.iaddr 4 (.tmp 14) (.tmp 15))⟩, .none), (⟨(some 17), none, (.faddr 0 (.tmp 16))⟩, .none), (⟨(some 18), none, (.load false 1 (.tmp 17))⟩, .none), (⟨(some 19), none, (.faddr 0 (.tmp 3))⟩, .none), (⟨(some 20), none, (.load false 1 (.tmp 19))⟩, .none), (⟨(some 21), none, (.bin .geq (.tmp 18) (.tmp 20))⟩, .none), (⟨(some 22), none, (.mov (.tmp 21))⟩, .none), (⟨(some 23), (some (22, true)), (.mov (.tmp 6))⟩, .none), (⟨(some 24), (some (22, true)), (.not (.tmp 23))⟩, .none), (⟨(some 25), none, (.pick (.tmp 22) (.tmp 24) (.const (.bool false)))⟩, .none)] [[], [], [0, 1], [2], [3], [], [5], [4, 6], [7], [8], [9, 8], [8, 10]] true)
 (.cond (.tmp 25) (.seq (.region [(⟨(some 26), none, (.mov (.tmp 5))⟩, .none), (⟨(some 27), none, (.load true 4 (.tmp 3))⟩, .none), (⟨(some 28), none, (.bslice 25 4 1 [(.int .u64 0), (.int .u64 0), (.bool false), (.int .u64 0)] [(0, (.tmp 27))])⟩, (.ty T_api_Producer)), (⟨(some 29), none, (.app 25 4 [(.int .u64 0), (.int .u64 0), (.bool false), (.int .u64 0)] 32 (.tmp 26) (.tmp 28))⟩, (.ty T_api_Producer)), (⟨(some 5), none, (.mov (.tmp 29))⟩, .none)] [[], [], [1], [0, 2], [3, 3, 0, 1, 2, 3]] false) (.region [(⟨(some 6), none, (.mov (.const (.bool true)))⟩, .none)] [[]] false)) .skip))
 (.seq (.region [(⟨(some 30), none, (.mov (.tmp 0))⟩, .none), (⟨(some 31), none, (.mov (.tmp 7))⟩, .none), (⟨(some 32), none, (.iaddr 4 (.tmp 30) (.tmp 31))⟩, .none), (⟨(some 33), none, (.faddr 0 (.tmp 32))⟩, .none), (⟨(some 34), none, (.load false 1 (.tmp 33))⟩, .none), (⟨(some 35), none, (.faddr 0 (.tmp 3))⟩, .none), (⟨(some 36), none, (.load false 1 (.tmp 35))⟩, .none), (⟨(some 37), none, (.bin .neq (.tmp 34) (.tmp 36))⟩, .none)] [[], [], [0, 1], [2], [3], [], [5], [4, 6]] true) (.cond (.tmp 37) (.region [(⟨(some 38), none, (.mov (.tmp 5))⟩, .none), (⟨(some 39), none, (.mov (.tmp 0))⟩, .none), (⟨(some 40), none, (.mov (.tmp 7))⟩, .none), (⟨(some 41), none, (.iaddr 4 (.tmp 39) (.tmp 40))⟩, .none), (⟨(some 42), none, (.load true 4 (.tmp 41))⟩, .none), (⟨(some 43), none, (.bslice 25 4 1 [(.int .u64 0), (.int .u64 0), (.bool false), (.int .u64 0)] [(0, (.tmp 42))])⟩, (.ty T_api_Producer)), (⟨(some 44), none, (.app 25 4 [(.int .u64 0), (.int .u64 0), (.bool false), (.int .u64 0)] 32 (.tmp 38) (.tmp 43))⟩, (.ty T_api_Producer)), (⟨(some 5), none, (.mov (.tmp 44))⟩, .none)] [[], [], [], [1, 2], [3], [4], [0, 5], [6, 6, 0, 1, 2, 3, 4, 5, 6]] false) .skip)))) (.region [(⟨(some 12), none, (.mov (.tmp 7))⟩, .none), (⟨(some 13), none, (.bin .add (.tmp 12) (.const (.int .i64 1)))⟩, .none), (⟨(some 7), none, (.mov (.tmp 13))⟩, .none)] [[], [0], [1, 0, 1]] false)))))) (.seq (.seq (.region [(⟨(some 45), none, (.mov (.tmp 6))⟩, .none), (⟨(some 46), none, (.not (.tmp 45))⟩, .none)] [[], [0]] false) (.cond (.tmp 46) (.region [(⟨(some 47), none, (.mov (.tmp 5))⟩, .none), (⟨(some 48), none, (.load true 4 (.tmp 3))⟩, .none), (⟨(some 49), none, (.bslice 25 4 1 [(.int .u64 0), (.int .u64 0), (.bool false), (.int .u64 0)] [(0, (.tmp 48))])⟩, (.ty T_api_Producer)), (⟨(some 50), none, (.app 25 4 [(.int .u64 0), (.int .u64 0), (.bool false), (.int .u64 0)] 32 (.tmp 47) (.tmp 49))⟩, (.ty T_api_Producer)), (⟨(some 5), none, (.mov (.tmp 50))⟩, .none)] [[], [], [1], [0, 2], [3, 3, 0, 1, 2, 3]] false) .skip)) (.seq (.region [(⟨(some 51), none, (.mov (.tmp 5))⟩, .none), (⟨(some 4), none, (.mov (.tmp 51))⟩, .none)] [[], [0, 0]] false) .ret))))))
set_option maxRecDepth 1000000 in
theorem v36 (fu : Nat) : evF fu (d36 fu) rs36 52 (e36 fu).ash (e36 fu).osh (e36 fu).vsh = p36 fu := by kernel_rfl
set_option maxRecDepth 1000000 in
theorem b36 (fu : Nat) : BodyD Try.prog 36 52 (d36 fu).erase rs36 := bodyD_mk Try.func36 (by kernel_rfl) (by kernel_rfl) (by kernel_rfl) (by kernel_rfl)
theorem g36 (fu : Nat) : (e36 fu).Good Try.prog := good_by orders (b36 fu) (l := []) (by kernel_rfl) trivial (by kernel_rfl) (v36 fu)
def rs19 : List RVx := [(.tmp 8), (.tmp 9)]
/-- gazette/gazetteref15.Accept -/
def p19 (fu : Nat) : (List (D_api_Producer)) × ((Int) × ((Int) × ((Int) × (Unit)))) → Option ((Unit) × ((List (D_api_Producer)) × ((Int) × (Unit)))) := fun ⟨a0, a1, a2, a3, _⟩ =>
  Option.bind (p17 fu (a0, ())) fun ⟨_, r149⟩ =>
  Option.bind (p18 fu (a0, a1, a2, ())) fun ⟨_, ⟨r150, r150_1, _⟩⟩ =>
  orK (E := (Unit) × (Unit))
   (bif !r149 then
     inrO (some ((), ([], (1 : Int), ())))
    else
     bif (r150 == (4 : Int)) then
      inrO (some ((), ([], (151 : Int), ())))
     else
      bif (r150 != (1 : Int)) then
       inrO (some ((), ([], (152 : Int), ())))
      else
       bif decide ((List.length a0 : Int) ≥ (256 : Int)) then
        Option.bind (p35 fu (a0, a1, ())) fun ⟨_, r151⟩ =>
        bif decide (r151 < (0 : Int)) then
         inrO (some ((), ([], (153 : Int), ())))
        else
         some (.inl ((), ()))
       else
        some (.inl ((), ())))
   fun ⟨_, _⟩ =>
  Option.bind (p36 fu (a0, (a1, a2, true, a3, ()), ())) fun ⟨_, r152⟩ =>
  bif decide (List.length r152 = List.length r152) then
   some ((), (r152, (0 : Int), ()))
  else none
def e19 (fu : Nat) : Ent := ⟨19, (.cons (.hole (.sl T_api_Producer)) (.cons (.hole (.int .u64)) (.cons (.hole (.int .u64)) (.cons (.hole (.int .u64)) .nil)))), .nil, (.tup 2 (.cons (.own 25 T_api_Producer) (.cons (.hole (.int .i64)) .nil))), p19 fu⟩
def d19 (fu : Nat) : DC := (.seq (.region [(⟨(some 8), none, (.mov (.const (.slice none 0 0)))⟩, .none), (⟨(some 9), none, (.mov (.const (.int .i64 0)))⟩, .none)] [[], [0]] false) (.seq (.region [(⟨(some 13), none, (.mov (.tmp 0))⟩, .none), (⟨(some 14), none, (.call 17 [(.tmp 13)])⟩, (.ent (e17 fu))), (⟨(some 10), none, (.mov (.tmp 14))⟩, .none)] [[], [0], [1, 1, 0, 1]] false) (.seq (.region [(⟨(some 16), none, (.mov (.tmp 0))⟩, .none), (⟨(some 17), none, (.mov (.tmp 1))⟩, .none), (⟨(some 18), none, (.mov (.tmp 2))⟩, .none), (⟨(some 19), none, (.call 18 [(.tmp 16), (.tmp 17), (.tmp 18)])⟩, (.ent (e18 fu))), (⟨(some 15), none, (.mov (.tmp 19))⟩, .none), (⟨(some 20), none, (.ext (.tmp 15) 0)⟩, .none), (⟨(some 21), none, (.ext (.tmp 15) 1)⟩, .none), (⟨(some 11), none, (.mov (.tmp 20))⟩, .none), (⟨(some 12), none, (.mov (.tmp 21))⟩, .none)] [[], [], [], [0, 1, 2], [3], [4], [4], [5, 3, 0, 1, 2, 3, 4, 5], [6, 7, 0, 1, 2, 3, 4, 5, 6, 7]] false) (.join ⟨[], .nil, [], .nil, [0, 1, 2, 3], []⟩
 (.block 0 (.seq (.region [(⟨(some 23), none, (.mov (.tmp 10))⟩, .none), (⟨(some 24), none, (.not (.tmp 23))⟩, .none), (⟨(some 22), none, (.mov (.tmp 24))⟩, .none)] [[], [0], [1]] false) (.cond (.tmp 22) (.seq (.region [(⟨(some 8), none, (.mov (.const (.slice none 0 0)))⟩, .none), (⟨(some 9), none, (.mov (.const (.int .i64 1)))⟩, .none)] [[], [0, 0]] false) .ret) (.seq (.region [(⟨(some 26), none, (.mov (.tmp 11))⟩, .none), (⟨(some 27), none, (.bin .eql (.tmp 26) (.const (.int .i64 4)))⟩, .none), (⟨(some 25), none, (.mov (.tmp 27))⟩, .none)] [[], [0], [1]] false) (.cond (.tmp 25) (.seq (.region [(⟨(some 8), none, (.mov (.const (.slice none 0 0)))⟩, .none), (⟨(some 9), none, (.mov (.const (.int .i64 151)))⟩, .none)] [[], [0, 0]] false) .ret) (.seq (.region [(⟨(some 29), none, (.mov (.tmp 11))⟩, .none), (⟨(some 30), none, (.bin .neq (.tmp 29) (.const (.int .i64 1)))⟩, .none), (⟨(some 28), none, (.mov (.tmp 30))⟩, .none)] [[], [0], [1]] false) (.cond (.tmp 28) (.seq (.region [(⟨(some 8), none, (.mov (.const (.slice none 0 0)))⟩, .none), (⟨(some 9), none, (.mov (.const (.int .i64 152)))⟩, .none)] [[], [0, 0]] false) .ret) (.seq (.region [(⟨(some 32), none, (.mov (.tmp 0))⟩, .none), (⟨(some 33), none, (.len false (.tmp 32))⟩, .none), (⟨(some 34), none, (.bin .geq (.tmp 33) (.const (.int .i64 256)))⟩, .none), (⟨(some 35), none, (.mov (.tmp 34))⟩, .none), (⟨(some 36), (some (35, true)), (.mov (.tmp 0))⟩, .none), (⟨(some 37), (some (35, true)), (.mov (.tmp 1))⟩, .none), (⟨(some 38), (some (35, true)), (.call 35 [(.tmp 36), (.tmp 37)])⟩, (.ent (e35 fu))), (⟨(some 39), (some (35, true)), (.bin .lss (.tmp 38) (.const (.int .i64 0)))⟩, .none), (⟨(some 40), none, (.pick (.tmp 35) (.tmp 39) (.const (.bool false)))⟩, .none), (⟨(some 31), none, (.mov (.tmp 40))⟩, .none)] [[], [0], [1], [2], [3], [3], [4, 5, 3, 3], [6, 3], [3, 7], [8, 6]] false) (.cond (.tmp 31) (.seq (.region [(⟨(some 8), none, (.mov (.const (.slice none 0 0)))⟩, .none), (⟨(some 9), none, (.mov (.const (.int .i64 153)))⟩, .none)] [[], [0, 0]] false) .ret) .skip)))))))))
 (.seq (.region [(⟨(some 41), none, (.mov (.tmp 0))⟩, .none), (⟨(some 42), none, (.mov (.tmp 1))⟩, .none), (⟨(some 43), none, (.mov (.tmp 2))⟩, .none), (⟨(some 44), none, (.mov (.tmp 3))⟩, .none), (⟨(some 45), none, (.build 4 [(.int .u64 0), (.int .u64 0), (.bool false), (.int .u64 0)] [(0, (1, (.tmp 42))), (1, (1, (.tmp 43))), (2, (1, (.const (.bool true)))), (3, (1, (.tmp 44)))])⟩, .none), (⟨(some 46), none, (.call 36 [(.tmp 41), (.tmp 45)])⟩, (.ent (e36 fu))), (⟨(some 8), none, (.mov (.tmp 46))⟩, .none), (⟨(some 9), none, (.mov (.const (.int .i64 0)))⟩, .none)] [[], [], [], [], [1, 2, 3], [0, 4], [5, 5, 0, 1, 2, 3, 4, 5], [6, 0, 1, 2, 3, 4, 5, 6]] false) .ret)))))
set_option maxRecDepth 1000000 in
theorem v19 (fu : Nat) : evF fu (d19 fu) rs19 47 (e19 fu).ash (e19 fu).osh (e19 fu).vsh = p19 fu := by kernel_rfl
set_option maxRecDepth 1000000 in
theorem b19 (fu : Nat) : BodyD Try.prog 19 47 (d19 fu).erase rs19 := bodyD_mk Try.func19 (by kernel_rfl) (by kernel_rfl) (by kernel_rfl) (by kernel_rfl)
theorem g19 (fu : Nat) : (e19 fu).Good Try.prog := good_by orders (b19 fu) (l := [e17 fu, e18 fu, e35 fu, e36 fu]) (by kernel_rfl) ⟨g17 fu, g18 fu, g35 fu, g36 fu, trivial⟩ (by kernel_rfl) (v19 fu)
def rs20 : List RVx := [(.tmp 6), (.tmp 7)]
/-- gazette/producers.Pass -/
def p20 (fu : Nat) : (List (D_api_Producer)) × ((Int) × ((Int) × (Unit))) → Option ((Unit) × ((List (D_api_Producer)) × ((Int) × (Unit)))) := fun ⟨a0, a1, a2, _⟩ =>
  Option.bind (p27 fu (a0, (a1, a2, false, (0 : Int), ()), ())) fun ⟨_, ⟨r156, r156_1, _⟩⟩ =>
  bif decide (List.length r156 = List.length r156) then
   some ((), (r156, r156_1, ()))
  else none
def e20 (fu : Nat) : Ent := ⟨20, (.cons (.hole (.sl T_api_Producer)) (.cons (.hole (.int .u64)) (.cons (.hole (.int .u64)) .nil))), .nil, (.tup 2 (.cons (.own 25 T_api_Producer) (.cons (.hole (.int .i64)) .nil))), p20 fu⟩
def d20 (fu : Nat) : DC := (.seq (.region [(⟨(some 6), none, (.mov (.const (.slice none 0 0)))⟩, .none), (⟨(some 7), none, (.mov (.const (.int .i64 0)))⟩, .none)] [[], [0]] false) (.seq (.region [(⟨(some 8), none, (.mov (.tmp 0))⟩, .none), (⟨(some 9), none, (.mov (.tmp 1))⟩, .none), (⟨(some 10), none, (.mov (.tmp 2))⟩, .none), (⟨(some 11), none, (.build 4 [(.int .u64 0), (.int .u64 0), (.bool false), (.int .u64 0)] [(0, (1, (.tmp 9))), (1, (1, (.tmp 10)))])⟩, .none), (⟨(some 12), none, (.call 27 [(.tmp 8), (.tmp 11)])⟩, (.ent (e27 fu))), (⟨(some 13), none, (.ext (.tmp 12) 0)⟩, .none), (⟨(some 14), none, (.ext (.tmp 12) 1)⟩, .none), (⟨(some 6), none, (.mov (.tmp 13))⟩, .none), (⟨(some 7), none, (.mov (.tmp 14))⟩, .none)] [[], [], [], [1, 2], [0, 3], [4], [4], [5, 4, 0, 1, 2, 3, 4, 5, 6], [6, 7, 0, 1, 2, 3, 4, 5, 6, 7]] false) .ret))
set_option maxRecDepth 1000000 in
theorem v20 (fu : Nat) : evF fu (d20 fu) rs20 15 (e20 fu).ash (e20 fu).osh (e20 fu).vsh = p20 fu := by kernel_rfl
set_option maxRecDepth 1000000 in
theorem b20 (fu : Nat) : BodyD Try.prog 20 15 (d20 fu).erase rs20 := bodyD_mk Try.func20 (by kernel_rfl) (by kernel_rfl) (by kernel_rfl) (by kernel_rfl)
theorem g20 (fu : Nat) : (e20 fu).Good Try.prog := good_by orders (b20 fu) (l := [e27 fu]) (by kernel_rfl) ⟨g27 fu, trivial⟩ (by kernel_rfl) (v20 fu)
def rs21 : List RVx := [(.tmp 6), (.tmp 7)]
/-- gazette/gazetteref15.Pass -/
def p21 (fu : Nat) : (List (D_api_Producer)) × ((Int) × ((Int) × (Unit))) → Option ((Unit) × ((List (D_api_Producer)) × ((Int) × (Unit)))) := fun ⟨a0, a1, a2, _⟩ =>
  Option.bind (p19 fu (a0, a1, a2, (0 : Int), ())) fun ⟨_, ⟨r160, r160_1, _⟩⟩ =>
  bif (r160_1 != (0 : Int)) then
   some ((), ([], r160_1, ()))
  else
   Option.bind (p36 fu (a0, (a1, a2, false, (0 : Int), ()), ())) fun ⟨_, r161⟩ =>
   bif decide (List.length r161 = List.length r161) then
    some ((), (r161, (0 : Int), ()))
   else none
def e21 (fu : Nat) : Ent := ⟨21, (.cons (.hole (.sl T_api_Producer)) (.cons (.hole (.int .u64)) (.cons (.hole (.int .u64)) .nil))), .nil, (.tup 2 (.cons (.own 25 T_api_Producer) (.cons (.hole (.int .i64)) .nil))), p21 fu⟩
def d21 (fu : Nat) : DC := (.seq (.region [(⟨(some 6), none, (.mov (.const (.slice none 0 0)))⟩, .none), (⟨(some 7), none, (.mov (.const (.int .i64 0)))⟩, .none)] [[], [0]] false) (.seq (.region [(⟨(some 11), none, (.mov (.tmp 0))⟩, .none), (⟨(some 12), none, (.mov (.tmp 1))⟩, .none), (⟨(some 13), none, (.mov (.tmp 2))⟩, .none), (⟨(some 14), none, (.call 19 [(.tmp 11), (.tmp 12), (.tmp 13), (.const (.int .u64 0))])⟩, (.ent (e19 fu))), (⟨(some 10), none, (.mov (.tmp 14))⟩, .none), (⟨(some 15), none, (.ext (.tmp 10) 0)⟩, .none), (⟨(some 16), none, (.ext (.tmp 10) 1)⟩, .none), (⟨(some 8), none, (.mov (.tmp 15))⟩, .none), (⟨(some 9), none, (.mov (.tmp 16))⟩, .none)] [[], [], [], [0, 1, 2], [3], [4], [4], [5, 3, 0, 1, 2, 3, 4, 5], [6, 7, 0, 1, 2, 3, 4, 5, 6, 7]] false) (.seq (.seq (.region [(⟨(some 17), none, (.mov (.tmp 9))⟩, .none), (⟨(some 18), none, (.bin .neq (.tmp 17) (.const (.int .i64 0)))⟩, .none)] [[], [0]] false) (.cond (.tmp 18) (.seq (.region [(⟨(some 19), none, (.mov (.tmp 9))⟩, .none), (⟨(some 6), none, (.mov (.const (.slice none 0 0)))⟩, .none), (⟨(some 7), none, (.mov (.tmp 19))⟩, .none)] [[], [], [0, 1, 0, 1]] false) .ret) .skip)) (.seq (.region [(⟨(some 20), none, (.mov (.tmp 0))⟩, .none), (⟨(some 21), none, (.mov (.tmp 1))⟩, .none), (⟨(some 22), none, (.mov (.tmp 2))⟩, .none), (⟨(some 23), none, (.build 4 [(.int .u64 0), (.int .u64 0), (.bool false), (.int .u64 0)] [(0, (1, (.tmp 21))), (1, (1, (.tmp 22)))])⟩, .none), (⟨(some 24), none, (.call 36 [(.tmp 20), (.tmp 23)])⟩, (.ent (e36 fu))), (⟨(some 6), none, (.mov (.tmp 24))⟩, .none), (⟨(some 7), none, (.mov (.const (.int .i64 0)))⟩, .none)] [[], [], [], [1, 2], [0, 3], [4, 4, 0, 1, 2, 3, 4], [5, 0, 1, 2, 3, 4, 5]] false) .ret))))
set_option maxRecDepth 1000000 in
theorem v21 (fu : Nat) : evF fu (d21 fu) rs21 25 (e21 fu).ash (e21 fu).osh (e21 fu).vsh = p21 fu := by kernel_rfl
set_option maxRecDepth 1000000 in
theorem b21 (fu : Nat) : BodyD Try.prog 21 25 (d21 fu).erase rs21 := bodyD_mk Try.func21 (by kernel_rfl) (by kernel_rfl) (by kernel_rfl) (by kernel_rfl)
theorem g21 (fu : Nat) : (e21 fu).Good Try.prog := good_by orders (b21 fu) (l := [e19 fu, e36 fu]) (by kernel_rfl) ⟨g19 fu, g36 fu, trivial⟩ (by kernel_rfl) (v21 fu)
def rs4 : List RVx := [(.tmp 4)]
/-- gazette/gazettelaw15.ProducersTables -/
def p4 (fu : Nat) : (List (D_api_Producer)) × ((List (D_gazettelaw15_Number)) × (Unit)) → Option ((Unit) × (Bool)) := fun ⟨a0, a1, _⟩ =>
  Option.bind (p9 fu ()) fun ⟨_, r174⟩ =>
  bif decide (0 = List.length ([] : List (D_api_Producer))) then
   bif decide (List.length ([] : List (D_api_Producer)) + List.length a0 ≤ maxLen ∧ (List.length ([] : List (D_api_Producer)) + List.length a0) * 32 ≤ 140737488355328) then
    bif decide (List.length (([] : List (D_api_Producer)) ++ a0) = List.length (([] : List (D_api_Producer)) ++ a0)) then
     Option.bind (p16 fu ((([] : List (D_api_Producer)) ++ a0), ())) fun ⟨_, r175⟩ =>
     Option.bind (p17 fu (a0, ())) fun ⟨_, r176⟩ =>
     bif !(r175 == r176) then
      some ((), false)
     else
      loopO (S := ((Int) × (Unit)) × (Unit)) fu (fun ⟨⟨v7, _⟩, _⟩ =>
        bif decide (v7 < (List.length a1 : Int)) then
         bif decide ((0 : Int) ≤ v7 ∧ v7 < (List.length a1 : Int)) then
          bif decide (Int.toNat v7 < List.length a1) then
           bif decide ((0 : Int) ≤ v7 ∧ v7 < (List.length a1 : Int)) then
            bif decide (Int.toNat v7 < List.length a1) then
             bif decide (List.length (([] : List (D_api_Producer)) ++ a0) = List.length (([] : List (D_api_Producer)) ++ a0)) then
              Option.bind (p11 fu ((([] : List (D_api_Producer)) ++ a0), (List.getD a1 (Int.toNat v7) (dflt T_gazettelaw15_Number)).1, ((List.getD a1 (Int.toNat v7) (dflt T_gazettelaw15_Number)).2).1, ())) fun ⟨_, ⟨r177, r177_1, _⟩⟩ =>
              bif decide ((0 : Int) ≤ v7 ∧ v7 < (List.length a1 : Int)) then
               bif decide (Int.toNat v7 < List.length a1) then
                bif decide ((0 : Int) ≤ v7 ∧ v7 < (List.length a1 : Int)) then
                 bif decide (Int.toNat v7 < List.length a1) then
                  Option.bind (p18 fu (a0, (List.getD a1 (Int.toNat v7) (dflt T_gazettelaw15_Number)).1, ((List.getD a1 (Int.toNat v7) (dflt T_gazettelaw15_Number)).2).1, ())) fun ⟨_, ⟨r178, r178_1, _⟩⟩ =>
                  bif decide ((0 : Int) ≤ v7 ∧ v7 < (List.length a1 : Int)) then
                   bif decide (Int.toNat v7 < List.length a1) then
                    bif decide ((0 : Int) ≤ v7 ∧ v7 < (List.length a1 : Int)) then
                     bif decide (Int.toNat v7 < List.length a1) then
                      bif decide ((0 : Int) ≤ v7 ∧ v7 < (List.length a1 : Int)) then
                       bif decide (Int.toNat v7 < List.length a1) then
                        bif decide (List.length (([] : List (D_api_Producer)) ++ a0) = List.length (([] : List (D_api_Producer)) ++ a0)) then
                         Option.bind (p12 fu ((([] : List (D_api_Producer)) ++ a0), (List.getD a1 (Int.toNat v7) (dflt T_gazettelaw15_Number)).1, ((List.getD a1 (Int.toNat v7) (dflt T_gazettelaw15_Number)).2).1, ((List.getD a1 (Int.toNat v7) (dflt T_gazettelaw15_Number)).2).2, ())) fun ⟨_, ⟨r179, r179_1, _⟩⟩ =>
                         bif decide ((0 : Int) ≤ v7 ∧ v7 < (List.length a1 : Int)) then
                          bif decide (Int.toNat v7 < List.length a1) then
                           bif decide ((0 : Int) ≤ v7 ∧ v7 < (List.length a1 : Int)) then
                            bif decide (Int.toNat v7 < List.length a1) then
                             bif decide ((0 : Int) ≤ v7 ∧ v7 < (List.length a1 : Int)) then
                              bif decide (Int.toNat v7 < List.length a1) then
                               Option.bind (p19 fu (a0, (List.getD a1 (Int.toNat v7) (dflt T_gazettelaw15_Number)).1, ((List.getD a1 (Int.toNat v7) (dflt T_gazettelaw15_Number)).2).1, ((List.getD a1 (Int.toNat v7) (dflt T_gazettelaw15_Number)).2).2, ())) fun ⟨_, ⟨r180, r180_1, _⟩⟩ =>
                               bif decide (List.length r179 = List.length r179) then
                                bif decide (List.length r180 = List.length r180) then
                                 Option.bind (p15 fu (r179, r180, ())) fun ⟨_, r181⟩ =>
                                 bif decide (List.length r179 = List.length r179) then
                                  loopO (S := ((List (D_api_Producer)) × ((Int) × (Unit))) × (Unit)) fu (fun ⟨⟨v12, v17, _⟩, _⟩ =>
                                    bif decide (v17 < ((List.length v12) : Int)) then
                                     bif decide ((0 : Int) ≤ v17 ∧ v17 < (List.length v12 : Int)) then
                                      bif decide (Int.toNat v17 < List.length v12) then
                                       bif decide ((0 : Int) ≤ v17 ∧ v17 < (List.length v12 : Int)) then
                                        bif decide (Int.toNat v17 < List.length v12) then
                                         bif decide (List.length v12 = List.length (List.set v12 (Int.toNat v17) ((List.getD v12 (Int.toNat v17) (dflt T_api_Producer)).1, (IntKind.wrap .u64 ((((List.getD v12 (Int.toNat v17) (dflt T_api_Producer)).2).1) + (1 : Int)), ((List.getD v12 (Int.toNat v17) (dflt T_api_Producer)).2).2)))) then
                                          some (.inl (((List.set v12 (Int.toNat v17) ((List.getD v12 (Int.toNat v17) (dflt T_api_Producer)).1, (IntKind.wrap .u64 ((((List.getD v12 (Int.toNat v17) (dflt T_api_Producer)).2).1) + (1 : Int)), ((List.getD v12 (Int.toNat v17) (dflt T_api_Producer)).2).2))), IntKind.wrap .i64 (v17 + (1 : Int)), ()), ()))
                                         else none
                                        else none
                                       else none
                                      else none
                                     else none
                                    else
                                     inrO (bif decide ((0 : Int) ≤ v7 ∧ v7 < (List.length a1 : Int)) then
                                      bif decide (Int.toNat v7 < List.length a1) then
                                       bif decide ((0 : Int) ≤ v7 ∧ v7 < (List.length a1 : Int)) then
                                        bif decide (Int.toNat v7 < List.length a1) then
                                         bif decide (List.length (([] : List (D_api_Producer)) ++ a0) = List.length (([] : List (D_api_Producer)) ++ a0)) then
                                          Option.bind (p20 fu ((([] : List (D_api_Producer)) ++ a0), (List.getD a1 (Int.toNat v7) (dflt T_gazettelaw15_Number)).1, ((List.getD a1 (Int.toNat v7) (dflt T_gazettelaw15_Number)).2).1, ())) fun ⟨_, ⟨r182, r182_1, _⟩⟩ =>
                                          bif decide ((0 : Int) ≤ v7 ∧ v7 < (List.length a1 : Int)) then
                                           bif decide (Int.toNat v7 < List.length a1) then
                                            bif decide ((0 : Int) ≤ v7 ∧ v7 < (List.length a1 : Int)) then
                                             bif decide (Int.toNat v7 < List.length a1) then
                                              Option.bind (p21 fu (a0, (List.getD a1 (Int.toNat v7) (dflt T_gazettelaw15_Number)).1, ((List.getD a1 (Int.toNat v7) (dflt T_gazettelaw15_Number)).2).1, ())) fun ⟨_, ⟨r183, r183_1, _⟩⟩ =>
                                              bif decide (List.length r182 = List.length r182) then
                                               bif decide (List.length r183 = List.length r183) then
                                                Option.bind (p15 fu (r182, r183, ())) fun ⟨_, r184⟩ =>
                                                bif !r184 then
                                                 inrO (some ((), false))
                                                else
                                                 bif (r182_1 != r183_1) then
                                                  inrO (some ((), false))
                                                 else
                                                  bif decide (List.length (([] : List (D_api_Producer)) ++ a0) = List.length (([] : List (D_api_Producer)) ++ a0)) then
                                                   Option.bind (p15 fu ((([] : List (D_api_Producer)) ++ a0), a0, ())) fun ⟨_, r185⟩ =>
                                                   bif !r181 then
                                                    inrO (some ((), false))
                                                   else
                                                    bif !r185 then
                                                     inrO (some ((), false))
                                                    else
                                                     bif (r177 != r178) then
                                                      inrO (some ((), false))
                                                     else
                                                      bif (r177_1 != r178_1) then
                                                       inrO (some ((), false))
                                                      else
                                                       bif (r179_1 != r180_1) then
                                                        inrO (some ((), false))
                                                       else
                                                        some (.inl ((IntKind.wrap .i64 (v7 + (1 : Int)), ()), ()))
                                                  else none
                                               else none
                                              else none
                                             else none
                                            else none
                                           else none
                                          else none
                                         else none
                                        else none
                                       else none
                                      else none
                                     else none))
                                   ((r179, (0 : Int), ()), ())
                                 else none
                                else none
                               else none
                              else none
                             else none
                            else none
                           else none
                          else none
                         else none
                        else none
                       else none
                      else none
                     else none
                    else none
                   else none
                  else none
                 else none
                else none
               else none
              else none
             else none
            else none
           else none
          else none
         else none
        else
         inrO (some ((), r174)))
       (((0 : Int), ()), ())
    else none
   else none
  else none
def e4 (fu : Nat) : Ent := ⟨4, (.cons (.hole (.sl T_api_Producer)) (.cons (.hole (.sl T_gazettelaw15_Number)) .nil)), .nil, (.hole .bool), p4 fu⟩
def d4 (fu : Nat) : DC := (.seq (.region [(⟨(some 4), none, (.mov (.const (.bool false)))⟩, .none)] [[]] false) (.seq (.region [(⟨(some 24), none, (.call 9 [])⟩, (.ent (e9 fu))), (⟨(some 5), none, (.mov (.tmp 24))⟩, .none)] [[], [0, 0, 0]] false) (.seq (.region [(⟨(some 25), none, (.bslice 25 4 0 [(.int .u64 0), (.int .u64 0), (.bool false), (.int .u64 0)] [])⟩, (.ty T_api_Producer)), (⟨(some 26), none, (.mov (.tmp 0))⟩, .none), (⟨(some 27), none, (.app 25 4 [(.int .u64 0), (.int .u64 0), (.bool false), (.int .u64 0)] 32 (.tmp 25) (.tmp 26))⟩, (.ty T_api_Producer)), (⟨(some 6), none, (.mov (.tmp 27))⟩, .none)] [[], [], [0, 1], [2, 2, 0, 1, 2]] false) (.seq (.seq (.region [(⟨(some 28), none, (.mov (.tmp 6))⟩, .none), (⟨(some 29), none, (.call 16 [(.tmp 28)])⟩, (.ent (e16 fu))), (⟨(some 30), none, (.mov (.tmp 0))⟩, .none), (⟨(some 31), none, (.call 17 [(.tmp 30)])⟩, (.ent (e17 fu))), (⟨(some 32), none, (.beq true (.tmp 29) (.tmp 31))⟩, .none)] [[], [0], [], [2, 1], [1, 3]] false) (.cond (.tmp 32) (.seq (.region [(⟨(some 4), none, (.mov (.const (.bool false)))⟩, .none)] [[]] false) .ret) .skip)) (.seq (.seq (.region [(⟨(some 7), none, (.mov (.const (.int .i64 0)))⟩, .none)] [[]] false) (.block 0 (.loop ⟨[7], (.cons (.hole (.int .i64)) .nil), [], .nil, [0, 1, 5, 6], [48]⟩
 (.seq (.seq (.region [(⟨(some 33), none, (.mov (.tmp 7))⟩, .none), (⟨(some 34), none, (.mov (.tmp 1))⟩, .none), (⟨(some 35), none, (.len false (.tmp 34))⟩, .none), (⟨(some 36), none, (.bin .lss (.tmp 33) (.tmp 35))⟩, .none)] [[], [], [1], [0, 2]] false) (.cond (.tmp 36) .skip (.exit 0))) (.seq (.block 1 (.seq (.region [(⟨(some 40), none, (.mov (.tmp 6))⟩, .none), (⟨(some 41), none, (.mov (.tmp 1))⟩, .none), (⟨(some 42), none, (.mov (.tmp 7))⟩, .none), (⟨(some 43), none, (.iaddr 3 (.tmp 41) (.tmp 42))⟩, .none), (⟨(some 44), none, (.faddr 0 (.tmp 43))⟩, .none), (⟨(some 45), none, (.load false 1 (.tmp 44))⟩, .none), (⟨(some 46), none, (.mov (.tmp 1))⟩, .none), (⟨(some 47), none, (.mov (.tmp 7))⟩, .none), (⟨(some 48), none, (.iaddr 3 (.tmp 46) (.tmp 47))⟩, .none), (⟨(some 49), none, (.faddr 1 (.tmp 48))⟩, .none), (⟨(some 50), none, (.load false 1 (.tmp 49))⟩, .none), (⟨(some 51), none, (.call 11 [(.tmp 40), (.tmp 45), (.tmp 50)])⟩, (.ent (e11 fu))), (⟨(some 39), none, (.mov (.tmp 51))⟩, .none), (⟨(some 52), none, (.ext (.tmp 39) 0)⟩, .none), (⟨(some 53), none, (.ext (.tmp 39) 1)⟩, .none), (⟨(some 8), none, (.mov (.tmp 52))⟩, .none), (⟨(some 9), none, (.mov (.tmp 53))⟩, .none)] [[], [], [], [1, 2], [3], [4], [], [], [6, 7], [8], [9], [0, 5, 10], [11], [12], [12], [13, 11, 0, 1, 2, 3, 4, 5, 6, 7, 8, 9, 10, 11, 12, 13], [14, 15, 0, 1, 2, 3, 4, 5, 6, 7, 8, 9, 10, 11, 12, 13, 14, 15]] true) (.seq (.region [(⟨(some 55), none, (.mov (.tmp 0))⟩, .none), (⟨(some 56), none, (.mov (.tmp 1))⟩, .none), (⟨(some 57), none, (.mov (.tmp 7))⟩, .none), (⟨(some 58), none, (.iaddr 3 (.tmp 56) (.tmp 57))⟩, .none), (⟨(some 59), none, (.faddr 0 (.tmp 58))⟩, .none), (⟨(some 60), none, (.load false 1 (.tmp 59))⟩, .none), (⟨(some 61), none, (.mov (.tmp 1))⟩, .none), (⟨(some 62), none, (.mov (.tmp 7))⟩, .none), (⟨(some 63), none, (.iaddr 3 (.tmp 61) (.tmp 62))⟩, .none), (⟨(some 64), none, (.faddr 1 (.tmp 63))⟩, .none), (⟨(some 65), none, (.load false 1 (.tmp 64))⟩, .none), (⟨(some 66), none, (.call 18 [(.tmp 55), (.tmp 60), (.tmp 65)])⟩, (.ent (e18 fu))), (⟨(some 54), none, (.mov (.tmp 66))⟩, .none), (⟨(some 67), none, (.ext (.tmp 54) 0)⟩, .none), (⟨(some 68), none, (.ext (.tmp 54) 1)⟩, .none), (⟨(some 10), none, (.mov (.tmp 67))⟩, .none), (⟨(some 11), none, (.mov (.tmp 68))⟩, .none)] [[], [], [], [1, 2], [3], [4], [], [], [6, 7], [8], [9], [0, 5, 10], [11], [12], [12], [13, 11, 0, 1, 2, 3, 4, 5, 6, 7, 8, 9, 10, 11, 12, 13], [14, 15, 0, 1, 2, 3, 4, 5, 6, 7, 8, 9, 10, 11, 12, 13, 14, 15]] true) (.seq (.region [(⟨(some 70), none, (.mov (.tmp 6))⟩, .none), (⟨(some 71), none, (.mov (.tmp 1))⟩, .none), (⟨(some 72), none, (.mov (.tmp 7))⟩, .none), (⟨(some 73), none, (.iaddr 3 (.tmp 71) (.tmp 72))⟩, .none), (⟨(some 74), none, (.faddr 0 (.tmp 73))⟩, .none), (⟨(some 75), none, (.load false 1 (.tmp 74))⟩, .none), (⟨(some 76), none, (.mov (.tmp 1))⟩, .none), (⟨(some 77), none, (.mov (.tmp 7))⟩, .none), (⟨(some 78), none, (.iaddr 3 (.tmp 76) (.tmp 77))⟩, .none), (⟨(some 79), none, (.faddr 1 (.tmp 78))⟩, .none), (⟨(some 80), none, (.load false 1 (.tmp 79))⟩, .none), (⟨(some 81), none, (.mov (.tmp 1))⟩, .none), (⟨(some 82), none, (.mov (.tmp 7))⟩, .none), (⟨(some 83), none, (.iaddr 3 (.tmp 81) (.tmp 82))⟩, .none), (⟨(some 84), none, (.faddr 2 (.tmp 83))⟩, .none), (⟨(some 85), none, (.load false 1 (.tmp 84))⟩, .none), (⟨(some 86), none, (.call 12 [(.tmp 70), (.tmp 75), (.tmp 80), (.tmp 85)])⟩, (.ent (e12 fu))), (⟨(some 69), none, (.mov (.tmp 86))⟩, .none), (⟨(some 87), none, (.ext (.tmp 69) 0)⟩, .none), (⟨(some 88), none, (.ext (.tmp 69) 1)⟩, .none), (⟨(some 12), none, (.mov (.tmp 87))⟩, .none), (⟨(some 13), none, (.mov (.tmp 88))⟩, .none)] [[], [], [], [1, 2], [3], [4], [], [], [6, 7], [8], [9], [], [], [11, 12], [13], [14], [0, 5, 10, 15], [16], [17], [17], [18, 16, 0, 1, 2, 3, 4, 5, 6, 7, 8, 9, 10, 11, 12, 13, 14, 15, 16, 17, 18], [19, 20, 0, 1, 2, 3, 4, 5, 6, 7, 8, 9, 10, 11, 12, 13, 14, 15, 16, 17, 18, 19, 20]] true) (.seq (.region [(⟨(some 90), none, (.mov (.tmp 0))⟩, .none), (⟨(some 91), none, (.mov (.tmp 1))⟩, .none), (⟨(some 92), none, (.mov (.tmp 7))⟩, .none), (⟨(some 93), none, (.iaddr 3 (.tmp 91) (.tmp 92))⟩, .none), (⟨(some 94), none, (.faddr 0 (.tmp 93))⟩, .none), (⟨(some 95), none, (.load false 1 (.tmp 94))⟩, .none), (⟨(some 96), none, (.mov (.tmp 1))⟩, .none), (⟨(some 97), none, (.mov (.tmp 7))⟩, .none), (⟨(some 98), none, (.iaddr 3 (.tmp 96) (.tmp 97))⟩, .none), (⟨(some 99), none, (.faddr 1 (.tmp 98))⟩, .none), (⟨(some 100), none, (.load false 1 (.tmp 99))⟩, .none), (⟨(some 101), none, (.mov (.tmp 1))⟩, .none), (⟨(some 102), none, (.mov (.tmp 7))⟩, .none), (⟨(some 103), none, (.iaddr 3 (.tmp 101) (.tmp 102))⟩, .none), (⟨(some 104), none, (.faddr 2 (.tmp 103))⟩, .none), (⟨(some 105), none, (.load false 1 (.tmp 104))⟩, .none), (⟨(some 106), none, (.call 19 [(.tmp 90), (.tmp 95), (.tmp 100), (.tmp 105)])⟩, (.ent (e19 fu))), (⟨(some 89), none, (.mov (.tmp 106))⟩, .none), (⟨(some 107), none, (.ext (.tmp 89) 0)⟩, .none), (⟨(some 108), none, (.ext (.tmp 89) 1)⟩, .none), (⟨(some 14), none, (.mov (.tmp 107))⟩, .none), (⟨(some 15), none, (.mov (.tmp 108))⟩, .none)] [[], [], [], [1, 2], [3], [4], [], [], [6, 7], [8], [9], [], [], [11, 12], [13], [14], [0, 5, 10, 15], [16], [17], [17], [18, 16, 0, 1, 2, 3, 4, 5, 6, 7, 8, 9, 10, 11, 12, 13, 14, 15, 16, 17, 18], [19, 20, 0, 1, 2, 3, 4, 5, 6, 7, 8, 9, 10, 11, 12, 13, 14, 15, 16, 17, 18, 19, 20]] true) (.seq (.region [(⟨(some 109), none, (.mov (.tmp 12))⟩, .none), (⟨(some 110), none, (.mov (.tmp 14))⟩, .none), (⟨(some 111), none, (.call 15 [(.tmp 109), (.tmp 110)])⟩, (.ent (e15 fu))), (⟨(some 16), none, (.mov (.tmp 111))⟩, .none)] [[], [], [0, 1], [2, 2, 0, 1, 2]] false) (.seq (.seq (.region [(⟨(some 17), none, (.mov (.const (.int .i64 0)))⟩, .none)] [[]] false) (.block 2 (.loop ⟨[12, 17], (.cons (.own 25 T_api_Producer) (.cons (.hole (.int .i64)) .nil)), [], .nil, [0, 1, 5, 6, 7, 8, 9, 10, 11, 13, 15, 16], [48]⟩
 (.seq (.seq (.region [(⟨(some 112), none, (.mov (.tmp 17))⟩, .none), (⟨(some 113), none, (.mov (.tmp 12))⟩, .none), (⟨(some 114), none, (.len false (.tmp 113))⟩, .none), (⟨(some 115), none, (.bin .lss (.tmp 112) (.tmp 114))⟩, .none)] [[], [], [1], [0, 2]] false) (.cond (.tmp 115) .skip (.exit 2))) (.seq (.block 3 (.region [(⟨(some 118), none, (.mov (.tmp 12))⟩, .none), (⟨(some 119), none, (.mov (.tmp 17))⟩, .none), (⟨(some 120), none, (.iaddr 4 (.tmp 118) (.tmp 119))⟩, .none), (⟨(some 121), none, (.faddr 1 (.tmp 120))⟩, .none), (⟨(some 122), none, (.load false 1 (.tmp 121))⟩, .none), (⟨(some 123), none, (.bin .add (.tmp 122) (.const (.int .u64 1)))⟩, .none), (⟨(some 124), none, (.iaddr 4 (.tmp 118) (.tmp 119))⟩, .none), (⟨(some 125), none, (.faddr 1 (.tmp 124))⟩, .none), (⟨none, none, (.store 1 (.tmp 125) (.tmp 123))⟩, .none)] [[], [], [0, 1], [2], [3], [4], [0, 1, 0, 1, 2, 3, 4, 5], [6, 0, 1, 2, 3, 4, 5], [7, 5, 0, 1, 2, 3, 4, 5]] false)) (.region [(⟨(some 116), none, (.mov (.tmp 17))⟩, .none), (⟨(some 117), none, (.bin .add (.tmp 116) (.const (.int .i64 1)))⟩, .none), (⟨(some 17), none, (.mov (.tmp 117))⟩, .none)] [[], [0], [1, 0, 1]] false)))))) (.seq (.region [(⟨(some 127), none, (.mov (.tmp 6))⟩, .none), (⟨(some 128), none, (.mov (.tmp 1))⟩, .none), (⟨(some 129), none, (.mov (.tmp 7))⟩, .none), (⟨(some 130), none, (.iaddr 3 (.tmp 128) (.tmp 129))⟩, .none), (⟨(some 131), none, (.faddr 0 (.tmp 130))⟩, .none), (⟨(some 132), none, (.load false 1 (.tmp 131))⟩, .none), (⟨(some 133), none, (.mov (.tmp 1))⟩, .none), (⟨(some 134), none, (.mov (.tmp 7))⟩, .none), (⟨(some 135), none, (.iaddr 3 (.tmp 133) (.tmp 134))⟩, .none), (⟨(some 136), none, (.faddr 1 (.tmp 135))⟩, .none), (⟨(some 137), none, (.load false 1 (.tmp 136))⟩, .none), (⟨(some 138), none, (.call 20 [(.tmp 127), (.tmp 132), (.tmp 137)])⟩, (.ent (e20 fu))), (⟨(some 126), none, (.mov (.tmp 138))⟩, .none), (⟨(some 139), none, (.ext (.tmp 126) 0)⟩, .none), (⟨(some 140), none, (.ext (.tmp 126) 1)⟩, .none), (⟨(some 18), none, (.mov (.tmp 139))⟩, .none), (⟨(some 19), none, (.mov (.tmp 140))⟩, .none)] [[], [], [], [1, 2], [3], [4], [], [], [6, 7], [8], [9], [0, 5, 10], [11], [12], [12], [13, 11, 0, 1, 2, 3, 4, 5, 6, 7, 8, 9, 10, 11, 12, 13], [14, 15, 0, 1, 2, 3, 4, 5, 6, 7, 8, 9, 10, 11, 12, 13, 14, 15]] true) (.seq (.region [(⟨(some 142), none, (.mov (.tmp 0))⟩, .none), (⟨(some 143), none, (.mov (.tmp 1))⟩, .none), (⟨(some 144), none, (.mov (.tmp 7))⟩, .none), (⟨(some 145), none, (.iaddr 3 (.tmp 143) (.tmp 144))⟩, .none), (⟨(some 146), none, (.faddr 0 (.tmp 145))⟩, .none), (⟨(some 147), none, (.load false 1 (.tmp 146))⟩, .none), (⟨(some 148), none, (.mov (.tmp 1))⟩, .none), (⟨(some 149), none, (.mov (.tmp 7))⟩, .none), (⟨(some 150), none, (.iaddr 3 (.tmp 148) (.tmp 149))⟩, .none), (⟨(some 151), none, (.faddr 1 (.tmp 150))⟩, .none), (⟨(some 152), none, (.load false 1 (.tmp 151))⟩, .none), (⟨(some 153), none, (.call 21 [(.tmp 142), (.tmp 147), (.tmp 152)])⟩, (.ent (e21 fu))), (⟨(some 141), none, (.mov (.tmp 153))⟩, .none), (⟨(some 154), none, (.ext (.tmp 141) 0)⟩, .none), (⟨(some 155), none, (.ext (.tmp 141) 1)⟩, .none), (⟨(some 20), none, (.mov (.tmp 154))⟩, .none), (⟨(some 21), none, (.mov (.tmp 155))⟩, .none)] [[], [], [], [1, 2], [3], [4], [], [], [6, 7], [8], [9], [0, 5, 10], [11], [12], [12], [13, 11, 0, 1, 2, 3, 4, 5, 6, 7, 8, 9, 10, 11, 12, 13], [14, 15, 0, 1, 2, 3, 4, 5, 6, 7, 8, 9, 10, 11, 12, 13, 14, 15]] true) (.seq (.region [(⟨(some 156), none, (.mov (.tmp 18))⟩, .none), (⟨(some 157), none, (.mov (.tmp 20))⟩, .none), (⟨(some 158), none, (.call 15 [(.tmp 156), (.tmp 157)])⟩, (.ent (e15 fu))), (⟨(some 22), none, (.mov (.tmp 158))⟩, .none)] [[], [], [0, 1], [2, 2, 0, 1, 2]] false) (.seq (.seq (.region [(⟨(some 159), none, (.mov (.tmp 22))⟩, .none), (⟨(some 160), none, (.not (.tmp 159))⟩, .none), (⟨(some 161), none, (.mov (.tmp 160))⟩, .none), (⟨(some 162), (some (161, false)), (.mov (.tmp 19))⟩, .none), (⟨(some 163), (some (161, false)), (.mov (.tmp 21))⟩, .none), (⟨(some 164), (some (161, false)), (.bin .neq (.tmp 162) (.tmp 163))⟩, .none), (⟨(some 165), none, (.pick (.tmp 161) (.const (.bool true)) (.tmp 164))⟩, .none)] [[], [0], [1], [2], [2], [3, 4, 2], [2, 5]] false) (.cond (.tmp 165) (.seq (.region [(⟨(some 4), none, (.mov (.const (.bool false)))⟩, .none)] [[]] false) .ret) .skip)) (.seq (.region [(⟨(some 166), none, (.mov (.tmp 6))⟩, .none), (⟨(some 167), none, (.mov (.tmp 0))⟩, .none), (⟨(some 168), none, (.call 15 [(.tmp 166), (.tmp 167)])⟩, (.ent (e15 fu))), (⟨(some 23), none, (.mov (.tmp 168))⟩, .none)] [[], [], [0, 1], [2, 2, 0, 1, 2]] false) (.seq (.region [(⟨(some 169), none, (.mov (.tmp 16))⟩, .none), (⟨(some 170), none, (.not (.tmp 169))⟩, .none), (⟨(some 171), none, (.mov (.tmp 170))⟩, .none), (⟨(some 172), (some (171, false)), (.mov (.tmp 23))⟩, .none), (⟨(some 173), (some (171, false)), (.not (.tmp 172))⟩, .none), (⟨(some 174), none, (.pick (.tmp 171) (.const (.bool true)) (.tmp 173))⟩, .none), (⟨(some 175), none, (.mov (.tmp 174))⟩, .none), (⟨(some 176), (some (175, false)), (.mov (.tmp 8))⟩, .none), (⟨(some 177), (some (175, false)), (.mov (.tmp 10))⟩, .none), (⟨(some 178), (some (175, false)), (.bin .neq (.tmp 176) (.tmp 177))⟩, .none), (⟨(some 179), none, (.pick (.tmp 175) (.const (.bool true)) (.tmp 178))⟩, .none), (⟨(some 180), none, (.mov (.tmp 179))⟩, .none), (⟨(some 181), (some (180, false)), (.mov (.tmp 9))⟩, .none), (⟨(some 182), (some (180, false)), (.mov (.tmp 11))⟩, .none), (⟨(some 183), (some (180, false)), (.bin .neq (.tmp 181) (.tmp 182))⟩, .none), (⟨(some 184), none, (.pick (.tmp 180) (.const (.bool true)) (.tmp 183))⟩, .none), (⟨(some 185), none, (.mov (.tmp 184))⟩, .none), (⟨(some 186), (some (185, false)), (.mov (.tmp 13))⟩, .none), (⟨(some 187), (some (185, false)), (.mov (.tmp 15))⟩, .none), (⟨(some 188), (some (185, false)), (.bin .neq (.tmp 186) (.tmp 187))⟩, .none), (⟨(some 189), none, (.pick (.tmp 185) (.const (.bool true)) (.tmp 188))⟩, .none)] [[], [0], [1], [2], [3, 2], [2, 4], [5, 2], [6], [6], [7, 8, 6], [6, 9], [10, 6], [11], [11], [12, 13, 11], [11, 14], [15, 11], [16], [16], [17, 18, 16], [16, 19]] false) (.cond (.tmp 189) (.seq (.region [(⟨(some 4), none, (.mov (.const (.bool false)))⟩, .none)] [[]] false) .ret) .skip)))))))))))))) (.region [(⟨(some 37), none, (.mov (.tmp 7))⟩, .none), (⟨(some 38), none, (.bin .add (.tmp 37) (.const (.int .i64 1)))⟩, .none), (⟨(some 7), none, (.mov (.tmp 38))⟩, .none)] [[], [0], [1, 0, 1]] false)))))) (.seq (.region [(⟨(some 190), none, (.mov (.tmp 5))⟩, .none), (⟨(some 4), none, (.mov (.tmp 190))⟩, .none)] [[], [0, 0]] false) .ret))))))
set_option maxRecDepth 1000000 in
theorem v4 (fu : Nat) : evF fu (d4 fu) rs4 191 (e4 fu).ash (e4 fu).osh (e4 fu).vsh = p4 fu := by kernel_rfl
set_option maxRecDepth 1000000 in
theorem b4 (fu : Nat) : BodyD Try.prog 4 191 (d4 fu).erase rs4 := bodyD_mk Try.func4 (by kernel_rfl) (by kernel_rfl) (by kernel_rfl) (by kernel_rfl)
theorem g4 (fu : Nat) : (e4 fu).Good Try.prog := good_by orders (b4 fu) (l := [e9 fu, e16 fu, e17 fu, e11 fu, e18 fu, e12 fu, e19 fu, e15 fu, e20 fu, e21 fu, e15 fu, e15 fu]) (by kernel_rfl) ⟨g9 fu, g16 fu, g17 fu, g11 fu, g18 fu, g12 fu, g19 fu, g15 fu, g20 fu, g21 fu, g15 fu, g15 fu, trivial⟩ (by kernel_rfl) (v4 fu)
def rs37 : List RVx := [(.cell 4 true 4)]
/-- gazette/gazetteref15.moved -/
def p37 (fu : Nat) : ((Int) × ((Int) × ((Bool) × ((Int) × (Unit))))) × ((List (Int)) × (Unit)) → Option ((Unit) × ((Int) × ((Int) × ((Bool) × ((Int) × (Unit)))))) := fun ⟨⟨a0, a1, a2, a3, _⟩, a4, _⟩ =>
  orK (E := ((Bool) × (Unit)) × (Unit))
   (bif a2 then
     bif decide ((List.length a4 : Int) > (0 : Int)) then
      bif decide (a3 < (IntKind.wrap .u64 (IntKind.wrap .i64 ((List.length a4 : Int) - (1 : Int))))) then
       bif decide ((0 : Int) ≤ IntKind.wrap .i64 ((IntKind.wrap .i64 a3) + (1 : Int)) ∧ IntKind.wrap .i64 ((IntKind.wrap .i64 a3) + (1 : Int)) < (List.length a4 : Int)) then
        bif decide (Int.toNat (IntKind.wrap .i64 ((IntKind.wrap .i64 a3) + (1 : Int))) < List.length a4) then
         bif decide ((0 : Int) ≤ IntKind.wrap .i64 a3 ∧ IntKind.wrap .i64 a3 < (List.length a4 : Int)) then
          bif decide (Int.toNat (IntKind.wrap .i64 a3) < List.length a4) then
           some (.inl ((decide ((List.getD a4 (Int.toNat (IntKind.wrap .i64 ((IntKind.wrap .i64 a3) + (1 : Int)))) (dflt (.int .u64))) > (List.getD a4 (Int.toNat (IntKind.wrap .i64 a3)) (dflt (.int .u64)))), ()), ()))
          else none
         else none
        else none
       else none
      else
       some (.inl ((false, ()), ()))
     else
      some (.inl ((false, ()), ()))
    else
     some (.inl ((false, ()), ())))
   fun ⟨⟨v42, _⟩, _⟩ =>
  bif v42 then
   bif decide ((0 : Int) ≤ IntKind.wrap .i64 a3 ∧ IntKind.wrap .i64 a3 < (List.length a4 : Int)) then
    bif decide (Int.toNat (IntKind.wrap .i64 a3) < List.length a4) then
     some ((), (a0, a1, true, (List.getD a4 (Int.toNat (IntKind.wrap .i64 a3)) (dflt (.int .u64))), ()))
    else none
   else none
  else
   some ((), (a0, a1, false, (0 : Int), ()))
def e37 (fu : Nat) : Ent := ⟨37, (.cons (.agg 4 (.cons (.hole (.int .u64)) (.cons (.hole (.int .u64)) (.cons (.hole .bool) (.cons (.hole (.int .u64)) .nil))))) (.cons (.hole (.sl (.int .u64))) .nil)), .nil, (.agg 4 (.cons (.hole (.int .u64)) (.cons (.hole (.int .u64)) (.cons (.hole .bool) (.cons (.hole (.int .u64)) .nil))))), p37 fu⟩
def d37 (fu : Nat) : DC := (.seq (.region [(⟨(some 2), none, (.box 25 4 (.tmp 0))⟩, .none), (⟨(some 4), none, (.alloc 25 4 [(.int .u64 0), (.int .u64 0), (.bool false), (.int .u64 0)])⟩, .none)] [[], []] false) (.seq (.region [(⟨(some 6), none, (.faddr 0 (.tmp 2))⟩, .none), (⟨(some 7), none, (.load false 1 (.tmp 6))⟩, .none), (⟨(some 8), none, (.faddr 1 (.tmp 2))⟩, .none), (⟨(some 9), none, (.load false 1 (.tmp 8))⟩, .none), (⟨(some 10), none, (.build 4 [(.int .u64 0), (.int .u64 0), (.bool false), (.int .u64 0)] [(0, (1, (.tmp 7))), (1, (1, (.tmp 9)))])⟩, .none), (⟨(some 5), none, (.alloc 25 4 [(.int .u64 0), (.int .u64 0), (.bool false), (.int .u64 0)])⟩, .none), (⟨none, none, (.store 4 (.tmp 5) (.tmp 10))⟩, .none)] [[], [0], [], [2], [1, 3], [], [5, 4, 0, 1, 2, 3, 4, 5]] false) (.seq (.join ⟨[42], (.cons (.hole .bool) .nil), [], .nil, [1, 2, 4, 5], [0, 16, 112]⟩
 (.region [(⟨(some 11), none, (.faddr 2 (.tmp 2))⟩, .none), (⟨(some 12), none, (.load false 1 (.tmp 11))⟩, .none), (⟨(some 13), none, (.mov (.tmp 12))⟩, .none), (⟨(some 14), (some (13, true)), (.mov (.tmp 1))⟩, .none), (⟨(some 15), (some (13, true)), (.len false (.tmp 14))⟩, .none), (⟨(some 16), (some (13, true)), (.bin .gtr (.tmp 15) (.const (.int .i64 0)))⟩, .none), (⟨(some 17), none, (.pick (.tmp 13) (.tmp 16) (.const (.bool false)))⟩, .none), (⟨(some 18), none, (.mov (.tmp 17))⟩, .none), (⟨(some 19), (some (18, true)), (.faddr 3 (.tmp 2))⟩, .none), (⟨(some 20), (some (18, true)), (.load false 1 (.tmp 19))⟩, .none), (⟨(some 21), (some (18, true)), (.mov (.tmp 1))⟩, .none), (⟨(some 22), (some (18, true)), (.len false (.tmp 21))⟩, .none), (⟨(some 23), (some (18, true)), (.bin .sub (.tmp 22) (.const (.int .i64 1)))⟩, .none), (⟨(some 24), (some (18, true)), (.conv .u64 (.tmp 23))⟩, .none), (⟨(some 25), (some (18, true)), (.bin .lss (.tmp 20) (.tmp 24))⟩, .none), (⟨(some 26), none, (.pick (.tmp 18) (.tmp 25) (.const (.bool false)))⟩, .none), (⟨(some 27), none, (.mov (.tmp 26))⟩, .none), (⟨(some 28), (some (27, true)), (.mov (.tmp 1))⟩, .none), (⟨(some 29), (some (27, true)), (.faddr 3 (.tmp 2))⟩, .none), (⟨(some 30), (some (27, true)), (.load false 1 (.tmp 29))⟩, .none), (⟨(some 31), (some (27, true)), (.conv .i64 (.tmp 30))⟩, .none), (⟨(some 32), (some (27, true)), (.bin .add (.tmp 31) (.const (.int .i64 1)))⟩, .none), (⟨(some 33), (some (27, true)), (.iaddr 1 (.tmp 28) (.tmp 32))⟩, .none), (⟨(some 34), (some (27, true)), (.load false 1 (.tmp 33))⟩, .none), (⟨(some 35), (some (27, true)), (.mov (.tmp 1))⟩, .none), (⟨(some 36), (some (27, true)), (.faddr 3 (.tmp 2))⟩, .none), (⟨(some 37), (some (27, true)), (.load false 1 (.tmp 36))⟩, .none), (⟨(some 38), (some (27, true)), (.conv .i64 (.tmp 37))⟩, .none), (⟨(some 39), (some (27, true)), (.iaddr 1 (.tmp 35) (.tmp 38))⟩, .none), (⟨(some 40), (some (27, true)), (.load false 1 (.tmp 39))⟩, .none), (⟨(some 41), (some (27, true)), (.bin .gtr (.tmp 34) (.tmp 40))⟩, .none), (⟨(some 42), none, (.pick (.tmp 27) (.tmp 41) (.const (.bool false)))⟩, .none)] [[], [0], [1], [2], [3, 2], [4, 2], [2, 5], [6, 2], [7], [8, 7], [7], [10, 7], [11, 7], [12, 7], [9, 13, 7], [7, 14], [15, 7], [16], [16], [18, 16], [19, 16], [20, 16], [17, 21, 16], [22, 16], [16], [16], [25, 16], [26, 16], [24, 27, 16], [28, 16], [23, 29, 16], [16, 30]] true)
 (.cond (.tmp 42) (.seq (.region [(⟨(some 43), none, (.faddr 2 (.tmp 5))⟩, .none), (⟨none, none, (.store 1 (.tmp 43) (.const (.bool true)))⟩, .none)] [[], [0]] false) (.region [(⟨(some 44), none, (.mov (.tmp 1))⟩, .none), (⟨(some 45), none, (.faddr 3 (.tmp 2))⟩, .none), (⟨(some 46), none, (.load false 1 (.tmp 45))⟩, .none), (⟨(some 47), none, (.conv .i64 (.tmp 46))⟩, .none), (⟨(some 48), none, (.iaddr 1 (.tmp 44) (.tmp 47))⟩, .none), (⟨(some 49), none, (.load false 1 (.tmp 48))⟩, .none), (⟨(some 50), none, (.faddr 3 (.tmp 5))⟩, .none), (⟨none, none, (.store 1 (.tmp 50) (.tmp 49))⟩, .none)] [[], [], [1], [2], [0, 3], [4], [0, 1, 2, 3, 4, 5], [6, 5, 0, 1, 2, 3, 4, 5]] false)) .skip)) (.seq (.region [(⟨(some 51), none, (.load true 4 (.tmp 5))⟩, .none), (⟨none, none, (.store 4 (.tmp 4) (.tmp 51))⟩, .none)] [[], [0, 0]] false) .ret))))
set_option maxRecDepth 1000000 in
theorem v37 (fu : Nat) : evF fu (d37 fu) rs37 52 (e37 fu).ash (e37 fu).osh (e37 fu).vsh = p37 fu := by kernel_rfl
set_option maxRecDepth 1000000 in
theorem b37 (fu : Nat) : BodyD Try.prog 37 52 (d37 fu).erase rs37 := bodyD_mk Try.func37 (by kernel_rfl) (by kernel_rfl) (by kernel_rfl) (by kernel_rfl)
theorem g37 (fu : Nat) : (e37 fu).Good Try.prog := good_by orders (b37 fu) (l := []) (by kernel_rfl) trivial (by kernel_rfl) (v37 fu)
def rs23 : List RVx := [(.tmp 4)]
/-- gazette/gazetteref15.Move -/
def p23 (fu : Nat) : (List (D_api_Producer)) × ((List (Int)) × (Unit)) → Option ((Unit) × (List (D_api_Producer))) := fun ⟨a0, a1, _⟩ =>
  loopO (S := ((List (D_api_Producer)) × ((Int) × (Unit))) × (Unit)) fu (fun ⟨⟨v5, v6, _⟩, _⟩ =>
    bif decide (v6 < (List.length a0 : Int)) then
     bif decide ((0 : Int) ≤ v6 ∧ v6 < (List.length a0 : Int)) then
      bif decide (Int.toNat v6 < List.length a0) then
       Option.bind (p37 fu (((List.getD a0 (Int.toNat v6) (dflt T_api_Producer)).1, ((List.getD a0 (Int.toNat v6) (dflt T_api_Producer)).2).1, (((List.getD a0 (Int.toNat v6) (dflt T_api_Producer)).2).2).1, (((List.getD a0 (Int.toNat v6) (dflt T_api_Producer)).2).2).2, ()), a1, ())) fun ⟨_, ⟨r194, r194_1, r194_2, r194_3, _⟩⟩ =>
       bif decide (List.length v5 = List.length v5) then
        bif decide (List.length v5 + List.length ([(r194, r194_1, r194_2, r194_3)]) ≤ maxLen ∧ (List.length v5 + List.length ([(r194, r194_1, r194_2, r194_3)])) * 32 ≤ 140737488355328) then
         bif decide (List.length (v5 ++ [(r194, r194_1, r194_2, r194_3)]) = List.length (v5 ++ [(r194, r194_1, r194_2, r194_3)])) then
          some (.inl (((v5 ++ [(r194, r194_1, r194_2, r194_3)]), IntKind.wrap .i64 (v6 + (1 : Int)), ()), ()))
         else none
        else none
       else none
      else none
     else none
    else
     inrO (bif decide (List.length v5 = List.length v5) then
      some ((), v5)
     else none))
   (([], (0 : Int), ()), ())
def e23 (fu : Nat) : Ent := ⟨23, (.cons (.hole (.sl T_api_Producer)) (.cons (.hole (.sl (.int .u64))) .nil)), .nil, (.own 25 T_api_Producer), p23 fu⟩
def d23 (fu : Nat) : DC := (.seq (.region [(⟨(some 4), none, (.mov (.const (.slice none 0 0)))⟩, .none)] [[]] false) (.seq (.region [(⟨(some 5), none, (.mov (.const (.slice none 0 0)))⟩, .none)] [[]] false) (.seq (.seq (.region [(⟨(some 6), none, (.mov (.const (.int .i64 0)))⟩, .none)] [[]] false) (.block 0 (.loop ⟨[5, 6], (.cons (.own 25 T_api_Producer) (.cons (.hole (.int .i64)) .nil)), [], .nil, [0, 1], []⟩
 (.seq (.seq (.region [(⟨(some 7), none, (.mov (.tmp 6))⟩, .none), (⟨(some 8), none, (.mov (.tmp 0))⟩, .none), (⟨(some 9), none, (.len false (.tmp 8))⟩, .none), (⟨(some 10), none, (.bin .lss (.tmp 7) (.tmp 9))⟩, .none)] [[], [], [1], [0, 2]] false) (.cond (.tmp 10) .skip (.exit 0))) (.seq (.block 1 (.region [(⟨(some 13), none, (.mov (.tmp 5))⟩, .none), (⟨(some 14), none, (.mov (.tmp 0))⟩, .none), (⟨(some 15), none, (.mov (.tmp 6))⟩, .none), (⟨(some 16), none, (.iaddr 4 (.tmp 14) (.tmp 15))⟩, .none), (⟨(some 17), none, (.load true 4 (.tmp 16))⟩, .none), (⟨(some 18), none, (.mov (.tmp 1))⟩, .none), (⟨(some 19), none, (.call 37 [(.tmp 17), (.tmp 18)])⟩, (.ent (e37 fu))), (⟨(some 20), none, (.bslice 25 4 1 [(.int .u64 0), (.int .u64 0), (.bool false), (.int .u64 0)] [(0, (.tmp 19))])⟩, (.ty T_api_Producer)), (⟨(some 21), none, (.app 25 4 [(.int .u64 0), (.int .u64 0), (.bool false), (.int .u64 0)] 32 (.tmp 13) (.tmp 20))⟩, (.ty T_api_Producer)), (⟨(some 5), none, (.mov (.tmp 21))⟩, .none)] [[], [], [], [1, 2], [3], [], [4, 5], [6], [0, 7, 6], [8, 8, 0, 1, 2, 3, 4, 5, 6, 7, 8]] false)) (.region [(⟨(some 11), none, (.mov (.tmp 6))⟩, .none), (⟨(some 12), none, (.bin .add (.tmp 11) (.const (.int .i64 1)))⟩, .none), (⟨(some 6), none, (.mov (.tmp 12))⟩, .none)] [[], [0], [1, 0, 1]] false)))))) (.seq (.region [(⟨(some 22), none, (.mov (.tmp 5))⟩, .none), (⟨(some 4), none, (.mov (.tmp 22))⟩, .none)] [[], [0, 0]] false) .ret))))
set_option maxRecDepth 1000000 in
theorem v23 (fu : Nat) : evF fu (d23 fu) rs23 23 (e23 fu).ash (e23 fu).osh (e23 fu).vsh = p23 fu := by kernel_rfl
set_option maxRecDepth 1000000 in
theorem b23 (fu : Nat) : BodyD Try.prog 23 23 (d23 fu).erase rs23 := bodyD_mk Try.func23 (by kernel_rfl) (by kernel_rfl) (by kernel_rfl) (by kernel_rfl)
theorem g23 (fu : Nat) : (e23 fu).Good Try.prog := good_by orders (b23 fu) (l := [e37 fu]) (by kernel_rfl) ⟨g37 fu, trivial⟩ (by kernel_rfl) (v23 fu)
def rs22 : List RVx := [(.tmp 8), (.tmp 9)]
/-- gazette/gazetteref15.Both -/
def p22 (fu : Nat) : (List (D_api_Producer)) × ((List (D_api_Producer)) × ((List (Int)) × ((List (Int)) × (Unit)))) → Option ((Unit) × ((List (D_api_Producer)) × ((Int) × (Unit)))) := fun ⟨a0, a1, a2, a3, _⟩ =>
  Option.bind (p17 fu (a0, ())) fun ⟨_, r201⟩ =>
  Option.bind (p17 fu (a1, ())) fun ⟨_, r202⟩ =>
  bif !r201 then
   some ((), ([], (1 : Int), ()))
  else
   bif !r202 then
    some ((), ([], (1 : Int), ()))
   else
    Option.bind (p23 fu (a0, a2, ())) fun ⟨_, r203⟩ =>
    Option.bind (p23 fu (a1, a3, ())) fun ⟨_, r204⟩ =>
    bif decide (List.length r203 = List.length r203) then
     loopO (S := ((List (D_api_Producer)) × ((Int) × (Unit))) × (Unit)) fu (fun ⟨⟨v12, v14, _⟩, _⟩ =>
       bif decide (v14 < ((List.length r204) : Int)) then
        bif decide ((0 : Int) ≤ v14 ∧ v14 < (List.length r204 : Int)) then
         bif decide (Int.toNat v14 < List.length r204) then
          bif decide (List.length v12 = List.length v12) then
           Option.bind (p35 fu (v12, (List.getD r204 (Int.toNat v14) (dflt T_api_Producer)).1, ())) fun ⟨_, r205⟩ =>
           orK (E := ((Bool) × (Unit)) × (Unit))
            (bif decide (r205 < (0 : Int)) then
              some (.inl ((true, ()), ()))
             else
              bif decide ((0 : Int) ≤ v14 ∧ v14 < (List.length r204 : Int)) then
               bif decide (Int.toNat v14 < List.length r204) then
                bif decide ((0 : Int) ≤ r205 ∧ r205 < (List.length v12 : Int)) then
                 bif decide (Int.toNat r205 < List.length v12) then
                  bif decide ((((List.getD r204 (Int.toNat v14) (dflt T_api_Producer)).2).1) > (((List.getD v12 (Int.toNat r205) (dflt T_api_Producer)).2).1)) then
                   some (.inl ((true, ()), ()))
                  else
                   bif decide ((0 : Int) ≤ v14 ∧ v14 < (List.length r204 : Int)) then
                    bif decide (Int.toNat v14 < List.length r204) then
                     bif decide ((0 : Int) ≤ r205 ∧ r205 < (List.length v12 : Int)) then
                      bif decide (Int.toNat r205 < List.length v12) then
                       bif ((((List.getD r204 (Int.toNat v14) (dflt T_api_Producer)).2).1) == (((List.getD v12 (Int.toNat r205) (dflt T_api_Producer)).2).1)) then
                        bif decide ((0 : Int) ≤ v14 ∧ v14 < (List.length r204 : Int)) then
                         bif decide (Int.toNat v14 < List.length r204) then
                          bif (((List.getD r204 (Int.toNat v14) (dflt T_api_Producer)).2).2).1 then
                           bif decide ((0 : Int) ≤ r205 ∧ r205 < (List.length v12 : Int)) then
                            bif decide (Int.toNat r205 < List.length v12) then
                             some (.inl ((!((((List.getD v12 (Int.toNat r205) (dflt T_api_Producer)).2).2).1), ()), ()))
                            else none
                           else none
                          else
                           some (.inl ((false, ()), ()))
                         else none
                        else none
                       else
                        some (.inl ((false, ()), ()))
                      else none
                     else none
                    else none
                   else none
                 else none
                else none
               else none
              else none)
            fun ⟨⟨v87, _⟩, _⟩ =>
           bif v87 then
            bif decide ((0 : Int) ≤ v14 ∧ v14 < (List.length r204 : Int)) then
             bif decide (Int.toNat v14 < List.length r204) then
              bif decide (List.length v12 = List.length v12) then
               Option.bind (p36 fu (v12, ((List.getD r204 (Int.toNat v14) (dflt T_api_Producer)).1, ((List.getD r204 (Int.toNat v14) (dflt T_api_Producer)).2).1, (((List.getD r204 (Int.toNat v14) (dflt T_api_Producer)).2).2).1, (((List.getD r204 (Int.toNat v14) (dflt T_api_Producer)).2).2).2, ()), ())) fun ⟨_, r206⟩ =>
               bif decide (List.length r206 = List.length r206) then
                some (.inl ((r206, IntKind.wrap .i64 (v14 + (1 : Int)), ()), ()))
               else none
              else none
             else none
            else none
           else
            bif decide (List.length v12 = List.length v12) then
             some (.inl ((v12, IntKind.wrap .i64 (v14 + (1 : Int)), ()), ()))
            else none
          else none
         else none
        else none
       else
        inrO (bif decide (((List.length v12) : Int) > (256 : Int)) then
         some ((), ([], (153 : Int), ()))
        else
         bif decide (List.length v12 = List.length v12) then
          some ((), (v12, (0 : Int), ()))
         else none))
      ((r203, (0 : Int), ()), ())
    else none
def e22 (fu : Nat) : Ent := ⟨22, (.cons (.hole (.sl T_api_Producer)) (.cons (.hole (.sl T_api_Producer)) (.cons (.hole (.sl (.int .u64))) (.cons (.hole (.sl (.int .u64))) .nil)))), .nil, (.tup 2 (.cons (.own 25 T_api_Producer) (.cons (.hole (.int .i64)) .nil))), p22 fu⟩
def d22 (fu : Nat) : DC := (.seq (.region [(⟨(some 8), none, (.mov (.const (.slice none 0 0)))⟩, .none), (⟨(some 9), none, (.mov (.const (.int .i64 0)))⟩, .none)] [[], [0]] false) (.seq (.region [(⟨(some 16), none, (.mov (.tmp 0))⟩, .none), (⟨(some 17), none, (.call 17 [(.tmp 16)])⟩, (.ent (e17 fu))), (⟨(some 10), none, (.mov (.tmp 17))⟩, .none)] [[], [0], [1, 1, 0, 1]] false) (.seq (.region [(⟨(some 18), none, (.mov (.tmp 1))⟩, .none), (⟨(some 19), none, (.call 17 [(.tmp 18)])⟩, (.ent (e17 fu))), (⟨(some 11), none, (.mov (.tmp 19))⟩, .none)] [[], [0], [1, 1, 0, 1]] false) (.seq (.seq (.region [(⟨(some 20), none, (.mov (.tmp 10))⟩, .none), (⟨(some 21), none, (.not (.tmp 20))⟩, .none), (⟨(some 22), none, (.mov (.tmp 21))⟩, .none), (⟨(some 23), (some (22, false)), (.mov (.tmp 11))⟩, .none), (⟨(some 24), (some (22, false)), (.not (.tmp 23))⟩, .none), (⟨(some 25), none, (.pick (.tmp 22) (.const (.bool true)) (.tmp 24))⟩, .none)] [[], [0], [1], [2], [3, 2], [2, 4]] false) (.cond (.tmp 25) (.seq (.region [(⟨(some 8), none, (.mov (.const (.slice none 0 0)))⟩, .none), (⟨(some 9), none, (.mov (.const (.int .i64 1)))⟩, .none)] [[], [0, 0]] false) .ret) .skip)) (.seq (.region [(⟨(some 26), none, (.mov (.tmp 0))⟩, .none), (⟨(some 27), none, (.mov (.tmp 2))⟩, .none), (⟨(some 28), none, (.call 23 [(.tmp 26), (.tmp 27)])⟩, (.ent (e23 fu))), (⟨(some 12), none, (.mov (.tmp 28))⟩, .none)] [[], [], [0, 1], [2, 2, 0, 1, 2]] false) (.seq (.region [(⟨(some 29), none, (.mov (.tmp 1))⟩, .none), (⟨(some 30), none, (.mov (.tmp 3))⟩, .none), (⟨(some 31), none, (.call 23 [(.tmp 29), (.tmp 30)])⟩, (.ent (e23 fu))), (⟨(some 13), none, (.mov (.tmp 31))⟩, .none)] [[], [], [0, 1], [2, 2, 0, 1, 2]] false) (.seq (.seq (.region [(⟨(some 14), none, (.mov (.const (.int .i64 0)))⟩, .none)] [[]] false) (.block 0 (.loop ⟨[12, 14], (.cons (.own 25 T_api_Producer) (.cons (.hole (.int .i64)) .nil)), [], .nil, [13], [320]⟩
 (.seq (.seq (.region [(⟨(some 32), none, (.mov (.tmp 14))⟩, .none), (⟨(some 33), none, (.mov (.tmp 13))⟩, .none), (⟨(some 34), none, (.len false (.tmp 33))⟩, .none), (⟨(some 35), none, (.bin .lss (.tmp 32) (.tmp 34))⟩, .none)] [[], [], [1], [0, 2]] false) (.cond (.tmp 35) .skip (.exit 0))) (.seq (.block 1 (.seq (.region [(⟨(some 38), none, (.mov (.tmp 12))⟩, .none), (⟨(some 39), none, (.mov (.tmp 13))⟩, .none), (⟨(some 40), none, (.mov (.tmp 14))⟩, .none), (⟨(some 41), none, (.iaddr 4 (.tmp 39) (.tmp 40))⟩, .none), (⟨(some 42), none, (.faddr 0 (.tmp 41))⟩, .none), (⟨(some 43), none, (.load false 1 (.tmp 42))⟩, .none), (⟨(some 44), none, (.call 35 [(.tmp 38), (.tmp 43)])⟩, (.ent (e35 fu))), (⟨(some 15), none, (.mov (.tmp 44))⟩, .none)] [[], [], [], [1, 2], [3], [4], [0, 5], [6, 6, 0, 1, 2, 3, 4, 5, 6]] false) (.join ⟨[87], (.cons (.hole .bool) .nil), [], .nil, [12, 13, 14], [320, 368]⟩
 (.region [(⟨(some 45), none, (.mov (.tmp 15))⟩, .none), (⟨(some 46), none, (.bin .lss (.tmp 45) (.const (.int .i64 0)))⟩, .none), (⟨(some 47), none, (.mov (.tmp 46))⟩, .none), (⟨(some 48), (some (47, false)), (.mov (.tmp 13))⟩, .none), (⟨(some 49), (some (47, false)), (.mov (.tmp 14))⟩, .none), (⟨(some 50), (some (47, false)), (.iaddr 4 (.tmp 48) (.tmp 49))⟩, .none), (⟨(some 51), (some (47, false)), (.faddr 1 (.tmp 50))⟩, .none), (⟨(some 52), (some (47, false)), (.load false 1 (.tmp 51))⟩, .none), (⟨(some 53), (some (47, false)), (.mov (.tmp 12))⟩, .none), (⟨(some 54), (some (47, false)), (.mov (.tmp 15))⟩, .none), (⟨(some 55), (some (47, false)), (.iaddr 4 (.tmp 53) (.tmp 54))⟩, .none), (⟨(some 56), (some (47, false)), (.faddr 1 (.tmp 55))⟩, .none), (⟨(some 57), (some (47, false)), (.load false 1 (.tmp 56))⟩, .none), (⟨(some 58), (some (47, false)), (.bin .gtr (.tmp 52) (.tmp 57))⟩, .none), (⟨(some 59), none, (.pick (.tmp 47) (.const (.bool true)) (.tmp 58))⟩, .none), (⟨(some 60), none, (.mov (.tmp 59))⟩, .none), (⟨(some 61), (some (60, false)), (.mov (.tmp 13))⟩, .none), (⟨(some 62), (some (60, false)), (.mov (.tmp 14))⟩, .none), (⟨(some 63), (some (60, false)), (.iaddr 4 (.tmp 61) (.tmp 62))⟩, .none), (⟨(some 64), (some (60, false)), (.faddr 1 (.tmp 63))⟩, .none), (⟨(some 65), (some (60, false)), (.load false 1 (.tmp 64))⟩, .none), (⟨(some 66), (some (60, false)), (.mov (.tmp 12))⟩, .none), (⟨(some 67), (some (60, false)), (.mov (.tmp 15))⟩, .none), (⟨(some 68), (some (60, false)), (.iaddr 4 (.tmp 66) (.tmp 67))⟩, .none), (⟨(some 69), (some (60, false)), (.faddr 1 (.tmp 68))⟩, .none), (⟨(some 70), (some (60, false)), (.load false 1 (.tmp 69))⟩, .none), (⟨(some 71), (some (60, false)), (.bin .eql (.tmp 65) (.tmp 70))⟩, .none), (⟨(some 72), (some (60, false)), (.mov (.tmp 71))⟩, .none), (⟨(some 73), (some (72, true)), (.mov (.tmp 13))⟩, .none), (⟨(some 74), (some (72, true)), (.mov (.tmp 14))⟩, .none), (⟨(some 75), (some (72, true)), (.iaddr 4 (.tmp 73) (.tmp 74))⟩, .none), (⟨(some 76), (some (72, true)), (.faddr 2 (.tmp 75))⟩, .none), (⟨(some 77), (some (72, true)), (.load false 1 (.tmp 76))⟩, .none), (⟨(some 78), (some (60, false)), (.pick (.tmp 72) (.tmp 77) (.const (.bool false)))⟩, .none), (⟨(some 79), (some (60, false)), (.mov (.tmp 78))⟩, .none), (⟨(some 80), (some (79, true)), (.mov (.tmp 12))⟩, .none), (⟨(some 81), (some (79, true)), (.mov (.tmp 15))⟩, .none), (⟨(some 82), (some (79, true)), (.iaddr 4 (.tmp 80) (.tmp 81))⟩, .none), (⟨(some 83), (some (79, true)), (.faddr 2 (.tmp 82))⟩, .none), (⟨(some 84), (some (79, true)), (.load false 1 (.tmp 83))⟩, .none), (⟨(some 85), (some (79, true)), (.not (.tmp 84))⟩, .none), (⟨(some 86), (some (60, false)), (.pick (.tmp 79) (.tmp 85) (.const (.bool false)))⟩, .none), (⟨(some 87), none, (.pick (.tmp 60) (.const (.bool true)) (.tmp 86))⟩, .none)] [[], [0], [1], [2], [2], [3, 4, 2], [5, 2], [6, 2], [2], [2], [8, 9, 2], [10, 2], [11, 2], [7, 12, 2], [2, 13], [14, 2], [15], [15], [16, 17, 15], [18, 15], [19, 15], [15], [15], [21, 22, 15], [23, 15], [24, 15], [20, 25, 15], [26, 15, 15], [27], [27], [28, 29, 27], [30, 27], [31, 27], [27, 32, 15], [33, 27, 15], [34], [34], [35, 36, 34], [37, 34], [38, 34], [39, 34], [34, 40, 15], [15, 41]] true)
 (.cond (.tmp 87) (.region [(⟨(some 88), none, (.mov (.tmp 12))⟩, .none), (⟨(some 89), none, (.mov (.tmp 13))⟩, .none), (⟨(some 90), none, (.mov (.tmp 14))⟩, .none), (⟨(some 91), none, (.iaddr 4 (.tmp 89) (.tmp 90))⟩, .none), (⟨(some 92), none, (.load true 4 (.tmp 91))⟩, .none), (⟨(some 93), none, (.call 36 [(.tmp 88), (.tmp 92)])⟩, (.ent (e36 fu))), (⟨(some 12), none, (.mov (.tmp 93))⟩, .none)] [[], [], [], [1, 2], [3], [0, 4], [5, 5, 0, 1, 2, 3, 4, 5]] false) .skip)))) (.region [(⟨(some 36), none, (.mov (.tmp 14))⟩, .none), (⟨(some 37), none, (.bin .add (.tmp 36) (.const (.int .i64 1)))⟩, .none), (⟨(some 14), none, (.mov (.tmp 37))⟩, .none)] [[], [0], [1, 0, 1]] false)))))) (.seq (.seq (.region [(⟨(some 94), none, (.mov (.tmp 12))⟩, .none), (⟨(some 95), none, (.len false (.tmp 94))⟩, .none), (⟨(some 96), none, (.bin .gtr (.tmp 95) (.const (.int .i64 256)))⟩, .none)] [[], [0], [1]] false) (.cond (.tmp 96) (.seq (.region [(⟨(some 8), none, (.mov (.const (.slice none 0 0)))⟩, .none), (⟨(some 9), none, (.mov (.const (.int .i64 153)))⟩, .none)] [[], [0, 0]] false) .ret) .skip)) (.seq (.region [(⟨(some 97), none, (.mov (.tmp 12))⟩, .none), (⟨(some 8), none, (.mov (.tmp 97))⟩, .none), (⟨(some 9), none, (.mov (.const (.int .i64 0)))⟩, .none)] [[], [0, 0], [1, 0, 1]] false) .ret)))))))))
set_option maxRecDepth 1000000 in
theorem v22 (fu : Nat) : evF fu (d22 fu) rs22 98 (e22 fu).ash (e22 fu).osh (e22 fu).vsh = p22 fu := by kernel_rfl
set_option maxRecDepth 1000000 in
theorem b22 (fu : Nat) : BodyD Try.prog 22 98 (d22 fu).erase rs22 := bodyD_mk Try.func22 (by kernel_rfl) (by kernel_rfl) (by kernel_rfl) (by kernel_rfl)
theorem g22 (fu : Nat) : (e22 fu).Good Try.prog := good_by orders (b22 fu) (l := [e17 fu, e17 fu, e23 fu, e23 fu, e35 fu, e36 fu]) (by kernel_rfl) ⟨g17 fu, g17 fu, g23 fu, g23 fu, g35 fu, g36 fu, trivial⟩ (by kernel_rfl) (v22 fu)
def rs5 : List RVx := [(.tmp 2)]
/-- gazette/gazettelaw15.ProducersMoves -/
def p5 (fu : Nat) : ((List (D_api_Producer)) × ((List (D_api_Producer)) × ((List (Int)) × ((List (Int)) × (Unit))))) × (Unit) → Option ((Unit) × (Bool)) := fun ⟨⟨a0, a1, a2, a3, _⟩, _⟩ =>
  Option.bind (p9 fu ()) fun ⟨_, r211⟩ =>
  Option.bind (p13 fu (a0, a2, ())) fun ⟨_, r212⟩ =>
  Option.bind (p14 fu (a0, a1, a2, a3, ())) fun ⟨_, ⟨r213, r213_1, _⟩⟩ =>
  Option.bind (p22 fu (a0, a1, a2, a3, ())) fun ⟨_, ⟨r214, r214_1, _⟩⟩ =>
  Option.bind (p23 fu (a0, a2, ())) fun ⟨_, r215⟩ =>
  bif decide (List.length r212 = List.length r212) then
   bif decide (List.length r215 = List.length r215) then
    Option.bind (p15 fu (r212, r215, ())) fun ⟨_, r216⟩ =>
    bif decide (List.length r213 = List.length r213) then
     bif decide (List.length r214 = List.length r214) then
      Option.bind (p15 fu (r213, r214, ())) fun ⟨_, r217⟩ =>
      bif r211 then
       bif r216 then
        bif r217 then
         some ((), (r213_1 == r214_1))
        else
         some ((), false)
       else
        some ((), false)
      else
       some ((), false)
     else none
    else none
   else none
  else none
def e5 (fu : Nat) : Ent := ⟨5, (.cons (.agg 4 (.cons (.hole (.sl T_api_Producer)) (.cons (.hole (.sl T_api_Producer)) (.cons (.hole (.sl (.int .u64))) (.cons (.hole (.sl (.int .u64))) .nil))))) .nil), .nil, (.hole .bool), p5 fu⟩
def d5 (fu : Nat) : DC := (.seq (.region [(⟨(some 1), none, (.box 45 4 (.tmp 0))⟩, .none), (⟨(some 2), none, (.mov (.const (.bool false)))⟩, .none)] [[], []] false) (.seq (.region [(⟨(some 11), none, (.call 9 [])⟩, (.ent (e9 fu))), (⟨(some 3), none, (.mov (.tmp 11))⟩, .none)] [[], [0, 0, 0]] false) (.seq (.region [(⟨(some 12), none, (.faddr 0 (.tmp 1))⟩, .none), (⟨(some 13), none, (.load false 1 (.tmp 12))⟩, .none), (⟨(some 14), none, (.faddr 2 (.tmp 1))⟩, .none), (⟨(some 15), none, (.load false 1 (.tmp 14))⟩, .none), (⟨(some 16), none, (.call 13 [(.tmp 13), (.tmp 15)])⟩, (.ent (e13 fu))), (⟨(some 4), none, (.mov (.tmp 16))⟩, .none)] [[], [0], [], [2], [1, 3], [4, 4, 0, 1, 2, 3, 4]] false) (.seq (.region [(⟨(some 18), none, (.faddr 0 (.tmp 1))⟩, .none), (⟨(some 19), none, (.load false 1 (.tmp 18))⟩, .none), (⟨(some 20), none, (.faddr 1 (.tmp 1))⟩, .none), (⟨(some 21), none, (.load false 1 (.tmp 20))⟩, .none), (⟨(some 22), none, (.faddr 2 (.tmp 1))⟩, .none), (⟨(some 23), none, (.load false 1 (.tmp 22))⟩, .none), (⟨(some 24), none, (.faddr 3 (.tmp 1))⟩, .none), (⟨(some 25), none, (.load false 1 (.tmp 24))⟩, .none), (⟨(some 26), none, (.call 14 [(.tmp 19), (.tmp 21), (.tmp 23), (.tmp 25)])⟩, (.ent (e14 fu))), (⟨(some 17), none, (.mov (.tmp 26))⟩, .none), (⟨(some 27), none, (.ext (.tmp 17) 0)⟩, .none), (⟨(some 28), none, (.ext (.tmp 17) 1)⟩, .none), (⟨(some 5), none, (.mov (.tmp 27))⟩, .none), (⟨(some 6), none, (.mov (.tmp 28))⟩, .none)] [[], [0], [], [2], [], [4], [], [6], [1, 3, 5, 7], [8], [9], [9], [10, 8, 0, 1, 2, 3, 4, 5, 6, 7, 8, 9, 10], [11, 12, 0, 1, 2, 3, 4, 5, 6, 7, 8, 9, 10, 11, 12]] false) (.seq (.region [(⟨(some 30), none, (.faddr 0 (.tmp 1))⟩, .none), (⟨(some 31), none, (.load false 1 (.tmp 30))⟩, .none), (⟨(some 32), none, (.faddr 1 (.tmp 1))⟩, .none), (⟨(some 33), none, (.load false 1 (.tmp 32))⟩, .none), (⟨(some 34), none, (.faddr 2 (.tmp 1))⟩, .none), (⟨(some 35), none, (.load false 1 (.tmp 34))⟩, .none), (⟨(some 36), none, (.faddr 3 (.tmp 1))⟩, .none), (⟨(some 37), none, (.load false 1 (.tmp 36))⟩, .none), (⟨(some 38), none, (.call 22 [(.tmp 31), (.tmp 33), (.tmp 35), (.tmp 37)])⟩, (.ent (e22 fu))), (⟨(some 29), none, (.mov (.tmp 38))⟩, .none), (⟨(some 39), none, (.ext (.tmp 29) 0)⟩, .none), (⟨(some 40), none, (.ext (.tmp 29) 1)⟩, .none), (⟨(some 7), none, (.mov (.tmp 39))⟩, .none), (⟨(some 8), none, (.mov (.tmp 40))⟩, .none)] [[], [0], [], [2], [], [4], [], [6], [1, 3, 5, 7], [8], [9], [9], [10, 8, 0, 1, 2, 3, 4, 5, 6, 7, 8, 9, 10], [11, 12, 0, 1, 2, 3, 4, 5, 6, 7, 8, 9, 10, 11, 12]] false) (.seq (.region [(⟨(some 41), none, (.mov (.tmp 4))⟩, .none), (⟨(some 42), none, (.faddr 0 (.tmp 1))⟩, .none), (⟨(some 43), none, (.load false 1 (.tmp 42))⟩, .none), (⟨(some 44), none, (.faddr 2 (.tmp 1))⟩, .none), (⟨(some 45), none, (.load false 1 (.tmp 44))⟩, .none), (⟨(some 46), none, (.call 23 [(.tmp 43), (.tmp 45)])⟩, (.ent (e23 fu))), (⟨(some 47), none, (.call 15 [(.tmp 41), (.tmp 46)])⟩, (.ent (e15 fu))), (⟨(some 9), none, (.mov (.tmp 47))⟩, .none)] [[], [], [1], [], [3], [2, 4], [0, 5, 5], [6, 6, 0, 1, 2, 3, 4, 5, 6]] false) (.seq (.region [(⟨(some 48), none, (.mov (.tmp 5))⟩, .none), (⟨(some 49), none, (.mov (.tmp 7))⟩, .none), (⟨(some 50), none, (.call 15 [(.tmp 48), (.tmp 49)])⟩, (.ent (e15 fu))), (⟨(some 10), none, (.mov (.tmp 50))⟩, .none)] [[], [], [0, 1], [2, 2, 0, 1, 2]] false) (.seq (.region [(⟨(some 51), none, (.mov (.tmp 3))⟩, .none), (⟨(some 52), none, (.mov (.tmp 51))⟩, .none), (⟨(some 53), (some (52, true)), (.mov (.tmp 9))⟩, .none), (⟨(some 54), none, (.pick (.tmp 52) (.tmp 53) (.const (.bool false)))⟩, .none), (⟨(some 55), none, (.mov (.tmp 54))⟩, .none), (⟨(some 56), (some (55, true)), (.mov (.tmp 10))⟩, .none), (⟨(some 57), none, (.pick (.tmp 55) (.tmp 56) (.const (.bool false)))⟩, .none), (⟨(some 58), none, (.mov (.tmp 57))⟩, .none), (⟨(some 59), (some (58, true)), (.mov (.tmp 6))⟩, .none), (⟨(some 60), (some (58, true)), (.mov (.tmp 8))⟩, .none), (⟨(some 61), (some (58, true)), (.bin .eql (.tmp 59) (.tmp 60))⟩, .none), (⟨(some 62), none, (.pick (.tmp 58) (.tmp 61) (.const (.bool false)))⟩, .none), (⟨(some 2), none, (.mov (.tmp 62))⟩, .none)] [[], [0], [1], [1, 2], [3, 1], [4], [4, 5], [6, 4], [7], [7], [8, 9, 7], [7, 10], [11, 7, 0, 1, 2, 3, 4, 5, 6, 7, 8, 9, 10, 11]] false) .ret))))))))
set_option maxRecDepth 1000000 in
theorem v5 (fu : Nat) : evF fu (d5 fu) rs5 63 (e5 fu).ash (e5 fu).osh (e5 fu).vsh = p5 fu := by kernel_rfl
set_option maxRecDepth 1000000 in
theorem b5 (fu : Nat) : BodyD Try.prog 5 63 (d5 fu).erase rs5 := bodyD_mk Try.func5 (by kernel_rfl) (by kernel_rfl) (by kernel_rfl) (by kernel_rfl)
theorem g5 (fu : Nat) : (e5 fu).Good Try.prog := good_by orders (b5 fu) (l := [e9 fu, e13 fu, e14 fu, e22 fu, e23 fu, e15 fu, e15 fu]) (by kernel_rfl) ⟨g9 fu, g13 fu, g14 fu, g22 fu, g23 fu, g15 fu, g15 fu, trivial⟩ (by kernel_rfl) (v5 fu)
def rs6 : List RVx := [(.tmp 2)]
/-- gazette/gazettelaw15.ProducersOnce -/
def p6 (fu : Nat) : (List (D_gazettelaw15_Number)) × (Unit) → Option ((Unit) × (Bool)) := fun ⟨a0, _⟩ =>
  Option.bind (p9 fu ()) fun ⟨_, r230⟩ =>
  loopO (S := ((List (D_api_Producer)) × ((List (D_gazettelaw15_Number)) × ((Int) × (Unit)))) × (Unit)) fu (fun ⟨⟨v4, v5, v6, _⟩, _⟩ =>
    bif decide (v6 < (List.length a0 : Int)) then
     bif decide ((0 : Int) ≤ v6 ∧ v6 < (List.length a0 : Int)) then
      bif decide (Int.toNat v6 < List.length a0) then
       bif decide ((0 : Int) ≤ v6 ∧ v6 < (List.length a0 : Int)) then
        bif decide (Int.toNat v6 < List.length a0) then
         bif decide (List.length v4 = List.length v4) then
          Option.bind (p11 fu (v4, (List.getD a0 (Int.toNat v6) (dflt T_gazettelaw15_Number)).1, ((List.getD a0 (Int.toNat v6) (dflt T_gazettelaw15_Number)).2).1, ())) fun ⟨_, ⟨r231, r231_1, _⟩⟩ =>
          bif decide ((0 : Int) ≤ v6 ∧ v6 < (List.length a0 : Int)) then
           bif decide (Int.toNat v6 < List.length a0) then
            bif decide ((0 : Int) ≤ v6 ∧ v6 < (List.length a0 : Int)) then
             bif decide (Int.toNat v6 < List.length a0) then
              bif decide ((0 : Int) ≤ v6 ∧ v6 < (List.length a0 : Int)) then
               bif decide (Int.toNat v6 < List.length a0) then
                bif decide (List.length v4 = List.length v4) then
                 Option.bind (p12 fu (v4, (List.getD a0 (Int.toNat v6) (dflt T_gazettelaw15_Number)).1, ((List.getD a0 (Int.toNat v6) (dflt T_gazettelaw15_Number)).2).1, ((List.getD a0 (Int.toNat v6) (dflt T_gazettelaw15_Number)).2).2, ())) fun ⟨_, ⟨r232, r232_1, _⟩⟩ =>
                 loopO (S := ((Bool) × ((Int) × (Unit))) × (((Int) × ((Int) × ((Int) × (Unit)))) × (Unit))) fu (fun ⟨⟨v11, v13, _⟩, ⟨⟨v1818, v1818_1, v1818_2, _⟩, _⟩⟩ =>
                   bif decide (v13 < ((List.length v5) : Int)) then
                    bif decide ((0 : Int) ≤ v13 ∧ v13 < (List.length v5 : Int)) then
                     bif decide (Int.toNat v13 < List.length v5) then
                      bif decide ((0 : Int) ≤ v6 ∧ v6 < (List.length a0 : Int)) then
                       bif decide (Int.toNat v6 < List.length a0) then
                        bif (((List.getD v5 (Int.toNat v13) (dflt T_gazettelaw15_Number)).1) == ((List.getD a0 (Int.toNat v6) (dflt T_gazettelaw15_Number)).1)) then
                         orK (E := ((Bool) × (Unit)) × (Unit))
                          (bif v11 then
                            bif decide ((0 : Int) ≤ v6 ∧ v6 < (List.length a0 : Int)) then
                             bif decide (Int.toNat v6 < List.length a0) then
                              bif decide ((0 : Int) ≤ v13 ∧ v13 < (List.length v5 : Int)) then
                               bif decide (Int.toNat v13 < List.length v5) then
                                some (.inl ((decide ((((List.getD a0 (Int.toNat v6) (dflt T_gazettelaw15_Number)).2).1) > (((List.getD v5 (Int.toNat v13) (dflt T_gazettelaw15_Number)).2).1)), ()), ()))
                               else none
                              else none
                             else none
                            else none
                           else
                            some (.inl ((false, ()), ())))
                          fun ⟨⟨v11, _⟩, _⟩ =>
                         bif decide ((0 : Int) ≤ v13 ∧ v13 < (List.length v5 : Int)) then
                          bif decide (Int.toNat v13 < List.length v5) then
                           some (.inl ((v11, IntKind.wrap .i64 (v13 + (1 : Int)), ()), (((List.getD v5 (Int.toNat v13) (dflt T_gazettelaw15_Number)).1, ((List.getD v5 (Int.toNat v13) (dflt T_gazettelaw15_Number)).2).1, ((List.getD v5 (Int.toNat v13) (dflt T_gazettelaw15_Number)).2).2, ()), ())))
                          else none
                         else none
                        else
                         some (.inl ((v11, IntKind.wrap .i64 (v13 + (1 : Int)), ()), ((v1818, v1818_1, v1818_2, ()), ())))
                       else none
                      else none
                     else none
                    else none
                   else
                    inrO (bif (r232_1 != (0 : Int)) then
                     bif (r231 == (1 : Int)) then
                      bif decide (((List.length v4) : Int) < (256 : Int)) then
                       inrO (some ((), false))
                      else
                       bif (r231 == (2 : Int)) then
                        bif decide ((0 : Int) ≤ v6 ∧ v6 < (List.length a0 : Int)) then
                         bif decide (Int.toNat v6 < List.length a0) then
                          bif (v1818_1 != (((List.getD a0 (Int.toNat v6) (dflt T_gazettelaw15_Number)).2).1)) then
                           inrO (some ((), false))
                          else
                           bif (v1818_2 != r231_1) then
                            inrO (some ((), false))
                           else
                            bif decide (List.length v4 = List.length v4) then
                             bif decide (List.length v5 = List.length v5) then
                              some (.inl ((v4, v5, IntKind.wrap .i64 (v6 + (1 : Int)), ()), ()))
                             else none
                            else none
                         else none
                        else none
                       else
                        bif decide (List.length v4 = List.length v4) then
                         bif decide (List.length v5 = List.length v5) then
                          some (.inl ((v4, v5, IntKind.wrap .i64 (v6 + (1 : Int)), ()), ()))
                         else none
                        else none
                     else
                      bif (r231 == (2 : Int)) then
                       bif decide ((0 : Int) ≤ v6 ∧ v6 < (List.length a0 : Int)) then
                        bif decide (Int.toNat v6 < List.length a0) then
                         bif (v1818_1 != (((List.getD a0 (Int.toNat v6) (dflt T_gazettelaw15_Number)).2).1)) then
                          inrO (some ((), false))
                         else
                          bif (v1818_2 != r231_1) then
                           inrO (some ((), false))
                          else
                           bif decide (List.length v4 = List.length v4) then
                            bif decide (List.length v5 = List.length v5) then
                             some (.inl ((v4, v5, IntKind.wrap .i64 (v6 + (1 : Int)), ()), ()))
                            else none
                           else none
                        else none
                       else none
                      else
                       bif decide (List.length v4 = List.length v4) then
                        bif decide (List.length v5 = List.length v5) then
                         some (.inl ((v4, v5, IntKind.wrap .i64 (v6 + (1 : Int)), ()), ()))
                        else none
                       else none
                    else
                     bif !v11 then
                      inrO (some ((), false))
                     else
                      bif (r231 != (1 : Int)) then
                       inrO (some ((), false))
                      else
                       bif decide (List.length r232 = List.length r232) then
                        Option.bind (p16 fu (r232, ())) fun ⟨_, r233⟩ =>
                        bif !r233 then
                         inrO (some ((), false))
                        else
                         bif decide ((0 : Int) ≤ v6 ∧ v6 < (List.length a0 : Int)) then
                          bif decide (Int.toNat v6 < List.length a0) then
                           bif decide (List.length v5 = List.length v5) then
                            bif decide (List.length v5 + List.length ([((List.getD a0 (Int.toNat v6) (dflt T_gazettelaw15_Number)).1, ((List.getD a0 (Int.toNat v6) (dflt T_gazettelaw15_Number)).2).1, ((List.getD a0 (Int.toNat v6) (dflt T_gazettelaw15_Number)).2).2)]) ≤ maxLen ∧ (List.length v5 + List.length ([((List.getD a0 (Int.toNat v6) (dflt T_gazettelaw15_Number)).1, ((List.getD a0 (Int.toNat v6) (dflt T_gazettelaw15_Number)).2).1, ((List.getD a0 (Int.toNat v6) (dflt T_gazettelaw15_Number)).2).2)])) * 24 ≤ 140737488355328) then
                             bif decide (List.length r232 = List.length r232) then
                              bif decide (List.length (v5 ++ [((List.getD a0 (Int.toNat v6) (dflt T_gazettelaw15_Number)).1, ((List.getD a0 (Int.toNat v6) (dflt T_gazettelaw15_Number)).2).1, ((List.getD a0 (Int.toNat v6) (dflt T_gazettelaw15_Number)).2).2)]) = List.length (v5 ++ [((List.getD a0 (Int.toNat v6) (dflt T_gazettelaw15_Number)).1, ((List.getD a0 (Int.toNat v6) (dflt T_gazettelaw15_Number)).2).1, ((List.getD a0 (Int.toNat v6) (dflt T_gazettelaw15_Number)).2).2)])) then
                               some (.inl ((r232, (v5 ++ [((List.getD a0 (Int.toNat v6) (dflt T_gazettelaw15_Number)).1, ((List.getD a0 (Int.toNat v6) (dflt T_gazettelaw15_Number)).2).1, ((List.getD a0 (Int.toNat v6) (dflt T_gazettelaw15_Number)).2).2)]), IntKind.wrap .i64 (v6 + (1 : Int)), ()), ()))
                              else none
                             else none
                            else none
                           else none
                          else none
                         else none
                       else none))
                  ((true, (0 : Int), ()), (((0 : Int), (0 : Int), (0 : Int), ()), ()))
                else none
               else none
              else none
             else none
            else none
           else none
          else none
         else none
        else none
       else none
      else none
     else none
    else
     inrO (some ((), r230)))
   (([], [], (0 : Int), ()), ())
def e6 (fu : Nat) : Ent := ⟨6, (.cons (.hole (.sl T_gazettelaw15_Number)) .nil), .nil, (.hole .bool), p6 fu⟩
def d6 (fu : Nat) : DC := (.seq (.region [(⟨(some 2), none, (.mov (.const (.bool false)))⟩, .none)] [[]] false) (.seq (.region [(⟨(some 14), none, (.call 9 [])⟩, (.ent (e9 fu))), (⟨(some 3), none, (.mov (.tmp 14))⟩, .none)] [[], [0, 0, 0]] false) (.seq (.region [(⟨(some 4), none, (.mov (.const (.slice none 0 0)))⟩, .none)] [[]] false) (.seq (.region [(⟨(some 5), none, (.mov (.const (.slice none 0 0)))⟩, .none)] [[]] false) (.seq (.seq (.region [(⟨(some 6), none, (.mov (.const (.int .i64 0)))⟩, .none)] [[]] false) (.block 0 (.loop ⟨[4, 5, 6], (.cons (.own 25 T_api_Producer) (.cons (.own 41 T_gazettelaw15_Number) (.cons (.hole (.int .i64)) .nil))), [], .nil, [0, 3], []⟩
 (.seq (.seq (.region [(⟨(some 15), none, (.mov (.tmp 6))⟩, .none), (⟨(some 16), none, (.mov (.tmp 0))⟩, .none), (⟨(some 17), none, (.len false (.tmp 16))⟩, .none), (⟨(some 18), none, (.bin .lss (.tmp 15) (.tmp 17))⟩, .none)] [[], [], [1], [0, 2]] false) (.cond (.tmp 18) .skip (.exit 0))) (.seq (.block 1 (.seq (.region [(⟨(some 22), none, (.mov (.tmp 4))⟩, .none), (⟨(some 23), none, (.mov (.tmp 0))⟩, .none), (⟨(some 24), none, (.mov (.tmp 6))⟩, .none), (⟨(some 25), none, (.iaddr 3 (.tmp 23) (.tmp 24))⟩, .none), (⟨(some 26), none, (.faddr 0 (.tmp 25))⟩, .none), (⟨(some 27), none, (.load false 1 (.tmp 26))⟩, .none), (⟨(some 28), none, (.mov (.tmp 0))⟩, .none), (⟨(some 29), none, (.mov (.tmp 6))⟩, .none), (⟨(some 30), none, (.iaddr 3 (.tmp 28) (.tmp 29))⟩, .none), (⟨(some 31), none, (.faddr 1 (.tmp 30))⟩, .none), (⟨(some 32), none, (.load false 1 (.tmp 31))⟩, .none), (⟨(some 33), none, (.call 11 [(.tmp 22), (.tmp 27), (.tmp 32)])⟩, (.ent (e11 fu))), (⟨(some 21), none, (.mov (.tmp 33))⟩, .none), (⟨(some 34), none, (.ext (.tmp 21) 0)⟩, .none), (⟨(some 35), none, (.ext (.tmp 21) 1)⟩, .none), (⟨(some 7), none, (.mov (.tmp 34))⟩, .none), (⟨(some 8), none, (.mov (.tmp 35))⟩, .none)] [[], [], [], [1, 2], [3], [4], [], [], [6, 7], [8], [9], [0, 5, 10], [11], [12], [12], [13, 11, 0, 1, 2, 3, 4, 5, 6, 7, 8, 9, 10, 11, 12, 13], [14, 15, 0, 1, 2, 3, 4, 5, 6, 7, 8, 9, 10, 11, 12, 13, 14, 15]] true) (.seq (.region [(⟨(some 37), none, (.mov (.tmp 4))⟩, .none), (⟨(some 38), none, (.mov (.tmp 0))⟩, .none), (⟨(some 39), none, (.mov (.tmp 6))⟩, .none), (⟨(some 40), none, (.iaddr 3 (.tmp 38) (.tmp 39))⟩, .none), (⟨(some 41), none, (.faddr 0 (.tmp 40))⟩, .none), (⟨(some 42), none, (.load false 1 (.tmp 41))⟩, .none), (⟨(some 43), none, (.mov (.tmp 0))⟩, .none), (⟨(some 44), none, (.mov (.tmp 6))⟩, .none), (⟨(some 45), none, (.iaddr 3 (.tmp 43) (.tmp 44))⟩, .none), (⟨(some 46), none, (.faddr 1 (.tmp 45))⟩, .none), (⟨(some 47), none, (.load false 1 (.tmp 46))⟩, .none), (⟨(some 48), none, (.mov (.tmp 0))⟩, .none), (⟨(some 49), none, (.mov (.tmp 6))⟩, .none), (⟨(some 50), none, (.iaddr 3 (.tmp 48) (.tmp 49))⟩, .none), (⟨(some 51), none, (.faddr 2 (.tmp 50))⟩, .none), (⟨(some 52), none, (.load false 1 (.tmp 51))⟩, .none), (⟨(some 53), none, (.call 12 [(.tmp 37), (.tmp 42), (.tmp 47), (.tmp 52)])⟩, (.ent (e12 fu))), (⟨(some 36), none, (.mov (.tmp 53))⟩, .none), (⟨(some 54), none, (.ext (.tmp 36) 0)⟩, .none), (⟨(some 55), none, (.ext (.tmp 36) 1)⟩, .none), (⟨(some 9), none, (.mov (.tmp 54))⟩, .none), (⟨(some 10), none, (.mov (.tmp 55))⟩, .none)] [[], [], [], [1, 2], [3], [4], [], [], [6, 7], [8], [9], [], [], [11, 12], [13], [14], [0, 5, 10, 15], [16], [17], [17], [18, 16, 0, 1, 2, 3, 4, 5, 6, 7, 8, 9, 10, 11, 12, 13, 14, 15, 16, 17, 18], [19, 20, 0, 1, 2, 3, 4, 5, 6, 7, 8, 9, 10, 11, 12, 13, 14, 15, 16, 17, 18, 19, 20]] true) (.seq (.region [(⟨(some 11), none, (.mov (.const (.bool true)))⟩, .none)] [[]] false) (.seq (.region [(⟨(some 56), none, (.build 3 [(.int .u64 0), (.int .u64 0), (.int .u64 0)] [])⟩, .none), (⟨(some 12), none, (.alloc 41 3 [(.int .u64 0), (.int .u64 0), (.int .u64 0)])⟩, .none), (⟨none, none, (.store 3 (.tmp 12) (.tmp 56))⟩, .none)] [[], [], [1, 0, 0, 1]] false) (.seq (.seq (.region [(⟨(some 13), none, (.mov (.const (.int .i64 0)))⟩, .none)] [[]] false) (.block 2 (.loop ⟨[11, 13], (.cons (.hole .bool) (.cons (.hole (.int .i64)) .nil)), [(818, 41, 3)], (.cons (.agg 3 (.cons (.hole (.int .u64)) (.cons (.hole (.int .u64)) (.cons (.hole (.int .u64)) .nil)))) .nil), [0, 3, 4, 5, 6, 7, 8, 9, 10, 12], [96, 97, 690]⟩
 (.seq (.seq (.region [(⟨(some 57), none, (.mov (.tmp 13))⟩, .none), (⟨(some 58), none, (.mov (.tmp 5))⟩, .none), (⟨(some 59), none, (.len false (.tmp 58))⟩, .none), (⟨(some 60), none, (.bin .lss (.tmp 57) (.tmp 59))⟩, .none)] [[], [], [1], [0, 2]] false) (.cond (.tmp 60) .skip (.exit 2))) (.seq (.block 3 (.seq (.region [(⟨(some 63), none, (.mov (.tmp 5))⟩, .none), (⟨(some 64), none, (.mov (.tmp 13))⟩, .none), (⟨(some 65), none, (.iaddr 3 (.tmp 63) (.tmp 64))⟩, .none), (⟨(some 66), none, (.faddr 0 (.tmp 65))⟩, .none), (⟨(some 67), none, (.load false 1 (.tmp 66))⟩, .none), (⟨(some 68), none, (.mov (.tmp 0))⟩, .none), (⟨(some 69), none, (.mov (.tmp 6))⟩, .none), (⟨(some 70), none, (.iaddr 3 (.tmp 68) (.tmp 69))⟩, .none), (⟨(some 71), none, (.faddr 0 (.tmp 70))⟩, .none), (⟨(some 72), none, (.load false 1 (.tmp 71))⟩, .none), (⟨(some 73), none, (.bin .eql (.tmp 67) (.tmp 72))⟩, .none)] [[], [], [0, 1], [2], [3], [], [], [5, 6], [7], [8], [4, 9]] true) (.cond (.tmp 73) (.join ⟨[11], (.cons (.hole .bool) .nil), [], .nil, [0, 3, 4, 5, 6, 7, 8, 9, 10, 12, 13], [96, 97, 690, 818]⟩
 (.region [(⟨(some 74), none, (.mov (.tmp 11))⟩, .none), (⟨(some 75), none, (.mov (.tmp 74))⟩, .none), (⟨(some 76), (some (75, true)), (.mov (.tmp 0))⟩, .none), (⟨(some 77), (some (75, true)), (.mov (.tmp 6))⟩, .none), (⟨(some 78), (some (75, true)), (.iaddr 3 (.tmp 76) (.tmp 77))⟩, .none), (⟨(some 79), (some (75, true)), (.faddr 1 (.tmp 78))⟩, .none), (⟨(some 80), (some (75, true)), (.load false 1 (.tmp 79))⟩, .none), (⟨(some 81), (some (75, true)), (.mov (.tmp 5))⟩, .none), (⟨(some 82), (some (75, true)), (.mov (.tmp 13))⟩, .none), (⟨(some 83), (some (75, true)), (.iaddr 3 (.tmp 81) (.tmp 82))⟩, .none), (⟨(some 84), (some (75, true)), (.faddr 1 (.tmp 83))⟩, .none), (⟨(some 85), (some (75, true)), (.load false 1 (.tmp 84))⟩, .none), (⟨(some 86), (some (75, true)), (.bin .gtr (.tmp 80) (.tmp 85))⟩, .none), (⟨(some 87), none, (.pick (.tmp 75) (.tmp 86) (.const (.bool false)))⟩, .none), (⟨(some 11), none, (.mov (.tmp 87))⟩, .none)] [[], [0], [1], [1], [2, 3, 1], [4, 1], [5, 1], [1], [1], [7, 8, 1], [9, 1], [10, 1], [6, 11, 1], [1, 12], [13, 1, 0, 1, 2, 3, 4, 5, 6, 7, 8, 9, 10, 11, 12, 13]] true)
 (.region [(⟨(some 88), none, (.mov (.tmp 5))⟩, .none), (⟨(some 89), none, (.mov (.tmp 13))⟩, .none), (⟨(some 90), none, (.iaddr 3 (.tmp 88) (.tmp 89))⟩, .none), (⟨(some 91), none, (.load true 3 (.tmp 90))⟩, .none), (⟨none, none, (.store 3 (.tmp 12) (.tmp 91))⟩, .none)] [[], [], [0, 1], [2], [3, 0, 1, 2, 3]] false)) .skip))) (.region [(⟨(some 61), none, (.mov (.tmp 13))⟩, .none), (⟨(some 62), none, (.bin .add (.tmp 61) (.const (.int .i64 1)))⟩, .none), (⟨(some 13), none, (.mov (.tmp 62))⟩, .none)] [[], [0], [1, 0, 1]] false)))))) (.seq (.seq (.region [(⟨(some 92), none, (.mov (.tmp 10))⟩, .none), (⟨(some 93), none, (.bin .neq (.tmp 92) (.const (.int .i64 0)))⟩, .none)] [[], [0]] false) (.cond (.tmp 93) (.seq (.seq (.region [(⟨(some 94), none, (.mov (.tmp 7))⟩, .none), (⟨(some 95), none, (.bin .eql (.tmp 94) (.const (.int .i64 1)))⟩, .none), (⟨(some 96), none, (.mov (.tmp 95))⟩, .none), (⟨(some 97), (some (96, true)), (.mov (.tmp 4))⟩, .none), (⟨(some 98), (some (96, true)), (.len false (.tmp 97))⟩, .none), (⟨(some 99), (some (96, true)), (.bin .lss (.tmp 98) (.const (.int .i64 256)))⟩, .none), (⟨(some 100), none, (.pick (.tmp 96) (.tmp 99) (.const (.bool false)))⟩, .none), (⟨(some 101), none, (.mov (.tmp 100))⟩, .none), (⟨(some 102), (some (101, false)), (.mov (.tmp 7))⟩, .none), (⟨(some 103), (some (101, false)), (.bin .eql (.tmp 102) (.const (.int .i64 2)))⟩, .none), (⟨(some 104), (some (101, false)), (.mov (.tmp 103))⟩, .none), (⟨(some 105), (some (104, true)), (.faddr 1 (.tmp 12))⟩, .none), (⟨(some 106), (some (104, true)), (.load false 1 (.tmp 105))⟩, .none), (⟨(some 107), (some (104, true)), (.mov (.tmp 0))⟩, .none), (⟨(some 108), (some (104, true)), (.mov (.tmp 6))⟩, .none), (⟨(some 109), (some (104, true)), (.iaddr 3 (.tmp 107) (.tmp 108))⟩, .none), (⟨(some 110), (some (104, true)), (.faddr 1 (.tmp 109))⟩, .none), (⟨(some 111), (some (104, true)), (.load false 1 (.tmp 110))⟩, .none), (⟨(some 112), (some (104, true)), (.bin .neq (.tmp 106) (.tmp 111))⟩, .none), (⟨(some 113), (some (104, true)), (.mov (.tmp 112))⟩, .none), (⟨(some 114), (some (113, false)), (.faddr 2 (.tmp 12))⟩, .none), (⟨(some 115), (some (113, false)), (.load false 1 (.tmp 114))⟩, .none), (⟨(some 116), (some (113, false)), (.mov (.tmp 8))⟩, .none), (⟨(some 117), (some (113, false)), (.bin .neq (.tmp 115) (.tmp 116))⟩, .none), (⟨(some 118), (some (104, true)), (.pick (.tmp 113) (.const (.bool true)) (.tmp 117))⟩, .none), (⟨(some 119), (some (101, false)), (.pick (.tmp 104) (.tmp 118) (.const (.bool false)))⟩, .none), (⟨(some 120), none, (.pick (.tmp 101) (.const (.bool true)) (.tmp 119))⟩, .none)] [[], [0], [1], [2], [3, 2], [4, 2], [2, 5], [6, 2], [7], [8, 7], [9, 7, 7], [10], [11, 10], [10], [10], [13, 14, 10], [15, 10], [16, 10], [12, 17, 10], [18, 10, 10], [19], [20, 19], [19], [21, 22, 19], [19, 23, 10], [10, 24, 7], [7, 25]] true) (.cond (.tmp 120) (.seq (.region [(⟨(some 2), none, (.mov (.const (.bool false)))⟩, .none)] [[]] false) .ret) .skip)) (.exit 1)) .skip)) (.seq (.seq (.region [(⟨(some 121), none, (.mov (.tmp 11))⟩, .none), (⟨(some 122), none, (.not (.tmp 121))⟩, .none), (⟨(some 123), none, (.mov (.tmp 122))⟩, .none), (⟨(some 124), (some (123, false)), (.mov (.tmp 7))⟩, .none), (⟨(some 125), (some (123, false)), (.bin .neq (.tmp 124) (.const (.int .i64 1)))⟩, .none), (⟨(some 126), none, (.pick (.tmp 123) (.const (.bool true)) (.tmp 125))⟩, .none), (⟨(some 127), none, (.mov (.tmp 126))⟩, .none), (⟨(some 128), (some (127, false)), (.mov (.tmp 9))⟩, .none), (⟨(some 129), (some (127, false)), (.call 16 [(.tmp 128)])⟩, (.ent (e16 fu))), (⟨(some 130), (some (127, false)), (.not (.tmp 129))⟩, .none), (⟨(some 131), none, (.pick (.tmp 127) (.const (.bool true)) (.tmp 130))⟩, .none)] [[], [0], [1], [2], [3, 2], [2, 4], [5, 2], [6], [7, 6, 6], [8, 6], [6, 9]] false) (.cond (.tmp 131) (.seq (.region [(⟨(some 2), none, (.mov (.const (.bool false)))⟩, .none)] [[]] false) .ret) .skip)) (.seq (.region [(⟨(some 132), none, (.mov (.tmp 5))⟩, .none), (⟨(some 133), none, (.mov (.tmp 0))⟩, .none), (⟨(some 134), none, (.mov (.tmp 6))⟩, .none), (⟨(some 135), none, (.iaddr 3 (.tmp 133) (.tmp 134))⟩, .none), (⟨(some 136), none, (.load true 3 (.tmp 135))⟩, .none), (⟨(some 137), none, (.bslice 41 3 1 [(.int .u64 0), (.int .u64 0), (.int .u64 0)] [(0, (.tmp 136))])⟩, (.ty T_gazettelaw15_Number)), (⟨(some 138), none, (.app 41 3 [(.int .u64 0), (.int .u64 0), (.int .u64 0)] 24 (.tmp 132) (.tmp 137))⟩, (.ty T_gazettelaw15_Number)), (⟨(some 5), none, (.mov (.tmp 138))⟩, .none)] [[], [], [], [1, 2], [3], [4], [0, 5], [6, 6, 0, 1, 2, 3, 4, 5, 6]] false) (.region [(⟨(some 139), none, (.mov (.tmp 9))⟩, .none), (⟨(some 4), none, (.mov (.tmp 139))⟩, .none)] [[], [0, 0]] false)))))))))) (.region [(⟨(some 19), none, (.mov (.tmp 6))⟩, .none), (⟨(some 20), none, (.bin .add (.tmp 19) (.const (.int .i64 1)))⟩, .none), (⟨(some 6), none, (.mov (.tmp 20))⟩, .none)] [[], [0], [1, 0, 1]] false)))))) (.seq (.region [(⟨(some 140), none, (.mov (.tmp 3))⟩, .none), (⟨(some 2), none, (.mov (.tmp 140))⟩, .none)] [[], [0, 0]] false) .ret))))))
set_option maxRecDepth 1000000 in
theorem v6 (fu : Nat) : evF fu (d6 fu) rs6 141 (e6 fu).ash (e6 fu).osh (e6 fu).vsh = p6 fu := by kernel_rfl
set_option maxRecDepth 1000000 in
theorem b6 (fu : Nat) : BodyD Try.prog 6 141 (d6 fu).erase rs6 := bodyD_mk Try.func6 (by kernel_rfl) (by kernel_rfl) (by kernel_rfl) (by kernel_rfl)
theorem g6 (fu : Nat) : (e6 fu).Good Try.prog := good_by orders (b6 fu) (l := [e9 fu, e11 fu, e12 fu, e16 fu]) (by kernel_rfl) ⟨g9 fu, g11 fu, g12 fu, g16 fu, trivial⟩ (by kernel_rfl) (v6 fu)
def rs7 : List RVx := [(.tmp 4)]
/-- gazette/gazettelaw15.ProducersKept -/
def p7 (fu : Nat) : ((List (D_api_Producer)) × ((List (D_api_Producer)) × ((List (Int)) × ((List (Int)) × (Unit))))) × ((List (D_gazettelaw15_Number)) × (Unit)) → Option ((Unit) × (Bool)) := fun ⟨⟨a0, a1, a2, a3, _⟩, a4, _⟩ =>
  Option.bind (p9 fu ()) fun ⟨_, r247⟩ =>
  Option.bind (p13 fu (a0, a2, ())) fun ⟨_, r248⟩ =>
  Option.bind (p14 fu (a0, a1, a2, a3, ())) fun ⟨_, ⟨r249, r249_1, _⟩⟩ =>
  Option.bind (p16 fu (a0, ())) fun ⟨_, r250⟩ =>
  loopO (S := ((Int) × (Unit)) × (Unit)) fu (fun ⟨⟨v10, _⟩, _⟩ =>
    bif decide (v10 < (List.length a4 : Int)) then
     bif decide ((0 : Int) ≤ v10 ∧ v10 < (List.length a4 : Int)) then
      bif decide (Int.toNat v10 < List.length a4) then
       bif decide ((0 : Int) ≤ v10 ∧ v10 < (List.length a4 : Int)) then
        bif decide (Int.toNat v10 < List.length a4) then
         Option.bind (p11 fu (a0, (List.getD a4 (Int.toNat v10) (dflt T_gazettelaw15_Number)).1, ((List.getD a4 (Int.toNat v10) (dflt T_gazettelaw15_Number)).2).1, ())) fun ⟨_, ⟨r251, r251_1, _⟩⟩ =>
         bif decide ((0 : Int) ≤ v10 ∧ v10 < (List.length a4 : Int)) then
          bif decide (Int.toNat v10 < List.length a4) then
           bif decide ((0 : Int) ≤ v10 ∧ v10 < (List.length a4 : Int)) then
            bif decide (Int.toNat v10 < List.length a4) then
             Option.bind (p11 fu (a1, (List.getD a4 (Int.toNat v10) (dflt T_gazettelaw15_Number)).1, ((List.getD a4 (Int.toNat v10) (dflt T_gazettelaw15_Number)).2).1, ())) fun ⟨_, ⟨r252, r252_1, _⟩⟩ =>
             bif decide ((0 : Int) ≤ v10 ∧ v10 < (List.length a4 : Int)) then
              bif decide (Int.toNat v10 < List.length a4) then
               bif decide ((0 : Int) ≤ v10 ∧ v10 < (List.length a4 : Int)) then
                bif decide (Int.toNat v10 < List.length a4) then
                 bif decide (List.length r248 = List.length r248) then
                  Option.bind (p11 fu (r248, (List.getD a4 (Int.toNat v10) (dflt T_gazettelaw15_Number)).1, ((List.getD a4 (Int.toNat v10) (dflt T_gazettelaw15_Number)).2).1, ())) fun ⟨_, ⟨r253, r253_1, _⟩⟩ =>
                  bif decide ((0 : Int) ≤ v10 ∧ v10 < (List.length a4 : Int)) then
                   bif decide (Int.toNat v10 < List.length a4) then
                    bif decide ((0 : Int) ≤ v10 ∧ v10 < (List.length a4 : Int)) then
                     bif decide (Int.toNat v10 < List.length a4) then
                      bif decide (List.length r249 = List.length r249) then
                       Option.bind (p11 fu (r249, (List.getD a4 (Int.toNat v10) (dflt T_gazettelaw15_Number)).1, ((List.getD a4 (Int.toNat v10) (dflt T_gazettelaw15_Number)).2).1, ())) fun ⟨_, ⟨r254, r254_1, _⟩⟩ =>
                       orK (E := (Unit) × (Unit))
                        (bif r250 then
                          bif !((r251 == (1 : Int)) == (r253 == (1 : Int))) then
                           inrO (inrO (some ((), false)))
                          else
                           some (.inl ((), ()))
                         else
                          some (.inl ((), ())))
                        fun ⟨_, _⟩ =>
                       bif (r249_1 == (0 : Int)) then
                        bif (r251 == (1 : Int)) then
                         bif !((r252 == (1 : Int)) == (r254 == (1 : Int))) then
                          inrO (some ((), false))
                         else
                          some (.inl ((IntKind.wrap .i64 (v10 + (1 : Int)), ()), ()))
                        else
                         bif !(false == (r254 == (1 : Int))) then
                          inrO (some ((), false))
                         else
                          some (.inl ((IntKind.wrap .i64 (v10 + (1 : Int)), ()), ()))
                       else
                        some (.inl ((IntKind.wrap .i64 (v10 + (1 : Int)), ()), ()))
                      else none
                     else none
                    else none
                   else none
                  else none
                 else none
                else none
               else none
              else none
             else none
            else none
           else none
          else none
         else none
        else none
       else none
      else none
     else none
    else
     inrO (bif r247 then
      bif (r249_1 != (0 : Int)) then
       some ((), true)
      else
       bif decide (List.length r249 = List.length r249) then
        Option.bind (p16 fu (r249, ())) fun ⟨_, r255⟩ =>
        some ((), r255)
       else none
     else
      some ((), false)))
   (((0 : Int), ()), ())
def e7 (fu : Nat) : Ent := ⟨7, (.cons (.agg 4 (.cons (.hole (.sl T_api_Producer)) (.cons (.hole (.sl T_api_Producer)) (.cons (.hole (.sl (.int .u64))) (.cons (.hole (.sl (.int .u64))) .nil))))) (.cons (.hole (.sl T_gazettelaw15_Number)) .nil)), .nil, (.hole .bool), p7 fu⟩
def d7 (fu : Nat) : DC := (.seq (.region [(⟨(some 2), none, (.box 45 4 (.tmp 0))⟩, .none), (⟨(some 4), none, (.mov (.const (.bool false)))⟩, .none)] [[], []] false) (.seq (.region [(⟨(some 19), none, (.call 9 [])⟩, (.ent (e9 fu))), (⟨(some 5), none, (.mov (.tmp 19))⟩, .none)] [[], [0, 0, 0]] false) (.seq (.region [(⟨(some 20), none, (.faddr 0 (.tmp 2))⟩, .none), (⟨(some 21), none, (.load false 1 (.tmp 20))⟩, .none), (⟨(some 22), none, (.faddr 2 (.tmp 2))⟩, .none), (⟨(some 23), none, (.load false 1 (.tmp 22))⟩, .none), (⟨(some 24), none, (.call 13 [(.tmp 21), (.tmp 23)])⟩, (.ent (e13 fu))), (⟨(some 6), none, (.mov (.tmp 24))⟩, .none)] [[], [0], [], [2], [1, 3], [4, 4, 0, 1, 2, 3, 4]] false) (.seq (.region [(⟨(some 26), none, (.faddr 0 (.tmp 2))⟩, .none), (⟨(some 27), none, (.load false 1 (.tmp 26))⟩, .none), (⟨(some 28), none, (.faddr 1 (.tmp 2))⟩, .none), (⟨(some 29), none, (.load false 1 (.tmp 28))⟩, .none), (⟨(some 30), none, (.faddr 2 (.tmp 2))⟩, .none), (⟨(some 31), none, (.load false 1 (.tmp 30))⟩, .none), (⟨(some 32), none, (.faddr 3 (.tmp 2))⟩, .none), (⟨(some 33), none, (.load false 1 (.tmp 32))⟩, .none), (⟨(some 34), none, (.call 14 [(.tmp 27), (.tmp 29), (.tmp 31), (.tmp 33)])⟩, (.ent (e14 fu))), (⟨(some 25), none, (.mov (.tmp 34))⟩, .none), (⟨(some 35), none, (.ext (.tmp 25) 0)⟩, .none), (⟨(some 36), none, (.ext (.tmp 25) 1)⟩, .none), (⟨(some 7), none, (.mov (.tmp 35))⟩, .none), (⟨(some 8), none, (.mov (.tmp 36))⟩, .none)] [[], [0], [], [2], [], [4], [], [6], [1, 3, 5, 7], [8], [9], [9], [10, 8, 0, 1, 2, 3, 4, 5, 6, 7, 8, 9, 10], [11, 12, 0, 1, 2, 3, 4, 5, 6, 7, 8, 9, 10, 11, 12]] false) (.seq (.region [(⟨(some 37), none, (.faddr 0 (.tmp 2))⟩, .none), (⟨(some 38), none, (.load false 1 (.tmp 37))⟩, .none), (⟨(some 39), none, (.call 16 [(.tmp 38)])⟩, (.ent (e16 fu))), (⟨(some 9), none, (.mov (.tmp 39))⟩, .none)] [[], [0], [1], [2, 2, 0, 1, 2]] false) (.seq (.seq (.region [(⟨(some 10), none, (.mov (.const (.int .i64 0)))⟩, .none)] [[]] false) (.block 0 (.loop ⟨[10], (.cons (.hole (.int .i64)) .nil), [], .nil, [1, 2, 5, 6, 7, 8, 9], [0, 128, 288]⟩
 (.seq (.seq (.region [(⟨(some 40), none, (.mov (.tmp 10))⟩, .none), (⟨(some 41), none, (.mov (.tmp 1))⟩, .none), (⟨(some 42), none, (.len false (.tmp 41))⟩, .none), (⟨(some 43), none, (.bin .lss (.tmp 40) (.tmp 42))⟩, .none)] [[], [], [1], [0, 2]] false) (.cond (.tmp 43) .skip (.exit 0))) (.seq (.block 1 (.seq (.region [(⟨(some 47), none, (.faddr 0 (.tmp 2))⟩, .none), (⟨(some 48), none, (.load false 1 (.tmp 47))⟩, .none), (⟨(some 49), none, (.mov (.tmp 1))⟩, .none), (⟨(some 50), none, (.mov (.tmp 10))⟩, .none), (⟨(some 51), none, (.iaddr 3 (.tmp 49) (.tmp 50))⟩, .none), (⟨(some 52), none, (.faddr 0 (.tmp 51))⟩, .none), (⟨(some 53), none, (.load false 1 (.tmp 52))⟩, .none), (⟨(some 54), none, (.mov (.tmp 1))⟩, .none), (⟨(some 55), none, (.mov (.tmp 10))⟩, .none), (⟨(some 56), none, (.iaddr 3 (.tmp 54) (.tmp 55))⟩, .none), (⟨(some 57), none, (.faddr 1 (.tmp 56))⟩, .none), (⟨(some 58), none, (.load false 1 (.tmp 57))⟩, .none), (⟨(some 59), none, (.call 11 [(.tmp 48), (.tmp 53), (.tmp 58)])⟩, (.ent (e11 fu))), (⟨(some 46), none, (.mov (.tmp 59))⟩, .none), (⟨(some 60), none, (.ext (.tmp 46) 0)⟩, .none), (⟨(some 61), none, (.ext (.tmp 46) 1)⟩, .none), (⟨(some 11), none, (.mov (.tmp 60))⟩, .none), (⟨(some 12), none, (.mov (.tmp 61))⟩, .none)] [[], [0], [], [], [2, 3], [4], [5], [], [], [7, 8], [9], [10], [1, 6, 11], [12], [13], [13], [14, 12, 0, 1, 2, 3, 4, 5, 6, 7, 8, 9, 10, 11, 12, 13, 14], [15, 16, 0, 1, 2, 3, 4, 5, 6, 7, 8, 9, 10, 11, 12, 13, 14, 15, 16]] true) (.seq (.region [(⟨(some 63), none, (.faddr 1 (.tmp 2))⟩, .none), (⟨(some 64), none, (.load false 1 (.tmp 63))⟩, .none), (⟨(some 65), none, (.mov (.tmp 1))⟩, .none), (⟨(some 66), none, (.mov (.tmp 10))⟩, .none), (⟨(some 67), none, (.iaddr 3 (.tmp 65) (.tmp 66))⟩, .none), (⟨(some 68), none, (.faddr 0 (.tmp 67))⟩, .none), (⟨(some 69), none, (.load false 1 (.tmp 68))⟩, .none), (⟨(some 70), none, (.mov (.tmp 1))⟩, .none), (⟨(some 71), none, (.mov (.tmp 10))⟩, .none), (⟨(some 72), none, (.iaddr 3 (.tmp 70) (.tmp 71))⟩, .none), (⟨(some 73), none, (.faddr 1 (.tmp 72))⟩, .none), (⟨(some 74), none, (.load false 1 (.tmp 73))⟩, .none), (⟨(some 75), none, (.call 11 [(.tmp 64), (.tmp 69), (.tmp 74)])⟩, (.ent (e11 fu))), (⟨(some 62), none, (.mov (.tmp 75))⟩, .none), (⟨(some 76), none, (.ext (.tmp 62) 0)⟩, .none), (⟨(some 77), none, (.ext (.tmp 62) 1)⟩, .none), (⟨(some 13), none, (.mov (.tmp 76))⟩, .none), (⟨(some 14), none, (.mov (.tmp 77))⟩, .none)] [[], [0], [], [], [2, 3], [4], [5], [], [], [7, 8], [9], [10], [1, 6, 11], [12], [13], [13], [14, 12, 0, 1, 2, 3, 4, 5, 6, 7, 8, 9, 10, 11, 12, 13, 14], [15, 16, 0, 1, 2, 3, 4, 5, 6, 7, 8, 9, 10, 11, 12, 13, 14, 15, 16]] true) (.seq (.region [(⟨(some 79), none, (.mov (.tmp 6))⟩, .none), (⟨(some 80), none, (.mov (.tmp 1))⟩, .none), (⟨(some 81), none, (.mov (.tmp 10))⟩, .none), (⟨(some 82), none, (.iaddr 3 (.tmp 80) (.tmp 81))⟩, .none), (⟨(some 83), none, (.faddr 0 (.tmp 82))⟩, .none), (⟨(some 84), none, (.load false 1 (.tmp 83))⟩, .none), (⟨(some 85), none, (.mov (.tmp 1))⟩, .none), (⟨(some 86), none, (.mov (.tmp 10))⟩, .none), (⟨(some 87), none, (.iaddr 3 (.tmp 85) (.tmp 86))⟩, .none), (⟨(some 88), none, (.faddr 1 (.tmp 87))⟩, .none), (⟨(some 89), none, (.load false 1 (.tmp 88))⟩, .none), (⟨(some 90), none, (.call 11 [(.tmp 79), (.tmp 84), (.tmp 89)])⟩, (.ent (e11 fu))), (⟨(some 78), none, (.mov (.tmp 90))⟩, .none), (⟨(some 91), none, (.ext (.tmp 78) 0)⟩, .none), (⟨(some 92), none, (.ext (.tmp 78) 1)⟩, .none), (⟨(some 15), none, (.mov (.tmp 91))⟩, .none), (⟨(some 16), none, (.mov (.tmp 92))⟩, .none)] [[], [], [], [1, 2], [3], [4], [], [], [6, 7], [8], [9], [0, 5, 10], [11], [12], [12], [13, 11, 0, 1, 2, 3, 4, 5, 6, 7, 8, 9, 10, 11, 12, 13], [14, 15, 0, 1, 2, 3, 4, 5, 6, 7, 8, 9, 10, 11, 12, 13, 14, 15]] true) (.seq (.region [(⟨(some 94), none, (.mov (.tmp 7))⟩, .none), (⟨(some 95), none, (.mov (.tmp 1))⟩, .none), (⟨(some 96), none, (.mov (.tmp 10))⟩, .none), (⟨(some 97), none, (.iaddr 3 (.tmp 95) (.tmp 96))⟩, .none), (⟨(some 98), none, (.faddr 0 (.tmp 97))⟩, .none), (⟨(some 99), none, (.load false 1 (.tmp 98))⟩, .none), (⟨(some 100), none, (.mov (.tmp 1))⟩, .none), (⟨(some 101), none, (.mov (.tmp 10))⟩, .none), (⟨(some 102), none, (.iaddr 3 (.tmp 100) (.tmp 101))⟩, .none), (⟨(some 103), none, (.faddr 1 (.tmp 102))⟩, .none), (⟨(some 104), none, (.load false 1 (.tmp 103))⟩, .none), (⟨(some 105), none, (.call 11 [(.tmp 94), (.tmp 99), (.tmp 104)])⟩, (.ent (e11 fu))), (⟨(some 93), none, (.mov (.tmp 105))⟩, .none), (⟨(some 106), none, (.ext (.tmp 93) 0)⟩, .none), (⟨(some 107), none, (.ext (.tmp 93) 1)⟩, .none), (⟨(some 17), none, (.mov (.tmp 106))⟩, .none), (⟨(some 18), none, (.mov (.tmp 107))⟩, .none)] [[], [], [], [1, 2], [3], [4], [], [], [6, 7], [8], [9], [0, 5, 10], [11], [12], [12], [13, 11, 0, 1, 2, 3, 4, 5, 6, 7, 8, 9, 10, 11, 12, 13], [14, 15, 0, 1, 2, 3, 4, 5, 6, 7, 8, 9, 10, 11, 12, 13, 14, 15]] true) (.join ⟨[], .nil, [], .nil, [1, 2, 5, 6, 7, 8, 9, 10, 11, 13, 17], [0, 128, 288]⟩
 (.seq (.region [(⟨(some 108), none, (.mov (.tmp 9))⟩, .none), (⟨(some 109), none, (.mov (.tmp 108))⟩, .none), (⟨(some 110), (some (109, true)), (.mov (.tmp 11))⟩, .none), (⟨(some 111), (some (109, true)), (.bin .eql (.tmp 110) (.const (.int .i64 1)))⟩, .none), (⟨(some 112), (some (109, true)), (.mov (.tmp 15))⟩, .none), (⟨(some 113), (some (109, true)), (.bin .eql (.tmp 112) (.const (.int .i64 1)))⟩, .none), (⟨(some 114), (some (109, true)), (.beq true (.tmp 111) (.tmp 113))⟩, .none), (⟨(some 115), none, (.pick (.tmp 109) (.tmp 114) (.const (.bool false)))⟩, .none)] [[], [0], [1], [2, 1], [1], [4, 1], [3, 5, 1], [1, 6]] false) (.cond (.tmp 115) (.seq (.region [(⟨(some 4), none, (.mov (.const (.bool false)))⟩, .none)] [[]] false) .ret) .skip))
 (.seq (.region [(⟨(some 116), none, (.mov (.tmp 8))⟩, .none), (⟨(some 117), none, (.bin .eql (.tmp 116) (.const (.int .i64 0)))⟩, .none), (⟨(some 118), none, (.mov (.tmp 117))⟩, .none), (⟨(some 119), (some (118, true)), (.mov (.tmp 11))⟩, .none), (⟨(some 120), (some (118, true)), (.bin .eql (.tmp 119) (.const (.int .i64 1)))⟩, .none), (⟨(some 121), (some (118, true)), (.mov (.tmp 120))⟩, .none), (⟨(some 122), (some (121, true)), (.mov (.tmp 13))⟩, .none), (⟨(some 123), (some (121, true)), (.bin .eql (.tmp 122) (.const (.int .i64 1)))⟩, .none), (⟨(some 124), (some (118, true)), (.pick (.tmp 121) (.tmp 123) (.const (.bool false)))⟩, .none), (⟨(some 125), (some (118, true)), (.mov (.tmp 17))⟩, .none), (⟨(some 126), (some (118, true)), (.bin .eql (.tmp 125) (.const (.int .i64 1)))⟩, .none), (⟨(some 127), (some (118, true)), (.beq true (.tmp 124) (.tmp 126))⟩, .none), (⟨(some 128), none, (.pick (.tmp 118) (.tmp 127) (.const (.bool false)))⟩, .none)] [[], [0], [1], [2], [3, 2], [4, 2, 2], [5], [6, 5], [5, 7, 2], [2], [9, 2], [8, 10, 2], [2, 11]] false) (.cond (.tmp 128) (.seq (.region [(⟨(some 4), none, (.mov (.const (.bool false)))⟩, .none)] [[]] false) .ret) .skip)))))))) (.region [(⟨(some 44), none, (.mov (.tmp 10))⟩, .none), (⟨(some 45), none, (.bin .add (.tmp 44) (.const (.int .i64 1)))⟩, .none), (⟨(some 10), none, (.mov (.tmp 45))⟩, .none)] [[], [0], [1, 0, 1]] false)))))) (.seq (.region [(⟨(some 129), none, (.mov (.tmp 5))⟩, .none), (⟨(some 130), none, (.mov (.tmp 129))⟩, .none), (⟨(some 131), (some (130, true)), (.mov (.tmp 8))⟩, .none), (⟨(some 132), (some (130, true)), (.bin .neq (.tmp 131) (.const (.int .i64 0)))⟩, .none), (⟨(some 133), (some (130, true)), (.mov (.tmp 132))⟩, .none), (⟨(some 134), (some (133, false)), (.mov (.tmp 7))⟩, .none), (⟨(some 135), (some (133, false)), (.call 16 [(.tmp 134)])⟩, (.ent (e16 fu))), (⟨(some 136), (some (130, true)), (.pick (.tmp 133) (.const (.bool true)) (.tmp 135))⟩, .none), (⟨(some 137), none, (.pick (.tmp 130) (.tmp 136) (.const (.bool false)))⟩, .none), (⟨(some 4), none, (.mov (.tmp 137))⟩, .none)] [[], [0], [1], [2, 1], [3, 1, 1], [4], [5, 4, 4], [4, 6, 1], [1, 7], [8, 6, 0, 1, 2, 3, 4, 5, 6, 7, 8]] false) .ret)))))))
set_option maxRecDepth 1000000 in
theorem v7 (fu : Nat) : evF fu (d7 fu) rs7 138 (e7 fu).ash (e7 fu).osh (e7 fu).vsh = p7 fu := by kernel_rfl
set_option maxRecDepth 1000000 in
theorem b7 (fu : Nat) : BodyD Try.prog 7 138 (d7 fu).erase rs7 := bodyD_mk Try.func7 (by kernel_rfl) (by kernel_rfl) (by kernel_rfl) (by kernel_rfl)
theorem g7 (fu : Nat) : (e7 fu).Good Try.prog := good_by orders (b7 fu) (l := [e9 fu, e13 fu, e14 fu, e16 fu, e11 fu, e11 fu, e11 fu, e11 fu, e16 fu]) (by kernel_rfl) ⟨g9 fu, g13 fu, g14 fu, g16 fu, g11 fu, g11 fu, g11 fu, g11 fu, g16 fu, trivial⟩ (by kernel_rfl) (v7 fu)
def rs8 : List RVx := [(.tmp 4)]
/-- gazette/gazettelaw15.ProducersApart -/
def p8 (fu : Nat) : (List (D_gazettelaw15_Number)) × ((List (D_gazettelaw15_Number)) × (Unit)) → Option ((Unit) × (Bool)) := fun ⟨a0, a1, _⟩ =>
  Option.bind (p9 fu ()) fun ⟨_, r264⟩ =>
  loopO (S := ((List (D_api_Producer)) × ((List (D_api_Producer)) × ((Int) × (Unit)))) × (Unit)) fu (fun ⟨⟨v6, v7, v8, _⟩, _⟩ =>
    bif decide (v8 < (IntKind.wrap .i64 ((List.length a0 : Int) + (List.length a1 : Int)))) then
     orK (E := (Unit) × (((Int) × ((Int) × ((Int) × (Unit)))) × (Unit)))
      (bif decide (v8 < (List.length a0 : Int)) then
        bif decide ((0 : Int) ≤ v8 ∧ v8 < (List.length a0 : Int)) then
         bif decide (Int.toNat v8 < List.length a0) then
          some (.inl ((), (((5 : Int), ((List.getD a0 (Int.toNat v8) (dflt T_gazettelaw15_Number)).2).1, ((List.getD a0 (Int.toNat v8) (dflt T_gazettelaw15_Number)).2).2, ()), ())))
         else none
        else none
       else
        bif decide ((0 : Int) ≤ IntKind.wrap .i64 (v8 - (List.length a0 : Int)) ∧ IntKind.wrap .i64 (v8 - (List.length a0 : Int)) < (List.length a1 : Int)) then
         bif decide (Int.toNat (IntKind.wrap .i64 (v8 - (List.length a0 : Int))) < List.length a1) then
          some (.inl ((), (((9 : Int), ((List.getD a1 (Int.toNat (IntKind.wrap .i64 (v8 - (List.length a0 : Int)))) (dflt T_gazettelaw15_Number)).2).1, ((List.getD a1 (Int.toNat (IntKind.wrap .i64 (v8 - (List.length a0 : Int)))) (dflt T_gazettelaw15_Number)).2).2, ()), ())))
         else none
        else none)
      fun ⟨_, ⟨⟨v1226, v1226_1, v1226_2, _⟩, _⟩⟩ =>
     orK (E := (Unit) × (((Int) × ((Int) × ((Int) × (Unit)))) × (Unit)))
      (bif decide (v8 < (List.length a1 : Int)) then
        bif decide ((0 : Int) ≤ v8 ∧ v8 < (List.length a1 : Int)) then
         bif decide (Int.toNat v8 < List.length a1) then
          some (.inl ((), (((9 : Int), ((List.getD a1 (Int.toNat v8) (dflt T_gazettelaw15_Number)).2).1, ((List.getD a1 (Int.toNat v8) (dflt T_gazettelaw15_Number)).2).2, ()), ())))
         else none
        else none
       else
        bif decide ((0 : Int) ≤ IntKind.wrap .i64 (v8 - (List.length a1 : Int)) ∧ IntKind.wrap .i64 (v8 - (List.length a1 : Int)) < (List.length a0 : Int)) then
         bif decide (Int.toNat (IntKind.wrap .i64 (v8 - (List.length a1 : Int))) < List.length a0) then
          some (.inl ((), (((5 : Int), ((List.getD a0 (Int.toNat (IntKind.wrap .i64 (v8 - (List.length a1 : Int)))) (dflt T_gazettelaw15_Number)).2).1, ((List.getD a0 (Int.toNat (IntKind.wrap .i64 (v8 - (List.length a1 : Int)))) (dflt T_gazettelaw15_Number)).2).2, ()), ())))
         else none
        else none)
      fun ⟨_, ⟨⟨v1274, v1274_1, v1274_2, _⟩, _⟩⟩ =>
     bif decide (List.length v6 = List.length v6) then
      Option.bind (p12 fu (v6, v1226, v1226_1, v1226_2, ())) fun ⟨_, ⟨r265, r265_1, _⟩⟩ =>
      orK (E := ((List (D_api_Producer)) × (Unit)) × (Unit))
       (bif (r265_1 == (0 : Int)) then
         bif decide (List.length r265 = List.length r265) then
          some (.inl ((r265, ()), ()))
         else none
        else
         bif decide (List.length v6 = List.length v6) then
          some (.inl ((v6, ()), ()))
         else none)
       fun ⟨⟨v6, _⟩, _⟩ =>
      bif decide (List.length v7 = List.length v7) then
       Option.bind (p12 fu (v7, v1274, v1274_1, v1274_2, ())) fun ⟨_, ⟨r266, r266_1, _⟩⟩ =>
       bif (r266_1 == (0 : Int)) then
        bif decide (List.length v6 = List.length v6) then
         bif decide (List.length r266 = List.length r266) then
          some (.inl ((v6, r266, IntKind.wrap .i64 (v8 + (1 : Int)), ()), ()))
         else none
        else none
       else
        bif decide (List.length v6 = List.length v6) then
         bif decide (List.length v7 = List.length v7) then
          some (.inl ((v6, v7, IntKind.wrap .i64 (v8 + (1 : Int)), ()), ()))
         else none
        else none
      else none
     else none
    else
     inrO (bif r264 then
      bif decide (List.length v6 = List.length v6) then
       bif decide (List.length v7 = List.length v7) then
        Option.bind (p15 fu (v6, v7, ())) fun ⟨_, r267⟩ =>
        bif r267 then
         some ((), decide (((List.length v6) : Int) ≤ (2 : Int)))
        else
         some ((), false)
       else none
      else none
     else
      some ((), false)))
   (([], [], (0 : Int), ()), ())
def e8 (fu : Nat) : Ent := ⟨8, (.cons (.hole (.sl T_gazettelaw15_Number)) (.cons (.hole (.sl T_gazettelaw15_Number)) .nil)), .nil, (.hole .bool), p8 fu⟩
def d8 (fu : Nat) : DC := (.seq (.region [(⟨(some 4), none, (.mov (.const (.bool false)))⟩, .none)] [[]] false) (.seq (.region [(⟨(some 13), none, (.call 9 [])⟩, (.ent (e9 fu))), (⟨(some 5), none, (.mov (.tmp 13))⟩, .none)] [[], [0, 0, 0]] false) (.seq (.region [(⟨(some 6), none, (.mov (.const (.slice none 0 0)))⟩, .none)] [[]] false) (.seq (.region [(⟨(some 7), none, (.mov (.const (.slice none 0 0)))⟩, .none)] [[]] false) (.seq (.seq (.region [(⟨(some 8), none, (.mov (.const (.int .i64 0)))⟩, .none)] [[]] false) (.block 0 (.loop ⟨[6, 7, 8], (.cons (.own 25 T_api_Producer) (.cons (.own 25 T_api_Producer) (.cons (.hole (.int .i64)) .nil))), [], .nil, [0, 1, 5], []⟩
 (.seq (.seq (.region [(⟨(some 14), none, (.mov (.tmp 8))⟩, .none), (⟨(some 15), none, (.mov (.tmp 0))⟩, .none), (⟨(some 16), none, (.len false (.tmp 15))⟩, .none), (⟨(some 17), none, (.mov (.tmp 1))⟩, .none), (⟨(some 18), none, (.len false (.tmp 17))⟩, .none), (⟨(some 19), none, (.bin .add (.tmp 16) (.tmp 18))⟩, .none), (⟨(some 20), none, (.bin .lss (.tmp 14) (.tmp 19))⟩, .none)] [[], [], [1], [], [3], [2, 4], [0, 5]] false) (.cond (.tmp 20) .skip (.exit 0))) (.seq (.block 1 (.seq (.region [(⟨(some 23), none, (.build 3 [(.int .u64 0), (.int .u64 0), (.int .u64 0)] [])⟩, .none), (⟨(some 9), none, (.alloc 41 3 [(.int .u64 0), (.int .u64 0), (.int .u64 0)])⟩, .none), (⟨none, none, (.store 3 (.tmp 9) (.tmp 23))⟩, .none)] [[], [], [1, 0, 0, 1]] false) (.seq (.region [(⟨(some 24), none, (.build 3 [(.int .u64 0), (.int .u64 0), (.int .u64 0)] [])⟩, .none), (⟨(some 10), none, (.alloc 41 3 [(.int .u64 0), (.int .u64 0), (.int .u64 0)])⟩, .none), (⟨none, none, (.store 3 (.tmp 10) (.tmp 24))⟩, .none)] [[], [], [1, 0, 0, 1]] false) (.join ⟨[], .nil, [(226, 41, 3)], (.cons (.agg 3 (.cons (.hole (.int .u64)) (.cons (.hole (.int .u64)) (.cons (.hole (.int .u64)) .nil)))) .nil), [0, 1, 5, 6, 7, 8, 9, 10], [96, 97, 274]⟩
 (.seq (.region [(⟨(some 25), none, (.mov (.tmp 8))⟩, .none), (⟨(some 26), none, (.mov (.tmp 0))⟩, .none), (⟨(some 27), none, (.len false (.tmp 26))⟩, .none), (⟨(some 28), none, (.bin .lss (.tmp 25) (.tmp 27))⟩, .none)] [[], [], [1], [0, 2]] false) (.cond (.tmp 28) (.seq (.region [(⟨(some 29), none, (.mov (.tmp 0))⟩, .none), (⟨(some 30), none, (.mov (.tmp 8))⟩, .none), (⟨(some 31), none, (.iaddr 3 (.tmp 29) (.tmp 30))⟩, .none), (⟨(some 32), none, (.load true 3 (.tmp 31))⟩, .none), (⟨none, none, (.store 3 (.tmp 9) (.tmp 32))⟩, .none)] [[], [], [0, 1], [2], [3, 0, 1, 2, 3]] false) (.region [(⟨(some 33), none, (.faddr 0 (.tmp 9))⟩, .none), (⟨none, none, (.store 1 (.tmp 33) (.const (.int .u64 5)))⟩, .none)] [[], [0]] false)) (.seq (.region [(⟨(some 34), none, (.mov (.tmp 1))⟩, .none), (⟨(some 35), none, (.mov (.tmp 8))⟩, .none), (⟨(some 36), none, (.mov (.tmp 0))⟩, .none), (⟨(some 37), none, (.len false (.tmp 36))⟩, .none), (⟨(some 38), none, (.bin .sub (.tmp 35) (.tmp 37))⟩, .none), (⟨(some 39), none, (.iaddr 3 (.tmp 34) (.tmp 38))⟩, .none), (⟨(some 40), none, (.load true 3 (.tmp 39))⟩, .none), (⟨none, none, (.store 3 (.tmp 9) (.tmp 40))⟩, .none)] [[], [], [], [2], [1, 3], [0, 4], [5], [6, 0, 1, 2, 3, 4, 5, 6]] false) (.region [(⟨(some 41), none, (.faddr 0 (.tmp 9))⟩, .none), (⟨none, none, (.store 1 (.tmp 41) (.const (.int .u64 9)))⟩, .none)] [[], [0]] false))))
 (.join ⟨[], .nil, [(274, 41, 3)], (.cons (.agg 3 (.cons (.hole (.int .u64)) (.cons (.hole (.int .u64)) (.cons (.hole (.int .u64)) .nil)))) .nil), [0, 1, 5, 6, 7, 8, 9, 10], [96, 97, 226]⟩
 (.seq (.region [(⟨(some 42), none, (.mov (.tmp 8))⟩, .none), (⟨(some 43), none, (.mov (.tmp 1))⟩, .none), (⟨(some 44), none, (.len false (.tmp 43))⟩, .none), (⟨(some 45), none, (.bin .lss (.tmp 42) (.tmp 44))⟩, .none)] [[], [], [1], [0, 2]] false) (.cond (.tmp 45) (.seq (.region [(⟨(some 46), none, (.mov (.tmp 1))⟩, .none), (⟨(some 47), none, (.mov (.tmp 8))⟩, .none), (⟨(some 48), none, (.iaddr 3 (.tmp 46) (.tmp 47))⟩, .none), (⟨(some 49), none, (.load true 3 (.tmp 48))⟩, .none), (⟨none, none, (.store 3 (.tmp 10) (.tmp 49))⟩, .none)] [[], [], [0, 1], [2], [3, 0, 1, 2, 3]] false) (.region [(⟨(some 50), none, (.faddr 0 (.tmp 10))⟩, .none), (⟨none, none, (.store 1 (.tmp 50) (.const (.int .u64 9)))⟩, .none)] [[], [0]] false)) (.seq (.region [(⟨(some 51), none, (.mov (.tmp 0))⟩, .none), (⟨(some 52), none, (.mov (.tmp 8))⟩, .none), (⟨(some 53), none, (.mov (.tmp 1))⟩, .none), (⟨(some 54), none, (.len false (.tmp 53))⟩, .none), (⟨(some 55), none, (.bin .sub (.tmp 52) (.tmp 54))⟩, .none), (⟨(some 56), none, (.iaddr 3 (.tmp 51) (.tmp 55))⟩, .none), (⟨(some 57), none, (.load true 3 (.tmp 56))⟩, .none), (⟨none, none, (.store 3 (.tmp 10) (.tmp 57))⟩, .none)] [[], [], [], [2], [1, 3], [0, 4], [5], [6, 0, 1, 2, 3, 4, 5, 6]] false) (.region [(⟨(some 58), none, (.faddr 0 (.tmp 10))⟩, .none), (⟨none, none, (.store 1 (.tmp 58) (.const (.int .u64 5)))⟩, .none)] [[], [0]] false))))
 (.seq (.region [(⟨(some 60), none, (.mov (.tmp 6))⟩, .none), (⟨(some 61), none, (.faddr 0 (.tmp 9))⟩, .none), (⟨(some 62), none, (.load false 1 (.tmp 61))⟩, .none), (⟨(some 63), none, (.faddr 1 (.tmp 9))⟩, .none), (⟨(some 64), none, (.load false 1 (.tmp 63))⟩, .none), (⟨(some 65), none, (.faddr 2 (.tmp 9))⟩, .none), (⟨(some 66), none, (.load false 1 (.tmp 65))⟩, .none), (⟨(some 67), none, (.call 12 [(.tmp 60), (.tmp 62), (.tmp 64), (.tmp 66)])⟩, (.ent (e12 fu))), (⟨(some 59), none, (.mov (.tmp 67))⟩, .none), (⟨(some 68), none, (.ext (.tmp 59) 0)⟩, .none), (⟨(some 69), none, (.ext (.tmp 59) 1)⟩, .none), (⟨(some 11), none, (.mov (.tmp 68))⟩, .none), (⟨(some 12), none, (.mov (.tmp 69))⟩, .none)] [[], [], [1], [], [3], [], [5], [0, 2, 4, 6], [7], [8], [8], [9, 7, 0, 1, 2, 3, 4, 5, 6, 7, 8, 9], [10, 11, 0, 1, 2, 3, 4, 5, 6, 7, 8, 9, 10, 11]] false) (.join ⟨[6], (.cons (.own 25 T_api_Producer) .nil), [], .nil, [0, 1, 5, 7, 8, 10], [97, 274]⟩
 (.seq (.region [(⟨(some 70), none, (.mov (.tmp 12))⟩, .none), (⟨(some 71), none, (.bin .eql (.tmp 70) (.const (.int .i64 0)))⟩, .none)] [[], [0]] false) (.cond (.tmp 71) (.region [(⟨(some 72), none, (.mov (.tmp 11))⟩, .none), (⟨(some 6), none, (.mov (.tmp 72))⟩, .none)] [[], [0, 0]] false) .skip))
 (.seq (.region [(⟨(some 74), none, (.mov (.tmp 7))⟩, .none), (⟨(some 75), none, (.faddr 0 (.tmp 10))⟩, .none), (⟨(some 76), none, (.load false 1 (.tmp 75))⟩, .none), (⟨(some 77), none, (.faddr 1 (.tmp 10))⟩, .none), (⟨(some 78), none, (.load false 1 (.tmp 77))⟩, .none), (⟨(some 79), none, (.faddr 2 (.tmp 10))⟩, .none), (⟨(some 80), none, (.load false 1 (.tmp 79))⟩, .none), (⟨(some 81), none, (.call 12 [(.tmp 74), (.tmp 76), (.tmp 78), (.tmp 80)])⟩, (.ent (e12 fu))), (⟨(some 73), none, (.mov (.tmp 81))⟩, .none), (⟨(some 82), none, (.ext (.tmp 73) 0)⟩, .none), (⟨(some 83), none, (.ext (.tmp 73) 1)⟩, .none), (⟨(some 11), none, (.mov (.tmp 82))⟩, .none), (⟨(some 12), none, (.mov (.tmp 83))⟩, .none)] [[], [], [1], [], [3], [], [5], [0, 2, 4, 6], [7], [8], [8], [9, 7, 0, 1, 2, 3, 4, 5, 6, 7, 8, 9], [10, 11, 0, 1, 2, 3, 4, 5, 6, 7, 8, 9, 10, 11]] false) (.seq (.region [(⟨(some 84), none, (.mov (.tmp 12))⟩, .none), (⟨(some 85), none, (.bin .eql (.tmp 84) (.const (.int .i64 0)))⟩, .none)] [[], [0]] false) (.cond (.tmp 85) (.region [(⟨(some 86), none, (.mov (.tmp 11))⟩, .none), (⟨(some 7), none, (.mov (.tmp 86))⟩, .none)] [[], [0, 0]] false) .skip)))))))))) (.region [(⟨(some 21), none, (.mov (.tmp 8))⟩, .none), (⟨(some 22), none, (.bin .add (.tmp 21) (.const (.int .i64 1)))⟩, .none), (⟨(some 8), none, (.mov (.tmp 22))⟩, .none)] [[], [0], [1, 0, 1]] false)))))) (.seq (.region [(⟨(some 87), none, (.mov (.tmp 5))⟩, .none), (⟨(some 88), none, (.mov (.tmp 87))⟩, .none), (⟨(some 89), (some (88, true)), (.mov (.tmp 6))⟩, .none), (⟨(some 90), (some (88, true)), (.mov (.tmp 7))⟩, .none), (⟨(some 91), (some (88, true)), (.call 15 [(.tmp 89), (.tmp 90)])⟩, (.ent (e15 fu))), (⟨(some 92), none, (.pick (.tmp 88) (.tmp 91) (.const (.bool false)))⟩, .none), (⟨(some 93), none, (.mov (.tmp 92))⟩, .none), (⟨(some 94), (some (93, true)), (.mov (.tmp 6))⟩, .none), (⟨(some 95), (some (93, true)), (.len false (.tmp 94))⟩, .none), (⟨(some 96), (some (93, true)), (.bin .leq (.tmp 95) (.const (.int .i64 2)))⟩, .none), (⟨(some 97), none, (.pick (.tmp 93) (.tmp 96) (.const (.bool false)))⟩, .none), (⟨(some 4), none, (.mov (.tmp 97))⟩, .none)] [[], [0], [1], [1], [2, 3, 1, 1], [1, 4], [5, 4], [6], [7, 6], [8, 6], [6, 9], [10, 6, 0, 1, 2, 3, 4, 5, 6, 7, 8, 9, 10]] false) .ret))))))
set_option maxRecDepth 1000000 in
theorem v8 (fu : Nat) : evF fu (d8 fu) rs8 98 (e8 fu).ash (e8 fu).osh (e8 fu).vsh = p8 fu := by kernel_rfl
set_option maxRecDepth 1000000 in
theorem b8 (fu : Nat) : BodyD Try.prog 8 98 (d8 fu).erase rs8 := bodyD_mk Try.func8 (by kernel_rfl) (by kernel_rfl) (by kernel_rfl) (by kernel_rfl)
theorem g8 (fu : Nat) : (e8 fu).Good Try.prog := good_by orders (b8 fu) (l := [e9 fu, e12 fu, e12 fu, e15 fu]) (by kernel_rfl) ⟨g9 fu, g12 fu, g12 fu, g15 fu, trivial⟩ (by kernel_rfl) (v8 fu)
end Go.Proofs.Ytggbfmjcceblkaa
