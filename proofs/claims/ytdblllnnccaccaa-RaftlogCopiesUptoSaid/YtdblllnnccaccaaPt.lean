/-
  The functions, typed.
-/
import Derived.Test.YtdblllnnccaccaaDaL
import Derived.Test.YtdblllnnccaccaaRows
namespace Go.Proofs.Ytdblllnnccaccaa
open Go.RowKit
abbrev T_runtime_errorAddressString : Tp := (.pair .str (.int .u64))
abbrev D_runtime_errorAddressString := (ByteArray) × (Int)
abbrev T_api_Conf : Tp := (.pair (.sl (.int .i64)) (.sl (.int .i64)))
abbrev D_api_Conf := (List (Int)) × (List (Int))
abbrev T_runtime_boundsError : Tp := (.pair (.int .i64) (.pair (.int .i64) (.pair .bool (.int .u8))))
abbrev D_runtime_boundsError := (Int) × ((Int) × ((Bool) × (Int)))
abbrev T_api_Snap : Tp := (.pair (.int .u64) (.pair (.int .u64) (.pair T_api_Conf (.sl (.int .u8)))))
abbrev D_api_Snap := (Int) × ((Int) × ((D_api_Conf) × (List (Int))))
abbrev T_api_Entry : Tp := (.pair (.int .u64) (.pair (.int .u64) (.pair (.int .i64) (.pair (.sl (.int .u8)) T_api_Conf))))
abbrev D_api_Entry := (Int) × ((Int) × ((Int) × ((List (Int)) × (D_api_Conf))))
abbrev T_api_Log : Tp := (.pair T_api_Snap (.sl T_api_Entry))
abbrev D_api_Log := (D_api_Snap) × (List (D_api_Entry))
abbrev T_gazettelaw06_Given : Tp := (.pair T_api_Log (.pair (.int .u64) (.pair (.int .u64) (.pair (.int .u64) (.sl T_api_Entry)))))
abbrev D_gazettelaw06_Given := (D_api_Log) × ((Int) × ((Int) × ((Int) × (List (D_api_Entry)))))
theorem orders : Try.prog.follows .mixedOrders = true := by kernel_rfl
def rs25 : List RVx := [(.cell 0 true 6)]
/-- gazette/gazettelaw06.some -/
def p25 (fu : Nat) : Unit → Option ((Unit) × ((Int) × ((Int) × ((List (Int)) × ((List (Int)) × ((List (Int)) × ((List (D_api_Entry)) × (Unit)))))))) := fun _ =>
  some ((), ((2 : Int), (1 : Int), [], [], [], [((3 : Int), (1 : Int), (2 : Int), [], [], []), ((4 : Int), (2 : Int), (2 : Int), [], [], [])], ()))
def e25 (fu : Nat) : Ent := ⟨25, .nil, .nil, (.agg 6 (.cons (.hole (.int .u64)) (.cons (.hole (.int .u64)) (.cons (.hole (.sl (.int .i64))) (.cons (.hole (.sl (.int .i64))) (.cons (.hole (.sl (.int .u8))) (.cons (.own .own 51 T_api_Entry) .nil))))))), p25 fu⟩
def d25 (fu : Nat) : DC := (.seq (.region [(⟨(some 0), none, (.alloc 31 6 [(.int .u64 0), (.int .u64 0), (.slice none 0 0), (.slice none 0 0), (.slice none 0 0), (.slice none 0 0)])⟩, .none)] [[]] false) (.seq (.region [(⟨(some 1), none, (.build 5 [(.int .u64 0), (.int .u64 0), (.slice none 0 0), (.slice none 0 0), (.slice none 0 0)] [(0, (1, (.const (.int .u64 2)))), (1, (1, (.const (.int .u64 1))))])⟩, .none), (⟨(some 2), none, (.build 6 [(.int .u64 0), (.int .u64 0), (.int .i64 0), (.slice none 0 0), (.slice none 0 0), (.slice none 0 0)] [(0, (1, (.const (.int .u64 3)))), (1, (1, (.const (.int .u64 1)))), (2, (1, (.const (.int .i64 2))))])⟩, .none), (⟨(some 3), none, (.build 6 [(.int .u64 0), (.int .u64 0), (.int .i64 0), (.slice none 0 0), (.slice none 0 0), (.slice none 0 0)] [(0, (1, (.const (.int .u64 4)))), (1, (1, (.const (.int .u64 2)))), (2, (1, (.const (.int .i64 2))))])⟩, .none), (⟨(some 4), none, (.bslice 51 6 2 [(.int .u64 0), (.int .u64 0), (.int .i64 0), (.slice none 0 0), (.slice none 0 0), (.slice none 0 0)] [(0, (.tmp 2)), (1, (.tmp 3))])⟩, (.ty T_api_Entry)), (⟨(some 5), none, (.build 6 [(.int .u64 0), (.int .u64 0), (.slice none 0 0), (.slice none 0 0), (.slice none 0 0), (.slice none 0 0)] [(0, (5, (.tmp 1))), (5, (1, (.tmp 4)))])⟩, .none), (⟨none, none, (.store 6 (.tmp 0) (.tmp 5))⟩, .none)] [[], [], [], [1, 2], [0, 3], [4, 0, 1, 2, 3, 4]] false) .ret))
set_option maxRecDepth 1000000 in
theorem v25 (fu : Nat) : evF fu (d25 fu) rs25 6 (e25 fu).ash (e25 fu).osh (e25 fu).vsh = p25 fu := by kernel_rfl
set_option maxRecDepth 1000000 in
theorem b25 (fu : Nat) : BodyD Try.prog 25 6 (d25 fu).erase rs25 := bodyD_mk Try.func25 (by kernel_rfl) (by kernel_rfl) (by kernel_rfl) (by kernel_rfl)
theorem g25 (fu : Nat) : (e25 fu).Good Try.prog := good_by orders (b25 fu) (l := []) (by kernel_rfl) trivial (by kernel_rfl) (v25 fu)
def rs22 : List RVx := [(.tmp 2), (.tmp 3)]
/-- gazette/raftlog.Last -/
def p22 (fu : Nat) : ((Int) × ((Int) × ((List (Int)) × ((List (Int)) × ((List (Int)) × ((List (D_api_Entry)) × (Unit))))))) × (Unit) → Option ((Unit) × ((Int) × ((Int) × (Unit)))) := fun ⟨⟨a0, a1, a2, a3, a4, a5, _⟩, _⟩ =>
  bif decide ((List.length a5 : Int) > (0 : Int)) then
   bif decide ((0 : Int) ≤ IntKind.wrap .i64 ((List.length a5 : Int) - (1 : Int)) ∧ IntKind.wrap .i64 ((List.length a5 : Int) - (1 : Int)) < (List.length a5 : Int)) then
    bif decide (Int.toNat (IntKind.wrap .i64 ((List.length a5 : Int) - (1 : Int))) < List.length a5) then
     bif decide ((0 : Int) ≤ IntKind.wrap .i64 ((List.length a5 : Int) - (1 : Int)) ∧ IntKind.wrap .i64 ((List.length a5 : Int) - (1 : Int)) < (List.length a5 : Int)) then
      bif decide (Int.toNat (IntKind.wrap .i64 ((List.length a5 : Int) - (1 : Int))) < List.length a5) then
       some ((), ((List.getD a5 (Int.toNat (IntKind.wrap .i64 ((List.length a5 : Int) - (1 : Int)))) (dflt T_api_Entry)).1, ((List.getD a5 (Int.toNat (IntKind.wrap .i64 ((List.length a5 : Int) - (1 : Int)))) (dflt T_api_Entry)).2).1, ()))
      else none
     else none
    else none
   else none
  else
   some ((), (a0, a1, ()))
def e22 (fu : Nat) : Ent := ⟨22, (.cons (.agg 6 (.cons (.hole (.int .u64)) (.cons (.hole (.int .u64)) (.cons (.hole (.sl (.int .i64))) (.cons (.hole (.sl (.int .i64))) (.cons (.hole (.sl (.int .u8))) (.cons (.hole (.sl T_api_Entry)) .nil))))))) .nil), .nil, (.tup 2 (.cons (.hole (.int .u64)) (.cons (.hole (.int .u64)) .nil))), p22 fu⟩
def d22 (fu : Nat) : DC := (.seq (.region [(⟨(some 1), none, (.box 31 6 (.tmp 0))⟩, .none), (⟨(some 2), none, (.mov (.const (.int .u64 0)))⟩, .none), (⟨(some 3), none, (.mov (.const (.int .u64 0)))⟩, .none)] [[], [], [1]] false) (.seq (.seq (.region [(⟨(some 5), none, (.faddr 5 (.tmp 1))⟩, .none), (⟨(some 6), none, (.load false 1 (.tmp 5))⟩, .none), (⟨(some 7), none, (.len false (.tmp 6))⟩, .none), (⟨(some 4), none, (.mov (.tmp 7))⟩, .none)] [[], [0], [1], [2, 0, 1, 2]] false) (.seq (.region [(⟨(some 8), none, (.mov (.tmp 4))⟩, .none), (⟨(some 9), none, (.bin .gtr (.tmp 8) (.const (.int .i64 0)))⟩, .none)] [[], [0]] false) (.cond (.tmp 9) (.seq (.region [(⟨(some 10), none, (.faddr 5 (.tmp 1))⟩, .none), (⟨(some 11), none, (.load false 1 (.tmp 10))⟩, .none), (⟨(some 12), none, (.mov (.tmp 4))⟩, .none), (⟨(some 13), none, (.bin .sub (.tmp 12) (.const (.int .i64 1)))⟩, .none), (⟨(some 14), none, (.iaddr 6 (.tmp 11) (.tmp 13))⟩, .none), (⟨(some 15), none, (.faddr 0 (.tmp 14))⟩, .none), (⟨(some 16), none, (.load false 1 (.tmp 15))⟩, .none), (⟨(some 17), none, (.faddr 5 (.tmp 1))⟩, .none), (⟨(some 18), none, (.load false 1 (.tmp 17))⟩, .none), (⟨(some 19), none, (.mov (.tmp 4))⟩, .none), (⟨(some 20), none, (.bin .sub (.tmp 19) (.const (.int .i64 1)))⟩, .none), (⟨(some 21), none, (.iaddr 6 (.tmp 18) (.tmp 20))⟩, .none), (⟨(some 22), none, (.faddr 1 (.tmp 21))⟩, .none), (⟨(some 23), none, (.load false 1 (.tmp 22))⟩, .none), (⟨(some 2), none, (.mov (.tmp 16))⟩, .none), (⟨(some 3), none, (.mov (.tmp 23))⟩, .none)] [[], [0], [], [2], [1, 3], [4], [5], [], [7], [], [9], [8, 10], [11], [12], [6, 0, 1, 2, 3, 4, 5, 6], [13, 14, 0, 1, 2, 3, 4, 5, 6, 7, 8, 9, 10, 11, 12, 13, 14]] true) .ret) .skip))) (.seq (.region [(⟨(some 24), none, (.faddr 0 (.tmp 1))⟩, .none), (⟨(some 25), none, (.faddr 0 (.tmp 24))⟩, .none), (⟨(some 26), none, (.load false 1 (.tmp 25))⟩, .none), (⟨(some 27), none, (.faddr 0 (.tmp 1))⟩, .none), (⟨(some 28), none, (.faddr 1 (.tmp 27))⟩, .none), (⟨(some 29), none, (.load false 1 (.tmp 28))⟩, .none), (⟨(some 2), none, (.mov (.tmp 26))⟩, .none), (⟨(some 3), none, (.mov (.tmp 29))⟩, .none)] [[], [0], [1], [], [3], [4], [2, 0, 1, 2], [5, 6, 0, 1, 2, 3, 4, 5, 6]] true) .ret)))
set_option maxRecDepth 1000000 in
theorem v22 (fu : Nat) : evF fu (d22 fu) rs22 30 (e22 fu).ash (e22 fu).osh (e22 fu).vsh = p22 fu := by kernel_rfl
set_option maxRecDepth 1000000 in
theorem b22 (fu : Nat) : BodyD Try.prog 22 30 (d22 fu).erase rs22 := bodyD_mk Try.func22 (by kernel_rfl) (by kernel_rfl) (by kernel_rfl) (by kernel_rfl)
theorem g22 (fu : Nat) : (e22 fu).Good Try.prog := good_by orders (b22 fu) (l := []) (by kernel_rfl) trivial (by kernel_rfl) (v22 fu)
def rs49 : List RVx := [(.tmp 4)]
/-- gazette/raftlog.place$1 -/
def p49 (fu : Nat) : (Int) × (((Int) × ((Int) × ((List (Int)) × ((List (Int)) × ((List (Int)) × ((List (D_api_Entry)) × (Unit))))))) × (((Int) × (Unit)) × (Unit))) → Option ((((Int) × ((Int) × ((List (Int)) × ((List (Int)) × ((List (Int)) × ((List (D_api_Entry)) × (Unit))))))) × (((Int) × (Unit)) × (Unit))) × (Bool)) := fun ⟨a0, ⟨a1, a2, a3, a4, a5, a6, _⟩, ⟨a7, _⟩, _⟩ =>
  bif decide ((0 : Int) ≤ a0 ∧ a0 < (List.length a6 : Int)) then
   bif decide (Int.toNat a0 < List.length a6) then
    some (((a1, a2, a3, a4, a5, a6, ()), (a7, ()), ()), decide (((List.getD a6 (Int.toNat a0) (dflt T_api_Entry)).1) ≥ a7))
   else none
  else none
def e49 (fu : Nat) : Ent := ⟨49, (.cons (.hole (.int .i64)) (.cons (.box 31 6 (.cons (.hole (.int .u64)) (.cons (.hole (.int .u64)) (.cons (.hole (.sl (.int .i64))) (.cons (.hole (.sl (.int .i64))) (.cons (.hole (.sl (.int .u8))) (.cons (.hole (.sl T_api_Entry)) .nil))))))) (.cons (.box 22 1 (.cons (.hole (.int .u64)) .nil)) .nil))), (.cons (.agg 6 (.cons (.hole (.int .u64)) (.cons (.hole (.int .u64)) (.cons (.hole (.sl (.int .i64))) (.cons (.hole (.sl (.int .i64))) (.cons (.hole (.sl (.int .u8))) (.cons (.hole (.sl T_api_Entry)) .nil))))))) (.cons (.agg 1 (.cons (.hole (.int .u64)) .nil)) .nil)), (.hole .bool), p49 fu⟩
def d49 (fu : Nat) : DC := (.seq (.region [(⟨(some 4), none, (.mov (.const (.bool false)))⟩, .none)] [[]] false) (.seq (.region [(⟨(some 5), none, (.faddr 5 (.tmp 1))⟩, .none), (⟨(some 6), none, (.load false 1 (.tmp 5))⟩, .none), (⟨(some 7), none, (.mov (.tmp 0))⟩, .none), (⟨(some 8), none, (.iaddr 6 (.tmp 6) (.tmp 7))⟩, .none), (⟨(some 9), none, (.faddr 0 (.tmp 8))⟩, .none), (⟨(some 10), none, (.load false 1 (.tmp 9))⟩, .none), (⟨(some 11), none, (.load false 1 (.tmp 2))⟩, .none), (⟨(some 12), none, (.bin .geq (.tmp 10) (.tmp 11))⟩, .none), (⟨(some 4), none, (.mov (.tmp 12))⟩, .none)] [[], [0], [], [1, 2], [3], [4], [], [5, 6], [7, 0, 1, 2, 3, 4, 5, 6, 7]] true) .ret))
set_option maxRecDepth 1000000 in
theorem v49 (fu : Nat) : evF fu (d49 fu) rs49 13 (e49 fu).ash (e49 fu).osh (e49 fu).vsh = p49 fu := by kernel_rfl
set_option maxRecDepth 1000000 in
theorem b49 (fu : Nat) : BodyD Try.prog 49 13 (d49 fu).erase rs49 := bodyD_mk Try.func49 (by kernel_rfl) (by kernel_rfl) (by kernel_rfl) (by kernel_rfl)
theorem g49 (fu : Nat) : (e49 fu).Good Try.prog := good_by orders (b49 fu) (l := []) (by kernel_rfl) trivial (by kernel_rfl) (v49 fu)
def rs48 : List RVx := [(.tmp 4)]
/-- sort.Search -/
def p48 (fu : Nat) : (Int) × (((Unit) × (((Int) × ((Int) × ((List (Int)) × ((List (Int)) × ((List (Int)) × ((List (D_api_Entry)) × (Unit))))))) × (((Int) × (Unit)) × (Unit)))) × (Unit)) → Option ((((Int) × ((Int) × ((List (Int)) × ((List (Int)) × ((List (Int)) × ((List (D_api_Entry)) × (Unit))))))) × (((Int) × (Unit)) × (Unit))) × (Int)) := fun ⟨a0, ⟨_, ⟨⟨a1, a2, a3, a4, a5, a6, _⟩, ⟨a7, _⟩, _⟩⟩, _⟩ =>
  loopO (S := ((Int) × ((Int) × (Unit))) × (((Int) × ((Int) × ((List (Int)) × ((List (Int)) × ((List (Int)) × ((List (D_api_Entry)) × (Unit))))))) × (((Int) × (Unit)) × (Unit)))) fu (fun ⟨⟨v5, v6, _⟩, ⟨⟨v1000, v1000_1, v1000_2, v1000_3, v1000_4, v1000_5, _⟩, ⟨v1001, _⟩, _⟩⟩ =>
    bif decide (v5 < v6) then
     Option.bind (p49 fu (IntKind.wrap .i64 (Int.fdiv (IntKind.wrap .u64 (IntKind.wrap .i64 (v5 + v6))) (2 ^ (min (Int.toNat (1 : Int)) (IntKind.bits .u64)))), (v1000, v1000_1, v1000_2, v1000_3, v1000_4, v1000_5, ()), (v1001, ()), ())) fun ⟨⟨⟨r7, r7_1, r7_2, r7_3, r7_4, r7_5, _⟩, ⟨r7_6, _⟩, _⟩, r7_7⟩ =>
     bif !r7_7 then
      some (.inl ((IntKind.wrap .i64 ((IntKind.wrap .i64 (Int.fdiv (IntKind.wrap .u64 (IntKind.wrap .i64 (v5 + v6))) (2 ^ (min (Int.toNat (1 : Int)) (IntKind.bits .u64))))) + (1 : Int)), v6, ()), ((r7, r7_1, r7_2, r7_3, r7_4, r7_5, ()), (r7_6, ()), ())))
     else
      some (.inl ((v5, IntKind.wrap .i64 (Int.fdiv (IntKind.wrap .u64 (IntKind.wrap .i64 (v5 + v6))) (2 ^ (min (Int.toNat (1 : Int)) (IntKind.bits .u64)))), ()), ((r7, r7_1, r7_2, r7_3, r7_4, r7_5, ()), (r7_6, ()), ())))
    else
     inrO (some (((v1000, v1000_1, v1000_2, v1000_3, v1000_4, v1000_5, ()), (v1001, ()), ()), v5)))
   (((0 : Int), a0, ()), ((a1, a2, a3, a4, a5, a6, ()), (a7, ()), ()))
def e48 (fu : Nat) : Ent := ⟨48, (.cons (.hole (.int .i64)) (.cons (.clo 49 0 .nil 2 (.cons (.box 31 6 (.cons (.hole (.int .u64)) (.cons (.hole (.int .u64)) (.cons (.hole (.sl (.int .i64))) (.cons (.hole (.sl (.int .i64))) (.cons (.hole (.sl (.int .u8))) (.cons (.hole (.sl T_api_Entry)) .nil))))))) (.cons (.box 22 1 (.cons (.hole (.int .u64)) .nil)) .nil))) .nil)), (.cons (.agg 6 (.cons (.hole (.int .u64)) (.cons (.hole (.int .u64)) (.cons (.hole (.sl (.int .i64))) (.cons (.hole (.sl (.int .i64))) (.cons (.hole (.sl (.int .u8))) (.cons (.hole (.sl T_api_Entry)) .nil))))))) (.cons (.agg 1 (.cons (.hole (.int .u64)) .nil)) .nil)), (.hole (.int .i64)), p48 fu⟩
def d48 (fu : Nat) : DC := (.seq (.region [(⟨(some 4), none, (.mov (.const (.int .i64 0)))⟩, .none)] [[]] false) (.seq (.region [(⟨(some 8), none, (.mov (.tmp 0))⟩, .none), (⟨(some 5), none, (.mov (.const (.int .i64 0)))⟩, .none), (⟨(some 6), none, (.mov (.tmp 8))⟩, .none)] [[], [], [0, 1, 0, 1]] false) (.seq (.block 0 (.loop ⟨[5, 6], (.cons (.hole (.int .i64)) (.cons (.hole (.int .i64)) .nil)), [(0, 31, 6), (1, 22, 1)], (.cons (.agg 6 (.cons (.hole (.int .u64)) (.cons (.hole (.int .u64)) (.cons (.hole (.sl (.int .i64))) (.cons (.hole (.sl (.int .i64))) (.cons (.hole (.sl (.int .u8))) (.cons (.hole (.sl T_api_Entry)) .nil))))))) (.cons (.agg 1 (.cons (.hole (.int .u64)) .nil)) .nil)), [1], []⟩
 (.seq (.seq (.region [(⟨(some 9), none, (.mov (.tmp 5))⟩, .none), (⟨(some 10), none, (.mov (.tmp 6))⟩, .none), (⟨(some 11), none, (.bin .lss (.tmp 9) (.tmp 10))⟩, .none)] [[], [], [0, 1]] false) (.cond (.tmp 11) .skip (.exit 0))) (.block 1 (.seq (.region [(⟨(some 12), none, (.mov (.tmp 5))⟩, .none), (⟨(some 13), none, (.mov (.tmp 6))⟩, .none), (⟨(some 14), none, (.bin .add (.tmp 12) (.tmp 13))⟩, .none), (⟨(some 15), none, (.conv .u64 (.tmp 14))⟩, .none), (⟨(some 16), none, (.bin .shr (.tmp 15) (.const (.int .u64 1)))⟩, .none), (⟨(some 17), none, (.conv .i64 (.tmp 16))⟩, .none), (⟨(some 7), none, (.mov (.tmp 17))⟩, .none)] [[], [], [0, 1], [2], [3], [4], [5, 0, 1, 2, 3, 4, 5]] false) (.seq (.region [(⟨(some 18), none, (.mov (.tmp 1))⟩, .none), (⟨(some 19), none, (.mov (.tmp 7))⟩, .none), (⟨(some 20), none, (.callv (.tmp 18) [(.tmp 19)])⟩, (.ent (e49 fu))), (⟨(some 21), none, (.not (.tmp 20))⟩, .none)] [[], [], [0, 1], [2]] false) (.cond (.tmp 21) (.region [(⟨(some 22), none, (.mov (.tmp 7))⟩, .none), (⟨(some 23), none, (.bin .add (.tmp 22) (.const (.int .i64 1)))⟩, .none), (⟨(some 5), none, (.mov (.tmp 23))⟩, .none)] [[], [0], [1, 0, 1]] false) (.region [(⟨(some 24), none, (.mov (.tmp 7))⟩, .none), (⟨(some 6), none, (.mov (.tmp 24))⟩, .none)] [[], [0, 0]] false)))))))) (.seq (.region [(⟨(some 25), none, (.mov (.tmp 5))⟩, .none), (⟨(some 4), none, (.mov (.tmp 25))⟩, .none)] [[], [0, 0]] false) .ret))))
set_option maxRecDepth 1000000 in
theorem v48 (fu : Nat) : evF fu (d48 fu) rs48 26 (e48 fu).ash (e48 fu).osh (e48 fu).vsh = p48 fu := by kernel_rfl
set_option maxRecDepth 1000000 in
theorem b48 (fu : Nat) : BodyD Try.prog 48 26 (d48 fu).erase rs48 := bodyD_mk Try.func48 (by kernel_rfl) (by kernel_rfl) (by kernel_rfl) (by kernel_rfl)
theorem g48 (fu : Nat) : (e48 fu).Good Try.prog := good_by orders (b48 fu) (l := [e49 fu]) (by kernel_rfl) ⟨g49 fu, trivial⟩ (by kernel_rfl) (v48 fu)
def rs29 : List RVx := [(.tmp 4)]
/-- gazette/raftlog.place -/
def p29 (fu : Nat) : ((Int) × ((Int) × ((List (Int)) × ((List (Int)) × ((List (Int)) × ((List (D_api_Entry)) × (Unit))))))) × ((Int) × (Unit)) → Option ((Unit) × (Int)) := fun ⟨⟨a0, a1, a2, a3, a4, a5, _⟩, a6, _⟩ =>
  Option.bind (p48 fu ((List.length a5 : Int), ((), ((a0, a1, a2, a3, a4, a5, ()), (a6, ()), ())), ())) fun ⟨⟨⟨r9, r9_1, r9_2, r9_3, r9_4, r9_5, _⟩, ⟨r9_6, _⟩, _⟩, r9_7⟩ =>
  some ((), r9_7)
def e29 (fu : Nat) : Ent := ⟨29, (.cons (.agg 6 (.cons (.hole (.int .u64)) (.cons (.hole (.int .u64)) (.cons (.hole (.sl (.int .i64))) (.cons (.hole (.sl (.int .i64))) (.cons (.hole (.sl (.int .u8))) (.cons (.hole (.sl T_api_Entry)) .nil))))))) (.cons (.hole (.int .u64)) .nil)), .nil, (.hole (.int .i64)), p29 fu⟩
def d29 (fu : Nat) : DC := (.seq (.region [(⟨(some 2), none, (.box 31 6 (.tmp 0))⟩, .none), (⟨(some 3), none, (.box 22 1 (.tmp 1))⟩, .none), (⟨(some 4), none, (.mov (.const (.int .i64 0)))⟩, .none)] [[], [], []] false) (.seq (.region [(⟨(some 5), none, (.faddr 5 (.tmp 2))⟩, .none), (⟨(some 6), none, (.load false 1 (.tmp 5))⟩, .none), (⟨(some 7), none, (.len false (.tmp 6))⟩, .none), (⟨(some 8), none, (.fn 49 [] [(.tmp 2), (.tmp 3)])⟩, .none), (⟨(some 9), none, (.call 48 [(.tmp 7), (.tmp 8)])⟩, (.ent (e48 fu))), (⟨(some 4), none, (.mov (.tmp 9))⟩, .none)] [[], [0], [1], [], [2, 3], [4, 4, 0, 1, 2, 3, 4]] false) .ret))
set_option maxRecDepth 1000000 in
theorem v29 (fu : Nat) : evF fu (d29 fu) rs29 10 (e29 fu).ash (e29 fu).osh (e29 fu).vsh = p29 fu := by kernel_rfl
set_option maxRecDepth 1000000 in
theorem b29 (fu : Nat) : BodyD Try.prog 29 10 (d29 fu).erase rs29 := bodyD_mk Try.func29 (by kernel_rfl) (by kernel_rfl) (by kernel_rfl) (by kernel_rfl)
theorem g29 (fu : Nat) : (e29 fu).Good Try.prog := good_by orders (b29 fu) (l := [e48 fu]) (by kernel_rfl) ⟨g48 fu, trivial⟩ (by kernel_rfl) (v29 fu)
def rs21 : List RVx := [(.tmp 4), (.tmp 5)]
/-- gazette/raftlog.Term -/
def p21 (fu : Nat) : ((Int) × ((Int) × ((List (Int)) × ((List (Int)) × ((List (Int)) × ((List (D_api_Entry)) × (Unit))))))) × ((Int) × (Unit)) → Option ((Unit) × ((Int) × ((Bool) × (Unit)))) := fun ⟨⟨a0, a1, a2, a3, a4, a5, _⟩, a6, _⟩ =>
  bif (a6 == a0) then
   some ((), (a1, true, ()))
  else
   Option.bind (p29 fu ((a0, a1, a2, a3, a4, a5, ()), a6, ())) fun ⟨_, r11⟩ =>
   orK (E := ((Bool) × (Unit)) × (Unit))
    (bif decide (r11 < (List.length a5 : Int)) then
      bif decide ((0 : Int) ≤ r11 ∧ r11 < (List.length a5 : Int)) then
       bif decide (Int.toNat r11 < List.length a5) then
        some (.inl (((((List.getD a5 (Int.toNat r11) (dflt T_api_Entry)).1) == a6), ()), ()))
       else none
      else none
     else
      some (.inl ((false, ()), ())))
    fun ⟨⟨v32, _⟩, _⟩ =>
   bif v32 then
    bif decide ((0 : Int) ≤ r11 ∧ r11 < (List.length a5 : Int)) then
     bif decide (Int.toNat r11 < List.length a5) then
      some ((), (((List.getD a5 (Int.toNat r11) (dflt T_api_Entry)).2).1, true, ()))
     else none
    else none
   else
    some ((), ((0 : Int), false, ()))
def e21 (fu : Nat) : Ent := ⟨21, (.cons (.agg 6 (.cons (.hole (.int .u64)) (.cons (.hole (.int .u64)) (.cons (.hole (.sl (.int .i64))) (.cons (.hole (.sl (.int .i64))) (.cons (.hole (.sl (.int .u8))) (.cons (.hole (.sl T_api_Entry)) .nil))))))) (.cons (.hole (.int .u64)) .nil)), .nil, (.tup 2 (.cons (.hole (.int .u64)) (.cons (.hole .bool) .nil))), p21 fu⟩
def d21 (fu : Nat) : DC := (.seq (.region [(⟨(some 2), none, (.box 31 6 (.tmp 0))⟩, .none), (⟨(some 4), none, (.mov (.const (.int .u64 0)))⟩, .none), (⟨(some 5), none, (.mov (.const (.bool false)))⟩, .none)] [[], [], [1]] false) (.seq (.seq (.region [(⟨(some 7), none, (.mov (.tmp 1))⟩, .none), (⟨(some 8), none, (.faddr 0 (.tmp 2))⟩, .none), (⟨(some 9), none, (.faddr 0 (.tmp 8))⟩, .none), (⟨(some 10), none, (.load false 1 (.tmp 9))⟩, .none), (⟨(some 11), none, (.bin .eql (.tmp 7) (.tmp 10))⟩, .none)] [[], [], [1], [2], [0, 3]] false) (.cond (.tmp 11) (.seq (.region [(⟨(some 12), none, (.faddr 0 (.tmp 2))⟩, .none), (⟨(some 13), none, (.faddr 1 (.tmp 12))⟩, .none), (⟨(some 14), none, (.load false 1 (.tmp 13))⟩, .none), (⟨(some 4), none, (.mov (.tmp 14))⟩, .none), (⟨(some 5), none, (.mov (.const (.bool true)))⟩, .none)] [[], [0], [1], [2, 0, 1, 2], [3, 0, 1, 2, 3]] false) .ret) .skip)) (.seq (.seq (.region [(⟨(some 15), none, (.load true 6 (.tmp 2))⟩, .none), (⟨(some 16), none, (.mov (.tmp 1))⟩, .none), (⟨(some 17), none, (.call 29 [(.tmp 15), (.tmp 16)])⟩, (.ent (e29 fu))), (⟨(some 6), none, (.mov (.tmp 17))⟩, .none)] [[], [], [0, 1], [2, 2, 0, 1, 2]] false) (.join ⟨[32], (.cons (.hole .bool) .nil), [], .nil, [2, 6], [0]⟩
 (.region [(⟨(some 18), none, (.mov (.tmp 6))⟩, .none), (⟨(some 19), none, (.faddr 5 (.tmp 2))⟩, .none), (⟨(some 20), none, (.load false 1 (.tmp 19))⟩, .none), (⟨(some 21), none, (.len false (.tmp 20))⟩, .none), (⟨(some 22), none, (.bin .lss (.tmp 18) (.tmp 21))⟩, .none), (⟨(some 23), none, (.mov (.tmp 22))⟩, .none), (⟨(some 24), (some (23, true)), (.faddr 5 (.tmp 2))⟩, .none), (⟨(some 25), (some (23, true)), (.load false 1 (.tmp 24))⟩, .none), (⟨(some 26), (some (23, true)), (.mov (.tmp 6))⟩, .none), (⟨(some 27), (some (23, true)), (.iaddr 6 (.tmp 25) (.tmp 26))⟩, .none), (⟨(some 28), (some (23, true)), (.faddr 0 (.tmp 27))⟩, .none), (⟨(some 29), (some (23, true)), (.load false 1 (.tmp 28))⟩, .none), (⟨(some 30), (some (23, true)), (.mov (.tmp 1))⟩, .none), (⟨(some 31), (some (23, true)), (.bin .eql (.tmp 29) (.tmp 30))⟩, .none), (⟨(some 32), none, (.pick (.tmp 23) (.tmp 31) (.const (.bool false)))⟩, .none)] [[], [], [1], [2], [0, 3], [4], [5], [6, 5], [5], [7, 8, 5], [9, 5], [10, 5], [5], [11, 12, 5], [5, 13]] false)
 (.cond (.tmp 32) (.seq (.region [(⟨(some 33), none, (.faddr 5 (.tmp 2))⟩, .none), (⟨(some 34), none, (.load false 1 (.tmp 33))⟩, .none), (⟨(some 35), none, (.mov (.tmp 6))⟩, .none), (⟨(some 36), none, (.iaddr 6 (.tmp 34) (.tmp 35))⟩, .none), (⟨(some 37), none, (.faddr 1 (.tmp 36))⟩, .none), (⟨(some 38), none, (.load false 1 (.tmp 37))⟩, .none), (⟨(some 4), none, (.mov (.tmp 38))⟩, .none), (⟨(some 5), none, (.mov (.const (.bool true)))⟩, .none)] [[], [0], [], [1, 2], [3], [4], [5, 0, 1, 2, 3, 4, 5], [6, 0, 1, 2, 3, 4, 5, 6]] false) .ret) .skip))) (.seq (.region [(⟨(some 4), none, (.mov (.const (.int .u64 0)))⟩, .none), (⟨(some 5), none, (.mov (.const (.bool false)))⟩, .none)] [[], [0, 0]] false) .ret))))
set_option maxRecDepth 1000000 in
theorem v21 (fu : Nat) : evF fu (d21 fu) rs21 39 (e21 fu).ash (e21 fu).osh (e21 fu).vsh = p21 fu := by kernel_rfl
set_option maxRecDepth 1000000 in
theorem b21 (fu : Nat) : BodyD Try.prog 21 39 (d21 fu).erase rs21 := bodyD_mk Try.func21 (by kernel_rfl) (by kernel_rfl) (by kernel_rfl) (by kernel_rfl)
theorem g21 (fu : Nat) : (e21 fu).Good Try.prog := good_by orders (b21 fu) (l := [e29 fu]) (by kernel_rfl) ⟨g29 fu, trivial⟩ (by kernel_rfl) (v21 fu)
def rs55 : List RVx := [(.tmp 2)]
/-- gazette/raftlog.isEntry -/
def p55 (fu : Nat) : ((Int) × ((Int) × ((Int) × ((List (Int)) × ((List (Int)) × ((List (Int)) × (Unit))))))) × (Unit) → Option ((Unit) × (Bool)) := fun ⟨⟨a0, a1, a2, a3, a4, a5, _⟩, _⟩ =>
  bif (a2 == (2 : Int)) then
   some ((), ((IntKind.wrap .i64 ((List.length a4 : Int) + (List.length a5 : Int))) == (0 : Int)))
  else
   bif (a2 == (1 : Int)) then
    some ((), ((IntKind.wrap .i64 ((IntKind.wrap .i64 ((List.length a3 : Int) + (List.length a4 : Int))) + (List.length a5 : Int))) == (0 : Int)))
   else
    bif (a2 == (3 : Int)) then
     some ((), ((List.length a3 : Int) == (0 : Int)))
    else
     some ((), false)
def e55 (fu : Nat) : Ent := ⟨55, (.cons (.agg 6 (.cons (.hole (.int .u64)) (.cons (.hole (.int .u64)) (.cons (.hole (.int .i64)) (.cons (.hole (.sl (.int .u8))) (.cons (.hole (.sl (.int .i64))) (.cons (.hole (.sl (.int .i64))) .nil))))))) .nil), .nil, (.hole .bool), p55 fu⟩
def d55 (fu : Nat) : DC := (.seq (.region [(⟨(some 1), none, (.box 51 6 (.tmp 0))⟩, .none), (⟨(some 2), none, (.mov (.const (.bool false)))⟩, .none)] [[], []] false) (.seq (.seq (.region [(⟨(some 3), none, (.faddr 2 (.tmp 1))⟩, .none), (⟨(some 4), none, (.load false 1 (.tmp 3))⟩, .none)] [[], [0]] false) (.block 0 (.seq (.region [(⟨(some 6), none, (.bin .eql (.tmp 4) (.const (.int .i64 2)))⟩, .none), (⟨(some 5), none, (.mov (.tmp 6))⟩, .none)] [[], [0]] false) (.cond (.tmp 5) (.seq (.region [(⟨(some 7), none, (.faddr 4 (.tmp 1))⟩, .none), (⟨(some 8), none, (.faddr 0 (.tmp 7))⟩, .none), (⟨(some 9), none, (.load false 1 (.tmp 8))⟩, .none), (⟨(some 10), none, (.len false (.tmp 9))⟩, .none), (⟨(some 11), none, (.faddr 4 (.tmp 1))⟩, .none), (⟨(some 12), none, (.faddr 1 (.tmp 11))⟩, .none), (⟨(some 13), none, (.load false 1 (.tmp 12))⟩, .none), (⟨(some 14), none, (.len false (.tmp 13))⟩, .none), (⟨(some 15), none, (.bin .add (.tmp 10) (.tmp 14))⟩, .none), (⟨(some 16), none, (.bin .eql (.tmp 15) (.const (.int .i64 0)))⟩, .none), (⟨(some 2), none, (.mov (.tmp 16))⟩, .none)] [[], [0], [1], [2], [], [4], [5], [6], [3, 7], [8], [9, 0, 1, 2, 3, 4, 5, 6, 7, 8, 9]] false) .ret) (.seq (.region [(⟨(some 18), none, (.bin .eql (.tmp 4) (.const (.int .i64 1)))⟩, .none), (⟨(some 17), none, (.mov (.tmp 18))⟩, .none)] [[], [0]] false) (.cond (.tmp 17) (.seq (.region [(⟨(some 19), none, (.faddr 3 (.tmp 1))⟩, .none), (⟨(some 20), none, (.load false 1 (.tmp 19))⟩, .none), (⟨(some 21), none, (.len false (.tmp 20))⟩, .none), (⟨(some 22), none, (.faddr 4 (.tmp 1))⟩, .none), (⟨(some 23), none, (.faddr 0 (.tmp 22))⟩, .none), (⟨(some 24), none, (.load false 1 (.tmp 23))⟩, .none), (⟨(some 25), none, (.len false (.tmp 24))⟩, .none), (⟨(some 26), none, (.bin .add (.tmp 21) (.tmp 25))⟩, .none), (⟨(some 27), none, (.faddr 4 (.tmp 1))⟩, .none), (⟨(some 28), none, (.faddr 1 (.tmp 27))⟩, .none), (⟨(some 29), none, (.load false 1 (.tmp 28))⟩, .none), (⟨(some 30), none, (.len false (.tmp 29))⟩, .none), (⟨(some 31), none, (.bin .add (.tmp 26) (.tmp 30))⟩, .none), (⟨(some 32), none, (.bin .eql (.tmp 31) (.const (.int .i64 0)))⟩, .none), (⟨(some 2), none, (.mov (.tmp 32))⟩, .none)] [[], [0], [1], [], [3], [4], [5], [2, 6], [], [8], [9], [10], [7, 11], [12], [13, 0, 1, 2, 3, 4, 5, 6, 7, 8, 9, 10, 11, 12, 13]] false) .ret) (.seq (.region [(⟨(some 34), none, (.bin .eql (.tmp 4) (.const (.int .i64 3)))⟩, .none), (⟨(some 33), none, (.mov (.tmp 34))⟩, .none)] [[], [0]] false) (.cond (.tmp 33) (.seq (.region [(⟨(some 35), none, (.faddr 3 (.tmp 1))⟩, .none), (⟨(some 36), none, (.load false 1 (.tmp 35))⟩, .none), (⟨(some 37), none, (.len false (.tmp 36))⟩, .none), (⟨(some 38), none, (.bin .eql (.tmp 37) (.const (.int .i64 0)))⟩, .none), (⟨(some 2), none, (.mov (.tmp 38))⟩, .none)] [[], [0], [1], [2], [3, 0, 1, 2, 3]] false) .ret) .skip)))))))) (.seq (.region [(⟨(some 2), none, (.mov (.const (.bool false)))⟩, .none)] [[]] false) .ret)))
set_option maxRecDepth 1000000 in
theorem v55 (fu : Nat) : evF fu (d55 fu) rs55 39 (e55 fu).ash (e55 fu).osh (e55 fu).vsh = p55 fu := by kernel_rfl
set_option maxRecDepth 1000000 in
theorem b55 (fu : Nat) : BodyD Try.prog 55 39 (d55 fu).erase rs55 := bodyD_mk Try.func55 (by kernel_rfl) (by kernel_rfl) (by kernel_rfl) (by kernel_rfl)
theorem g55 (fu : Nat) : (e55 fu).Good Try.prog := good_by orders (b55 fu) (l := []) (by kernel_rfl) trivial (by kernel_rfl) (v55 fu)
def rs39 : List RVx := [(.tmp 6)]
/-- gazette/raftlog.follows -/
def p39 (fu : Nat) : (Int) × ((Int) × ((List (D_api_Entry)) × (Unit))) → Option ((Unit) × (Bool)) := fun ⟨a0, a1, a2, _⟩ =>
  bif decide (a0 ≥ (4611686018427387904 : Int)) then
   some ((), false)
  else
   bif decide ((IntKind.wrap .u64 (List.length a2 : Int)) ≥ (IntKind.wrap .u64 ((4611686018427387904 : Int) - a0))) then
    some ((), false)
   else
    loopO (S := ((Int) × ((Int) × ((Int) × (Unit)))) × (Unit)) fu (fun ⟨⟨v0, v1, v21, _⟩, _⟩ =>
      bif decide (v21 < (List.length a2 : Int)) then
       bif decide ((0 : Int) ≤ v21 ∧ v21 < (List.length a2 : Int)) then
        bif decide (Int.toNat v21 < List.length a2) then
         bif (((List.getD a2 (Int.toNat v21) (dflt T_api_Entry)).1) != (IntKind.wrap .u64 (v0 + (1 : Int)))) then
          inrO (some ((), false))
         else
          bif decide ((((List.getD a2 (Int.toNat v21) (dflt T_api_Entry)).2).1) < v1) then
           inrO (some ((), false))
          else
           Option.bind (p55 fu (((List.getD a2 (Int.toNat v21) (dflt T_api_Entry)).1, ((List.getD a2 (Int.toNat v21) (dflt T_api_Entry)).2).1, (((List.getD a2 (Int.toNat v21) (dflt T_api_Entry)).2).2).1, ((((List.getD a2 (Int.toNat v21) (dflt T_api_Entry)).2).2).2).1, (((((List.getD a2 (Int.toNat v21) (dflt T_api_Entry)).2).2).2).2).1, (((((List.getD a2 (Int.toNat v21) (dflt T_api_Entry)).2).2).2).2).2, ()), ())) fun ⟨_, r16⟩ =>
           bif !r16 then
            inrO (some ((), false))
           else
            some (.inl ((IntKind.wrap .u64 (v0 + (1 : Int)), ((List.getD a2 (Int.toNat v21) (dflt T_api_Entry)).2).1, IntKind.wrap .i64 (v21 + (1 : Int)), ()), ()))
        else none
       else none
      else
       inrO (some ((), true)))
     ((a0, a1, (0 : Int), ()), ())
def e39 (fu : Nat) : Ent := ⟨39, (.cons (.hole (.int .u64)) (.cons (.hole (.int .u64)) (.cons (.hole (.sl T_api_Entry)) .nil))), .nil, (.hole .bool), p39 fu⟩
def d39 (fu : Nat) : DC := (.seq (.region [(⟨(some 6), none, (.mov (.const (.bool false)))⟩, .none)] [[]] false) (.seq (.seq (.region [(⟨(some 9), none, (.mov (.tmp 0))⟩, .none), (⟨(some 10), none, (.bin .geq (.tmp 9) (.const (.int .u64 4611686018427387904)))⟩, .none), (⟨(some 11), none, (.mov (.tmp 10))⟩, .none), (⟨(some 12), (some (11, false)), (.mov (.tmp 2))⟩, .none), (⟨(some 13), (some (11, false)), (.len false (.tmp 12))⟩, .none), (⟨(some 14), (some (11, false)), (.conv .u64 (.tmp 13))⟩, .none), (⟨(some 15), (some (11, false)), (.mov (.tmp 0))⟩, .none), (⟨(some 16), (some (11, false)), (.bin .sub (.const (.int .u64 4611686018427387904)) (.tmp 15))⟩, .none), (⟨(some 17), (some (11, false)), (.bin .geq (.tmp 14) (.tmp 16))⟩, .none), (⟨(some 18), none, (.pick (.tmp 11) (.const (.bool true)) (.tmp 17))⟩, .none)] [[], [0], [1], [2], [3, 2], [4, 2], [2], [6, 2], [5, 7, 2], [2, 8]] false) (.cond (.tmp 18) (.seq (.region [(⟨(some 6), none, (.mov (.const (.bool false)))⟩, .none)] [[]] false) .ret) .skip)) (.seq (.seq (.region [(⟨(some 19), none, (.mov (.tmp 2))⟩, .none), (⟨(some 20), none, (.len false (.tmp 19))⟩, .none), (⟨(some 21), none, (.mov (.const (.int .i64 0)))⟩, .none)] [[], [0], []] false) (.block 0 (.loop ⟨[0, 1, 21], (.cons (.hole (.int .u64)) (.cons (.hole (.int .u64)) (.cons (.hole (.int .i64)) .nil))), [], .nil, [19, 20], []⟩
 (.seq (.region [(⟨(some 22), none, (.bin .lss (.tmp 21) (.tmp 20))⟩, .none)] [[]] false) (.seq (.cond (.tmp 22) .skip (.exit 0)) (.seq (.block 1 (.seq (.region [(⟨(some 23), none, (.iaddr 6 (.tmp 19) (.tmp 21))⟩, .none), (⟨(some 24), none, (.load true 6 (.tmp 23))⟩, .none), (⟨(some 8), none, (.alloc 51 6 [(.int .u64 0), (.int .u64 0), (.int .i64 0), (.slice none 0 0), (.slice none 0 0), (.slice none 0 0)])⟩, .none), (⟨none, none, (.store 6 (.tmp 8) (.tmp 24))⟩, .none)] [[], [0], [], [2, 1, 0, 1, 2]] false) (.seq (.region [(⟨(some 25), none, (.mov (.tmp 0))⟩, .none), (⟨(some 26), none, (.bin .add (.tmp 25) (.const (.int .u64 1)))⟩, .none), (⟨(some 0), none, (.mov (.tmp 26))⟩, .none)] [[], [0], [1, 0, 1]] false) (.seq (.seq (.region [(⟨(some 27), none, (.faddr 0 (.tmp 8))⟩, .none), (⟨(some 28), none, (.load false 1 (.tmp 27))⟩, .none), (⟨(some 29), none, (.mov (.tmp 0))⟩, .none), (⟨(some 30), none, (.bin .neq (.tmp 28) (.tmp 29))⟩, .none), (⟨(some 31), none, (.mov (.tmp 30))⟩, .none), (⟨(some 32), (some (31, false)), (.faddr 1 (.tmp 8))⟩, .none), (⟨(some 33), (some (31, false)), (.load false 1 (.tmp 32))⟩, .none), (⟨(some 34), (some (31, false)), (.mov (.tmp 1))⟩, .none), (⟨(some 35), (some (31, false)), (.bin .lss (.tmp 33) (.tmp 34))⟩, .none), (⟨(some 36), none, (.pick (.tmp 31) (.const (.bool true)) (.tmp 35))⟩, .none), (⟨(some 37), none, (.mov (.tmp 36))⟩, .none), (⟨(some 38), (some (37, false)), (.load true 6 (.tmp 8))⟩, .none), (⟨(some 39), (some (37, false)), (.call 55 [(.tmp 38)])⟩, (.ent (e55 fu))), (⟨(some 40), (some (37, false)), (.not (.tmp 39))⟩, .none), (⟨(some 41), none, (.pick (.tmp 37) (.const (.bool true)) (.tmp 40))⟩, .none)] [[], [0], [], [1, 2], [3], [4], [5, 4], [4], [6, 7, 4], [4, 8], [9, 4], [10], [11, 10, 10], [12, 10], [10, 13]] false) (.cond (.tmp 41) (.seq (.region [(⟨(some 6), none, (.mov (.const (.bool false)))⟩, .none)] [[]] false) .ret) .skip)) (.region [(⟨(some 42), none, (.faddr 1 (.tmp 8))⟩, .none), (⟨(some 43), none, (.load false 1 (.tmp 42))⟩, .none), (⟨(some 1), none, (.mov (.tmp 43))⟩, .none)] [[], [0], [1, 0, 1]] false))))) (.region [(⟨(some 44), none, (.bin .add (.tmp 21) (.const (.int .i64 1)))⟩, .none), (⟨(some 21), none, (.mov (.tmp 44))⟩, .none)] [[], [0]] false))))))) (.seq (.region [(⟨(some 6), none, (.mov (.const (.bool true)))⟩, .none)] [[]] false) .ret))))
set_option maxRecDepth 1000000 in
theorem v39 (fu : Nat) : evF fu (d39 fu) rs39 45 (e39 fu).ash (e39 fu).osh (e39 fu).vsh = p39 fu := by kernel_rfl
set_option maxRecDepth 1000000 in
theorem b39 (fu : Nat) : BodyD Try.prog 39 45 (d39 fu).erase rs39 := bodyD_mk Try.func39 (by kernel_rfl) (by kernel_rfl) (by kernel_rfl) (by kernel_rfl)
theorem g39 (fu : Nat) : (e39 fu).Good Try.prog := good_by orders (b39 fu) (l := [e55 fu]) (by kernel_rfl) ⟨g55 fu, trivial⟩ (by kernel_rfl) (v39 fu)
def rs20 : List RVx := [(.tmp 2)]
/-- gazette/raftlog.Check -/
def p20 (fu : Nat) : ((Int) × ((Int) × ((List (Int)) × ((List (Int)) × ((List (Int)) × ((List (D_api_Entry)) × (Unit))))))) × (Unit) → Option ((Unit) × (Bool)) := fun ⟨⟨a0, a1, a2, a3, a4, a5, _⟩, _⟩ =>
  Option.bind (p39 fu (a0, a1, a5, ())) fun ⟨_, r18⟩ =>
  some ((), r18)
def e20 (fu : Nat) : Ent := ⟨20, (.cons (.agg 6 (.cons (.hole (.int .u64)) (.cons (.hole (.int .u64)) (.cons (.hole (.sl (.int .i64))) (.cons (.hole (.sl (.int .i64))) (.cons (.hole (.sl (.int .u8))) (.cons (.hole (.sl T_api_Entry)) .nil))))))) .nil), .nil, (.hole .bool), p20 fu⟩
def d20 (fu : Nat) : DC := (.seq (.region [(⟨(some 1), none, (.box 31 6 (.tmp 0))⟩, .none), (⟨(some 2), none, (.mov (.const (.bool false)))⟩, .none)] [[], []] false) (.seq (.region [(⟨(some 3), none, (.faddr 0 (.tmp 1))⟩, .none), (⟨(some 4), none, (.faddr 0 (.tmp 3))⟩, .none), (⟨(some 5), none, (.load false 1 (.tmp 4))⟩, .none), (⟨(some 6), none, (.faddr 0 (.tmp 1))⟩, .none), (⟨(some 7), none, (.faddr 1 (.tmp 6))⟩, .none), (⟨(some 8), none, (.load false 1 (.tmp 7))⟩, .none), (⟨(some 9), none, (.faddr 5 (.tmp 1))⟩, .none), (⟨(some 10), none, (.load false 1 (.tmp 9))⟩, .none), (⟨(some 11), none, (.call 39 [(.tmp 5), (.tmp 8), (.tmp 10)])⟩, (.ent (e39 fu))), (⟨(some 2), none, (.mov (.tmp 11))⟩, .none)] [[], [0], [1], [], [3], [4], [], [6], [2, 5, 7], [8, 8, 0, 1, 2, 3, 4, 5, 6, 7, 8]] false) .ret))
set_option maxRecDepth 1000000 in
theorem v20 (fu : Nat) : evF fu (d20 fu) rs20 12 (e20 fu).ash (e20 fu).osh (e20 fu).vsh = p20 fu := by kernel_rfl
set_option maxRecDepth 1000000 in
theorem b20 (fu : Nat) : BodyD Try.prog 20 12 (d20 fu).erase rs20 := bodyD_mk Try.func20 (by kernel_rfl) (by kernel_rfl) (by kernel_rfl) (by kernel_rfl)
theorem g20 (fu : Nat) : (e20 fu).Good Try.prog := good_by orders (b20 fu) (l := [e39 fu]) (by kernel_rfl) ⟨g39 fu, trivial⟩ (by kernel_rfl) (v20 fu)
def rs26 : List RVx := [(.tmp 6)]
/-- gazette/raftlog.Newer -/
def p26 (fu : Nat) : ((Int) × ((Int) × ((List (Int)) × ((List (Int)) × ((List (Int)) × ((List (D_api_Entry)) × (Unit))))))) × ((Int) × ((Int) × (Unit))) → Option ((Unit) × (Bool)) := fun ⟨⟨a0, a1, a2, a3, a4, a5, _⟩, a6, a7, _⟩ =>
  Option.bind (p22 fu ((a0, a1, a2, a3, a4, a5, ()), ())) fun ⟨_, ⟨r22, r22_1, _⟩⟩ =>
  bif decide (a7 > r22_1) then
   some ((), true)
  else
   bif (a7 == r22_1) then
    some ((), decide (a6 ≥ r22))
   else
    some ((), false)
def e26 (fu : Nat) : Ent := ⟨26, (.cons (.agg 6 (.cons (.hole (.int .u64)) (.cons (.hole (.int .u64)) (.cons (.hole (.sl (.int .i64))) (.cons (.hole (.sl (.int .i64))) (.cons (.hole (.sl (.int .u8))) (.cons (.hole (.sl T_api_Entry)) .nil))))))) (.cons (.hole (.int .u64)) (.cons (.hole (.int .u64)) .nil))), .nil, (.hole .bool), p26 fu⟩
def d26 (fu : Nat) : DC := (.seq (.region [(⟨(some 3), none, (.box 31 6 (.tmp 0))⟩, .none), (⟨(some 6), none, (.mov (.const (.bool false)))⟩, .none)] [[], []] false) (.seq (.region [(⟨(some 10), none, (.load true 6 (.tmp 3))⟩, .none), (⟨(some 11), none, (.call 22 [(.tmp 10)])⟩, (.ent (e22 fu))), (⟨(some 9), none, (.mov (.tmp 11))⟩, .none), (⟨(some 12), none, (.ext (.tmp 9) 0)⟩, .none), (⟨(some 13), none, (.ext (.tmp 9) 1)⟩, .none), (⟨(some 7), none, (.mov (.tmp 12))⟩, .none), (⟨(some 8), none, (.mov (.tmp 13))⟩, .none)] [[], [0], [1], [2], [2], [3, 1, 0, 1, 2, 3], [4, 5, 0, 1, 2, 3, 4, 5]] false) (.seq (.region [(⟨(some 14), none, (.mov (.tmp 2))⟩, .none), (⟨(some 15), none, (.mov (.tmp 8))⟩, .none), (⟨(some 16), none, (.bin .gtr (.tmp 14) (.tmp 15))⟩, .none), (⟨(some 17), none, (.mov (.tmp 16))⟩, .none), (⟨(some 18), (some (17, false)), (.mov (.tmp 2))⟩, .none), (⟨(some 19), (some (17, false)), (.mov (.tmp 8))⟩, .none), (⟨(some 20), (some (17, false)), (.bin .eql (.tmp 18) (.tmp 19))⟩, .none), (⟨(some 21), (some (17, false)), (.mov (.tmp 20))⟩, .none), (⟨(some 22), (some (21, true)), (.mov (.tmp 1))⟩, .none), (⟨(some 23), (some (21, true)), (.mov (.tmp 7))⟩, .none), (⟨(some 24), (some (21, true)), (.bin .geq (.tmp 22) (.tmp 23))⟩, .none), (⟨(some 25), (some (17, false)), (.pick (.tmp 21) (.tmp 24) (.const (.bool false)))⟩, .none), (⟨(some 26), none, (.pick (.tmp 17) (.const (.bool true)) (.tmp 25))⟩, .none), (⟨(some 6), none, (.mov (.tmp 26))⟩, .none)] [[], [], [0, 1], [2], [3], [3], [4, 5, 3], [6, 3, 3], [7], [7], [8, 9, 7], [7, 10, 3], [3, 11], [12, 7, 0, 1, 2, 3, 4, 5, 6, 7, 8, 9, 10, 11, 12]] false) .ret)))
set_option maxRecDepth 1000000 in
theorem v26 (fu : Nat) : evF fu (d26 fu) rs26 27 (e26 fu).ash (e26 fu).osh (e26 fu).vsh = p26 fu := by kernel_rfl
set_option maxRecDepth 1000000 in
theorem b26 (fu : Nat) : BodyD Try.prog 26 27 (d26 fu).erase rs26 := bodyD_mk Try.func26 (by kernel_rfl) (by kernel_rfl) (by kernel_rfl) (by kernel_rfl)
theorem g26 (fu : Nat) : (e26 fu).Good Try.prog := good_by orders (b26 fu) (l := [e22 fu]) (by kernel_rfl) ⟨g22 fu, trivial⟩ (by kernel_rfl) (v26 fu)
def rs9 : List RVx := [(.tmp 0)]
/-- gazette/gazettelaw06.head -/
def p9 (fu : Nat) : Unit → Option ((Unit) × (Bool)) := fun _ =>
  Option.bind (p25 fu ()) fun ⟨_, ⟨r24, r24_1, r24_2, r24_3, r24_4, r24_5, _⟩⟩ =>
  bif decide (List.length r24_5 = List.length r24_5) then
   Option.bind (p22 fu ((r24, r24_1, r24_2, r24_3, r24_4, r24_5, ()), ())) fun ⟨_, ⟨r25, r25_1, _⟩⟩ =>
   Option.bind (p25 fu ()) fun ⟨_, ⟨r26, r26_1, r26_2, r26_3, r26_4, r26_5, _⟩⟩ =>
   bif decide (List.length r26_5 = List.length r26_5) then
    Option.bind (p21 fu ((r26, r26_1, r26_2, r26_3, r26_4, r26_5, ()), (2 : Int), ())) fun ⟨_, ⟨r27, r27_1, _⟩⟩ =>
    bif (r25 == (4 : Int)) then
     bif (r25_1 == (2 : Int)) then
      bif (r27 == (1 : Int)) then
       bif r27_1 then
        Option.bind (p25 fu ()) fun ⟨_, ⟨r28, r28_1, r28_2, r28_3, r28_4, r28_5, _⟩⟩ =>
        bif decide (List.length r28_5 = List.length r28_5) then
         Option.bind (p20 fu ((r28, r28_1, r28_2, r28_3, r28_4, r28_5, ()), ())) fun ⟨_, r29⟩ =>
         bif r29 then
          Option.bind (p25 fu ()) fun ⟨_, ⟨r30, r30_1, r30_2, r30_3, r30_4, r30_5, _⟩⟩ =>
          bif decide (List.length r30_5 = List.length r30_5) then
           Option.bind (p26 fu ((r30, r30_1, r30_2, r30_3, r30_4, r30_5, ()), (9 : Int), (1 : Int), ())) fun ⟨_, r31⟩ =>
           some ((), r31 == false)
          else none
         else
          some ((), false)
        else none
       else
        some ((), false)
      else
       some ((), false)
     else
      some ((), false)
    else
     some ((), false)
   else none
  else none
def e9 (fu : Nat) : Ent := ⟨9, .nil, .nil, (.hole .bool), p9 fu⟩
def d9 (fu : Nat) : DC := (.seq (.region [(⟨(some 0), none, (.mov (.const (.bool false)))⟩, .none)] [[]] false) (.seq (.region [(⟨(some 6), none, (.call 25 [])⟩, (.ent (e25 fu))), (⟨(some 7), none, (.call 22 [(.tmp 6)])⟩, (.ent (e22 fu))), (⟨(some 5), none, (.mov (.tmp 7))⟩, .none), (⟨(some 8), none, (.ext (.tmp 5) 0)⟩, .none), (⟨(some 9), none, (.ext (.tmp 5) 1)⟩, .none), (⟨(some 1), none, (.mov (.tmp 8))⟩, .none), (⟨(some 2), none, (.mov (.tmp 9))⟩, .none)] [[], [0, 0], [1], [2], [2], [3, 1, 0, 1, 2, 3], [4, 5, 0, 1, 2, 3, 4, 5]] false) (.seq (.region [(⟨(some 11), none, (.call 25 [])⟩, (.ent (e25 fu))), (⟨(some 12), none, (.call 21 [(.tmp 11), (.const (.int .u64 2))])⟩, (.ent (e21 fu))), (⟨(some 10), none, (.mov (.tmp 12))⟩, .none), (⟨(some 13), none, (.ext (.tmp 10) 0)⟩, .none), (⟨(some 14), none, (.ext (.tmp 10) 1)⟩, .none), (⟨(some 3), none, (.mov (.tmp 13))⟩, .none), (⟨(some 4), none, (.mov (.tmp 14))⟩, .none)] [[], [0, 0], [1], [2], [2], [3, 1, 0, 1, 2, 3], [4, 5, 0, 1, 2, 3, 4, 5]] false) (.seq (.region [(⟨(some 15), none, (.mov (.tmp 1))⟩, .none), (⟨(some 16), none, (.bin .eql (.tmp 15) (.const (.int .u64 4)))⟩, .none), (⟨(some 17), none, (.mov (.tmp 16))⟩, .none), (⟨(some 18), (some (17, true)), (.mov (.tmp 2))⟩, .none), (⟨(some 19), (some (17, true)), (.bin .eql (.tmp 18) (.const (.int .u64 2)))⟩, .none), (⟨(some 20), none, (.pick (.tmp 17) (.tmp 19) (.const (.bool false)))⟩, .none), (⟨(some 21), none, (.mov (.tmp 20))⟩, .none), (⟨(some 22), (some (21, true)), (.mov (.tmp 3))⟩, .none), (⟨(some 23), (some (21, true)), (.bin .eql (.tmp 22) (.const (.int .u64 1)))⟩, .none), (⟨(some 24), none, (.pick (.tmp 21) (.tmp 23) (.const (.bool false)))⟩, .none), (⟨(some 25), none, (.mov (.tmp 24))⟩, .none), (⟨(some 26), (some (25, true)), (.mov (.tmp 4))⟩, .none), (⟨(some 27), none, (.pick (.tmp 25) (.tmp 26) (.const (.bool false)))⟩, .none), (⟨(some 28), none, (.mov (.tmp 27))⟩, .none), (⟨(some 29), (some (28, true)), (.call 25 [])⟩, (.ent (e25 fu))), (⟨(some 30), (some (28, true)), (.call 20 [(.tmp 29)])⟩, (.ent (e20 fu))), (⟨(some 31), none, (.pick (.tmp 28) (.tmp 30) (.const (.bool false)))⟩, .none), (⟨(some 32), none, (.mov (.tmp 31))⟩, .none), (⟨(some 33), (some (32, true)), (.call 25 [])⟩, (.ent (e25 fu))), (⟨(some 34), (some (32, true)), (.call 26 [(.tmp 33), (.const (.int .u64 9)), (.const (.int .u64 1))])⟩, (.ent (e26 fu))), (⟨(some 35), (some (32, true)), (.beq false (.tmp 34) (.const (.bool false)))⟩, .none), (⟨(some 36), none, (.pick (.tmp 32) (.tmp 35) (.const (.bool false)))⟩, .none), (⟨(some 0), none, (.mov (.tmp 36))⟩, .none)] [[], [0], [1], [2], [3, 2], [2, 4], [5, 2], [6], [7, 6], [6, 8], [9, 6], [10], [10, 11], [12, 10], [13, 13], [14, 14, 13], [13, 15], [16, 15], [17, 17], [18, 18, 17], [19, 17], [17, 20], [21, 19, 0, 1, 2, 3, 4, 5, 6, 7, 8, 9, 10, 11, 12, 13, 14, 15, 16, 17, 18, 19, 20, 21]] false) .ret))))
set_option maxRecDepth 1000000 in
theorem v9 (fu : Nat) : evF fu (d9 fu) rs9 37 (e9 fu).ash (e9 fu).osh (e9 fu).vsh = p9 fu := by kernel_rfl
set_option maxRecDepth 1000000 in
theorem b9 (fu : Nat) : BodyD Try.prog 9 37 (d9 fu).erase rs9 := bodyD_mk Try.func9 (by kernel_rfl) (by kernel_rfl) (by kernel_rfl) (by kernel_rfl)
theorem g9 (fu : Nat) : (e9 fu).Good Try.prog := good_by orders (b9 fu) (l := [e25 fu, e22 fu, e25 fu, e21 fu, e25 fu, e20 fu, e25 fu, e26 fu]) (by kernel_rfl) ⟨g25 fu, g22 fu, g25 fu, g21 fu, g25 fu, g20 fu, g25 fu, g26 fu, trivial⟩ (by kernel_rfl) (v9 fu)
def rs54 : List RVx := [(.tmp 6)]
/-- gazette/gazetteref06.fine -/
def p54 (fu : Nat) : ((Int) × ((Int) × ((Int) × ((List (Int)) × ((List (Int)) × ((List (Int)) × (Unit))))))) × ((Int) × ((Int) × (Unit))) → Option ((Unit) × (Bool)) := fun ⟨⟨a0, a1, a2, a3, a4, a5, _⟩, a6, a7, _⟩ =>
  bif (a0 != a6) then
   some ((), false)
  else
   bif decide (a1 < a7) then
    some ((), false)
   else
    bif decide (a1 ≥ (4611686018427387904 : Int)) then
     some ((), false)
    else
     orK (E := ((Bool) × (Unit)) × (Unit))
      (bif ((List.length a4 : Int) == (0 : Int)) then
        some (.inl ((((List.length a5 : Int) == (0 : Int)), ()), ()))
       else
        some (.inl ((false, ()), ())))
      fun ⟨⟨v7, _⟩, _⟩ =>
     bif (a2 == (1 : Int)) then
      bif v7 then
       some ((), ((List.length a3 : Int) == (0 : Int)))
      else
       some ((), false)
     else
      bif (a2 == (2 : Int)) then
       some ((), v7)
      else
       bif (a2 == (3 : Int)) then
        some ((), ((List.length a3 : Int) == (0 : Int)))
       else
        some ((), false)
def e54 (fu : Nat) : Ent := ⟨54, (.cons (.agg 6 (.cons (.hole (.int .u64)) (.cons (.hole (.int .u64)) (.cons (.hole (.int .i64)) (.cons (.hole (.sl (.int .u8))) (.cons (.hole (.sl (.int .i64))) (.cons (.hole (.sl (.int .i64))) .nil))))))) (.cons (.hole (.int .u64)) (.cons (.hole (.int .u64)) .nil))), .nil, (.hole .bool), p54 fu⟩
def d54 (fu : Nat) : DC := (.seq (.region [(⟨(some 3), none, (.box 51 6 (.tmp 0))⟩, .none), (⟨(some 6), none, (.mov (.const (.bool false)))⟩, .none)] [[], []] false) (.seq (.seq (.region [(⟨(some 8), none, (.faddr 0 (.tmp 3))⟩, .none), (⟨(some 9), none, (.load false 1 (.tmp 8))⟩, .none), (⟨(some 10), none, (.mov (.tmp 1))⟩, .none), (⟨(some 11), none, (.bin .neq (.tmp 9) (.tmp 10))⟩, .none), (⟨(some 12), none, (.mov (.tmp 11))⟩, .none), (⟨(some 13), (some (12, false)), (.faddr 1 (.tmp 3))⟩, .none), (⟨(some 14), (some (12, false)), (.load false 1 (.tmp 13))⟩, .none), (⟨(some 15), (some (12, false)), (.mov (.tmp 2))⟩, .none), (⟨(some 16), (some (12, false)), (.bin .lss (.tmp 14) (.tmp 15))⟩, .none), (⟨(some 17), none, (.pick (.tmp 12) (.const (.bool true)) (.tmp 16))⟩, .none), (⟨(some 18), none, (.mov (.tmp 17))⟩, .none), (⟨(some 19), (some (18, false)), (.faddr 1 (.tmp 3))⟩, .none), (⟨(some 20), (some (18, false)), (.load false 1 (.tmp 19))⟩, .none), (⟨(some 21), (some (18, false)), (.bin .geq (.tmp 20) (.const (.int .u64 4611686018427387904)))⟩, .none), (⟨(some 22), none, (.pick (.tmp 18) (.const (.bool true)) (.tmp 21))⟩, .none)] [[], [0], [], [1, 2], [3], [4], [5, 4], [4], [6, 7, 4], [4, 8], [9, 4], [10], [11, 10], [12, 10], [10, 13]] false) (.cond (.tmp 22) (.seq (.region [(⟨(some 6), none, (.mov (.const (.bool false)))⟩, .none)] [[]] false) .ret) .skip)) (.join ⟨[7], (.cons (.hole .bool) .nil), [], .nil, [3], [0]⟩
 (.region [(⟨(some 23), none, (.faddr 4 (.tmp 3))⟩, .none), (⟨(some 24), none, (.faddr 0 (.tmp 23))⟩, .none), (⟨(some 25), none, (.load false 1 (.tmp 24))⟩, .none), (⟨(some 26), none, (.len false (.tmp 25))⟩, .none), (⟨(some 27), none, (.bin .eql (.tmp 26) (.const (.int .i64 0)))⟩, .none), (⟨(some 28), none, (.mov (.tmp 27))⟩, .none), (⟨(some 29), (some (28, true)), (.faddr 4 (.tmp 3))⟩, .none), (⟨(some 30), (some (28, true)), (.faddr 1 (.tmp 29))⟩, .none), (⟨(some 31), (some (28, true)), (.load false 1 (.tmp 30))⟩, .none), (⟨(some 32), (some (28, true)), (.len false (.tmp 31))⟩, .none), (⟨(some 33), (some (28, true)), (.bin .eql (.tmp 32) (.const (.int .i64 0)))⟩, .none), (⟨(some 34), none, (.pick (.tmp 28) (.tmp 33) (.const (.bool false)))⟩, .none), (⟨(some 7), none, (.mov (.tmp 34))⟩, .none)] [[], [0], [1], [2], [3], [4], [5], [6, 5], [7, 5], [8, 5], [9, 5], [5, 10], [11, 5, 0, 1, 2, 3, 4, 5, 6, 7, 8, 9, 10, 11]] false)
 (.seq (.seq (.region [(⟨(some 35), none, (.faddr 2 (.tmp 3))⟩, .none), (⟨(some 36), none, (.load false 1 (.tmp 35))⟩, .none)] [[], [0]] false) (.block 0 (.seq (.region [(⟨(some 38), none, (.bin .eql (.tmp 36) (.const (.int .i64 1)))⟩, .none), (⟨(some 37), none, (.mov (.tmp 38))⟩, .none)] [[], [0]] false) (.cond (.tmp 37) (.seq (.region [(⟨(some 39), none, (.mov (.tmp 7))⟩, .none), (⟨(some 40), none, (.mov (.tmp 39))⟩, .none), (⟨(some 41), (some (40, true)), (.faddr 3 (.tmp 3))⟩, .none), (⟨(some 42), (some (40, true)), (.load false 1 (.tmp 41))⟩, .none), (⟨(some 43), (some (40, true)), (.len false (.tmp 42))⟩, .none), (⟨(some 44), (some (40, true)), (.bin .eql (.tmp 43) (.const (.int .i64 0)))⟩, .none), (⟨(some 45), none, (.pick (.tmp 40) (.tmp 44) (.const (.bool false)))⟩, .none), (⟨(some 6), none, (.mov (.tmp 45))⟩, .none)] [[], [0], [1], [2, 1], [3, 1], [4, 1], [1, 5], [6, 1, 0, 1, 2, 3, 4, 5, 6]] false) .ret) (.seq (.region [(⟨(some 47), none, (.bin .eql (.tmp 36) (.const (.int .i64 2)))⟩, .none), (⟨(some 46), none, (.mov (.tmp 47))⟩, .none)] [[], [0]] false) (.cond (.tmp 46) (.seq (.region [(⟨(some 48), none, (.mov (.tmp 7))⟩, .none), (⟨(some 6), none, (.mov (.tmp 48))⟩, .none)] [[], [0, 0]] false) .ret) (.seq (.region [(⟨(some 50), none, (.bin .eql (.tmp 36) (.const (.int .i64 3)))⟩, .none), (⟨(some 49), none, (.mov (.tmp 50))⟩, .none)] [[], [0]] false) (.cond (.tmp 49) (.seq (.region [(⟨(some 51), none, (.faddr 3 (.tmp 3))⟩, .none), (⟨(some 52), none, (.load false 1 (.tmp 51))⟩, .none), (⟨(some 53), none, (.len false (.tmp 52))⟩, .none), (⟨(some 54), none, (.bin .eql (.tmp 53) (.const (.int .i64 0)))⟩, .none), (⟨(some 6), none, (.mov (.tmp 54))⟩, .none)] [[], [0], [1], [2], [3, 0, 1, 2, 3]] false) .ret) .skip)))))))) (.seq (.region [(⟨(some 6), none, (.mov (.const (.bool false)))⟩, .none)] [[]] false) .ret)))))
set_option maxRecDepth 1000000 in
theorem v54 (fu : Nat) : evF fu (d54 fu) rs54 55 (e54 fu).ash (e54 fu).osh (e54 fu).vsh = p54 fu := by kernel_rfl
set_option maxRecDepth 1000000 in
theorem b54 (fu : Nat) : BodyD Try.prog 54 55 (d54 fu).erase rs54 := bodyD_mk Try.func54 (by kernel_rfl) (by kernel_rfl) (by kernel_rfl) (by kernel_rfl)
theorem g54 (fu : Nat) : (e54 fu).Good Try.prog := good_by orders (b54 fu) (l := []) (by kernel_rfl) trivial (by kernel_rfl) (v54 fu)
def rs31 : List RVx := [(.tmp 6)]
/-- gazette/gazetteref06.Entries -/
def p31 (fu : Nat) : (Int) × ((Int) × ((List (D_api_Entry)) × (Unit))) → Option ((Unit) × (Bool)) := fun ⟨a0, a1, a2, _⟩ =>
  bif decide (a0 ≥ (4611686018427387904 : Int)) then
   some ((), false)
  else
   bif decide ((IntKind.wrap .u64 (List.length a2 : Int)) ≥ (IntKind.wrap .u64 ((4611686018427387904 : Int) - a0))) then
    some ((), false)
   else
    loopO (S := ((Int) × ((Int) × (Unit))) × (Unit)) fu (fun ⟨⟨v1, v7, _⟩, _⟩ =>
      bif decide (v7 < (List.length a2 : Int)) then
       bif decide ((0 : Int) ≤ v7 ∧ v7 < (List.length a2 : Int)) then
        bif decide (Int.toNat v7 < List.length a2) then
         Option.bind (p54 fu (((List.getD a2 (Int.toNat v7) (dflt T_api_Entry)).1, ((List.getD a2 (Int.toNat v7) (dflt T_api_Entry)).2).1, (((List.getD a2 (Int.toNat v7) (dflt T_api_Entry)).2).2).1, ((((List.getD a2 (Int.toNat v7) (dflt T_api_Entry)).2).2).2).1, (((((List.getD a2 (Int.toNat v7) (dflt T_api_Entry)).2).2).2).2).1, (((((List.getD a2 (Int.toNat v7) (dflt T_api_Entry)).2).2).2).2).2, ()), IntKind.wrap .u64 ((IntKind.wrap .u64 (a0 + (IntKind.wrap .u64 v7))) + (1 : Int)), v1, ())) fun ⟨_, r35⟩ =>
         bif !r35 then
          inrO (some ((), false))
         else
          bif decide ((0 : Int) ≤ v7 ∧ v7 < (List.length a2 : Int)) then
           bif decide (Int.toNat v7 < List.length a2) then
            some (.inl ((((List.getD a2 (Int.toNat v7) (dflt T_api_Entry)).2).1, IntKind.wrap .i64 (v7 + (1 : Int)), ()), ()))
           else none
          else none
        else none
       else none
      else
       inrO (some ((), true)))
     ((a1, (0 : Int), ()), ())
def e31 (fu : Nat) : Ent := ⟨31, (.cons (.hole (.int .u64)) (.cons (.hole (.int .u64)) (.cons (.hole (.sl T_api_Entry)) .nil))), .nil, (.hole .bool), p31 fu⟩
def d31 (fu : Nat) : DC := (.seq (.region [(⟨(some 6), none, (.mov (.const (.bool false)))⟩, .none)] [[]] false) (.seq (.seq (.region [(⟨(some 9), none, (.mov (.tmp 0))⟩, .none), (⟨(some 10), none, (.bin .geq (.tmp 9) (.const (.int .u64 4611686018427387904)))⟩, .none), (⟨(some 11), none, (.mov (.tmp 10))⟩, .none), (⟨(some 12), (some (11, false)), (.mov (.tmp 2))⟩, .none), (⟨(some 13), (some (11, false)), (.len false (.tmp 12))⟩, .none), (⟨(some 14), (some (11, false)), (.conv .u64 (.tmp 13))⟩, .none), (⟨(some 15), (some (11, false)), (.mov (.tmp 0))⟩, .none), (⟨(some 16), (some (11, false)), (.bin .sub (.const (.int .u64 4611686018427387904)) (.tmp 15))⟩, .none), (⟨(some 17), (some (11, false)), (.bin .geq (.tmp 14) (.tmp 16))⟩, .none), (⟨(some 18), none, (.pick (.tmp 11) (.const (.bool true)) (.tmp 17))⟩, .none)] [[], [0], [1], [2], [3, 2], [4, 2], [2], [6, 2], [5, 7, 2], [2, 8]] false) (.cond (.tmp 18) (.seq (.region [(⟨(some 6), none, (.mov (.const (.bool false)))⟩, .none)] [[]] false) .ret) .skip)) (.seq (.seq (.region [(⟨(some 7), none, (.mov (.const (.int .i64 0)))⟩, .none)] [[]] false) (.block 0 (.loop ⟨[1, 7], (.cons (.hole (.int .u64)) (.cons (.hole (.int .i64)) .nil)), [], .nil, [0, 2], []⟩
 (.seq (.seq (.region [(⟨(some 19), none, (.mov (.tmp 7))⟩, .none), (⟨(some 20), none, (.mov (.tmp 2))⟩, .none), (⟨(some 21), none, (.len false (.tmp 20))⟩, .none), (⟨(some 22), none, (.bin .lss (.tmp 19) (.tmp 21))⟩, .none)] [[], [], [1], [0, 2]] false) (.cond (.tmp 22) .skip (.exit 0))) (.seq (.block 1 (.seq (.region [(⟨(some 25), none, (.mov (.tmp 2))⟩, .none), (⟨(some 26), none, (.mov (.tmp 7))⟩, .none), (⟨(some 27), none, (.iaddr 6 (.tmp 25) (.tmp 26))⟩, .none), (⟨(some 28), none, (.load true 6 (.tmp 27))⟩, .none), (⟨(some 29), none, (.mov (.tmp 0))⟩, .none), (⟨(some 30), none, (.mov (.tmp 7))⟩, .none), (⟨(some 31), none, (.conv .u64 (.tmp 30))⟩, .none), (⟨(some 32), none, (.bin .add (.tmp 29) (.tmp 31))⟩, .none), (⟨(some 33), none, (.bin .add (.tmp 32) (.const (.int .u64 1)))⟩, .none), (⟨(some 34), none, (.mov (.tmp 1))⟩, .none), (⟨(some 35), none, (.call 54 [(.tmp 28), (.tmp 33), (.tmp 34)])⟩, (.ent (e54 fu))), (⟨(some 8), none, (.mov (.tmp 35))⟩, .none)] [[], [], [0, 1], [2], [], [], [5], [4, 6], [7], [], [3, 8, 9], [10, 10, 0, 1, 2, 3, 4, 5, 6, 7, 8, 9, 10]] false) (.seq (.seq (.region [(⟨(some 36), none, (.mov (.tmp 8))⟩, .none), (⟨(some 37), none, (.not (.tmp 36))⟩, .none)] [[], [0]] false) (.cond (.tmp 37) (.seq (.region [(⟨(some 6), none, (.mov (.const (.bool false)))⟩, .none)] [[]] false) .ret) .skip)) (.region [(⟨(some 38), none, (.mov (.tmp 2))⟩, .none), (⟨(some 39), none, (.mov (.tmp 7))⟩, .none), (⟨(some 40), none, (.iaddr 6 (.tmp 38) (.tmp 39))⟩, .none), (⟨(some 41), none, (.faddr 1 (.tmp 40))⟩, .none), (⟨(some 42), none, (.load false 1 (.tmp 41))⟩, .none), (⟨(some 1), none, (.mov (.tmp 42))⟩, .none)] [[], [], [0, 1], [2], [3], [4, 0, 1, 2, 3, 4]] false)))) (.region [(⟨(some 23), none, (.mov (.tmp 7))⟩, .none), (⟨(some 24), none, (.bin .add (.tmp 23) (.const (.int .i64 1)))⟩, .none), (⟨(some 7), none, (.mov (.tmp 24))⟩, .none)] [[], [0], [1, 0, 1]] false)))))) (.seq (.region [(⟨(some 6), none, (.mov (.const (.bool true)))⟩, .none)] [[]] false) .ret))))
set_option maxRecDepth 1000000 in
theorem v31 (fu : Nat) : evF fu (d31 fu) rs31 43 (e31 fu).ash (e31 fu).osh (e31 fu).vsh = p31 fu := by kernel_rfl
set_option maxRecDepth 1000000 in
theorem b31 (fu : Nat) : BodyD Try.prog 31 43 (d31 fu).erase rs31 := bodyD_mk Try.func31 (by kernel_rfl) (by kernel_rfl) (by kernel_rfl) (by kernel_rfl)
theorem g31 (fu : Nat) : (e31 fu).Good Try.prog := good_by orders (b31 fu) (l := [e54 fu]) (by kernel_rfl) ⟨g54 fu, trivial⟩ (by kernel_rfl) (v31 fu)
def rs12 : List RVx := [(.tmp 2)]
/-- gazette/gazetteref06.Check -/
def p12 (fu : Nat) : ((Int) × ((Int) × ((List (Int)) × ((List (Int)) × ((List (Int)) × ((List (D_api_Entry)) × (Unit))))))) × (Unit) → Option ((Unit) × (Bool)) := fun ⟨⟨a0, a1, a2, a3, a4, a5, _⟩, _⟩ =>
  bif decide (a1 < (4611686018427387904 : Int)) then
   Option.bind (p31 fu (a0, a1, a5, ())) fun ⟨_, r37⟩ =>
   some ((), r37)
  else
   some ((), false)
def e12 (fu : Nat) : Ent := ⟨12, (.cons (.agg 6 (.cons (.hole (.int .u64)) (.cons (.hole (.int .u64)) (.cons (.hole (.sl (.int .i64))) (.cons (.hole (.sl (.int .i64))) (.cons (.hole (.sl (.int .u8))) (.cons (.hole (.sl T_api_Entry)) .nil))))))) .nil), .nil, (.hole .bool), p12 fu⟩
def d12 (fu : Nat) : DC := (.seq (.region [(⟨(some 1), none, (.box 31 6 (.tmp 0))⟩, .none), (⟨(some 2), none, (.mov (.const (.bool false)))⟩, .none)] [[], []] false) (.seq (.region [(⟨(some 3), none, (.faddr 0 (.tmp 1))⟩, .none), (⟨(some 4), none, (.faddr 1 (.tmp 3))⟩, .none), (⟨(some 5), none, (.load false 1 (.tmp 4))⟩, .none), (⟨(some 6), none, (.bin .lss (.tmp 5) (.const (.int .u64 4611686018427387904)))⟩, .none), (⟨(some 7), none, (.mov (.tmp 6))⟩, .none), (⟨(some 8), (some (7, true)), (.faddr 0 (.tmp 1))⟩, .none), (⟨(some 9), (some (7, true)), (.faddr 0 (.tmp 8))⟩, .none), (⟨(some 10), (some (7, true)), (.load false 1 (.tmp 9))⟩, .none), (⟨(some 11), (some (7, true)), (.faddr 0 (.tmp 1))⟩, .none), (⟨(some 12), (some (7, true)), (.faddr 1 (.tmp 11))⟩, .none), (⟨(some 13), (some (7, true)), (.load false 1 (.tmp 12))⟩, .none), (⟨(some 14), (some (7, true)), (.faddr 5 (.tmp 1))⟩, .none), (⟨(some 15), (some (7, true)), (.load false 1 (.tmp 14))⟩, .none), (⟨(some 16), (some (7, true)), (.call 31 [(.tmp 10), (.tmp 13), (.tmp 15)])⟩, (.ent (e31 fu))), (⟨(some 17), none, (.pick (.tmp 7) (.tmp 16) (.const (.bool false)))⟩, .none), (⟨(some 2), none, (.mov (.tmp 17))⟩, .none)] [[], [0], [1], [2], [3], [4], [5, 4], [6, 4], [4], [8, 4], [9, 4], [4], [11, 4], [7, 10, 12, 4, 4], [4, 13], [14, 13, 0, 1, 2, 3, 4, 5, 6, 7, 8, 9, 10, 11, 12, 13, 14]] false) .ret))
set_option maxRecDepth 1000000 in
theorem v12 (fu : Nat) : evF fu (d12 fu) rs12 18 (e12 fu).ash (e12 fu).osh (e12 fu).vsh = p12 fu := by kernel_rfl
set_option maxRecDepth 1000000 in
theorem b12 (fu : Nat) : BodyD Try.prog 12 18 (d12 fu).erase rs12 := bodyD_mk Try.func12 (by kernel_rfl) (by kernel_rfl) (by kernel_rfl) (by kernel_rfl)
theorem g12 (fu : Nat) : (e12 fu).Good Try.prog := good_by orders (b12 fu) (l := [e31 fu]) (by kernel_rfl) ⟨g31 fu, trivial⟩ (by kernel_rfl) (v12 fu)
def rs50 : List RVx := [(.tmp 2)]
/-- gazette/copies.newRoom -/
def p50 (fu : Nat) : (Int) × (Unit) → Option ((Unit) × ((List (Int)) × (Unit))) := fun ⟨a0, _⟩ =>
  bif decide ((0 : Int) ≤ 0 ∧ (0 : Int) ≤ a0 ∧ (a0 : Int) ≤ 9223372036854775807 ∧ (1 : Int) * a0 ≤ 140737488355328) then
   bif decide (0 = List.length (List.replicate 0 (0 : Int) : List (Int))) then
    some ((), ((List.replicate 0 (0 : Int) : List (Int)), ()))
   else none
  else none
def e50 (fu : Nat) : Ent := ⟨50, (.cons (.hole (.int .i64)) .nil), .nil, (.box 90 1 (.cons (.own .app 5 (.int .u8)) .nil)), p50 fu⟩
def d50 (fu : Nat) : DC := (.seq (.region [(⟨(some 2), none, (.mov (.const (.pointer none)))⟩, .none)] [[]] false) (.seq (.region [(⟨(some 4), none, (.mov (.tmp 0))⟩, .none), (⟨(some 5), none, (.make true 5 1 [(.int .u8 0)] 1 (.const (.int .i64 0)) (.tmp 4))⟩, (.ty (.int .u8))), (⟨(some 3), none, (.alloc 90 1 [(.slice none 0 0)])⟩, .none), (⟨none, none, (.store 1 (.tmp 3) (.tmp 5))⟩, .none)] [[], [0], [], [2, 1, 0, 1, 2]] false) (.seq (.region [(⟨(some 2), none, (.mov (.tmp 3))⟩, .none)] [[]] false) .ret)))
set_option maxRecDepth 1000000 in
theorem v50 (fu : Nat) : evF fu (d50 fu) rs50 6 (e50 fu).ash (e50 fu).osh (e50 fu).vsh = p50 fu := by kernel_rfl
set_option maxRecDepth 1000000 in
theorem b50 (fu : Nat) : BodyD Try.prog 50 6 (d50 fu).erase rs50 := bodyD_mk Try.func50 (by kernel_rfl) (by kernel_rfl) (by kernel_rfl) (by kernel_rfl)
theorem g50 (fu : Nat) : (e50 fu).Good Try.prog := good_by orders (b50 fu) (l := []) (by kernel_rfl) trivial (by kernel_rfl) (v50 fu)
def rs53 : List RVx := [(.tmp 4)]
/-- (*gazette/copies.room).copied -/
def p53 (fu : Nat) : ((List (Int)) × (Unit)) × ((List (Int)) × (Unit)) → Option ((((List (Int)) × (Unit)) × ((Unit) × (Unit))) × (List (Int))) := fun ⟨⟨a0, _⟩, a1, _⟩ =>
  bif ((List.length a1 : Int) == (0 : Int)) then
   bif decide (List.length a0 = List.length a0) then
    some (((a0, ()), (), ()), [])
   else none
  else
   bif decide (List.length a0 = List.length a0) then
    bif decide (List.length a0 + List.length a1 ≤ maxLen ∧ (List.length a0 + List.length a1) * 1 ≤ 140737488355328) then
     bif decide ((0 : Int) ≤ ((List.length (a0 ++ a1)) : Int)) then
      bif decide ((0 : Int) ≤ ((List.length (a0 ++ a1)) : Int)) then
       bif decide ((0 : Int) ≤ ((List.length a0) : Int)) then
        bif decide (Int.toNat ((List.length a0) : Int) ≤ Int.toNat ((List.length (a0 ++ a1)) : Int) ∧ Int.toNat ((List.length (a0 ++ a1)) : Int) ≤ Int.toNat ((List.length (a0 ++ a1)) : Int) ∧ Int.toNat ((List.length (a0 ++ a1)) : Int) ≤ List.length (a0 ++ a1) ∧ 0 + (List.length (a0 ++ a1)) ≤ List.length (a0 ++ a1)) then
         bif decide (List.length (a0 ++ a1) = List.length (a0 ++ a1)) then
          some ((((a0 ++ a1), ()), (), ()), slice' (a0 ++ a1) (Int.toNat ((List.length a0) : Int)) (some (Int.toNat ((List.length (a0 ++ a1)) : Int))))
         else none
        else none
       else none
      else none
     else none
    else none
   else none
def e53 (fu : Nat) : Ent := ⟨53, (.cons (.box 90 1 (.cons (.own .app 5 (.int .u8)) .nil)) (.cons (.hole (.sl (.int .u8))) .nil)), (.cons (.agg 1 (.cons (.own .app 5 (.int .u8)) .nil)) (.cons .dead .nil)), (.hole (.sl (.int .u8))), p53 fu⟩
def d53 (fu : Nat) : DC := (.seq (.region [(⟨(some 4), none, (.mov (.const (.slice none 0 0)))⟩, .none)] [[]] false) (.seq (.seq (.region [(⟨(some 7), none, (.mov (.tmp 1))⟩, .none), (⟨(some 8), none, (.len false (.tmp 7))⟩, .none), (⟨(some 9), none, (.bin .eql (.tmp 8) (.const (.int .i64 0)))⟩, .none)] [[], [0], [1]] false) (.cond (.tmp 9) (.seq (.region [(⟨(some 4), none, (.mov (.const (.slice none 0 0)))⟩, .none)] [[]] false) .ret) .skip)) (.seq (.region [(⟨(some 10), none, (.mov (.tmp 0))⟩, .none), (⟨(some 11), none, (.pure .nilc [(.tmp 10)])⟩, .none), (⟨(some 12), none, (.load false 1 (.tmp 11))⟩, .none), (⟨(some 13), none, (.len false (.tmp 12))⟩, .none), (⟨(some 5), none, (.mov (.tmp 13))⟩, .none)] [[], [0], [1], [2], [3, 0, 1, 2, 3]] false) (.seq (.region [(⟨(some 14), none, (.mov (.tmp 0))⟩, .none), (⟨(some 15), none, (.mov (.tmp 0))⟩, .none), (⟨(some 16), none, (.pure .nilc [(.tmp 15)])⟩, .none), (⟨(some 17), none, (.load false 1 (.tmp 16))⟩, .none), (⟨(some 18), none, (.mov (.tmp 1))⟩, .none), (⟨(some 19), none, (.app 5 1 [(.int .u8 0)] 1 (.tmp 17) (.tmp 18))⟩, (.ty (.int .u8))), (⟨(some 20), none, (.pure .nilc [(.tmp 14)])⟩, .none), (⟨none, none, (.store 1 (.tmp 20) (.tmp 19))⟩, .none)] [[], [], [1], [2], [], [3, 4], [0, 0, 1, 2, 3, 4, 5], [6, 5, 5, 0, 1, 2, 3, 4, 5]] false) (.seq (.region [(⟨(some 21), none, (.mov (.tmp 0))⟩, .none), (⟨(some 22), none, (.pure .nilc [(.tmp 21)])⟩, .none), (⟨(some 23), none, (.load false 1 (.tmp 22))⟩, .none), (⟨(some 24), none, (.len false (.tmp 23))⟩, .none), (⟨(some 6), none, (.mov (.tmp 24))⟩, .none)] [[], [0], [1], [2], [3, 0, 1, 2, 3]] false) (.seq (.region [(⟨(some 25), none, (.mov (.tmp 0))⟩, .none), (⟨(some 26), none, (.pure .nilc [(.tmp 25)])⟩, .none), (⟨(some 27), none, (.load false 1 (.tmp 26))⟩, .none), (⟨(some 28), none, (.mov (.tmp 5))⟩, .none), (⟨(some 29), none, (.mov (.tmp 6))⟩, .none), (⟨(some 30), none, (.mov (.tmp 6))⟩, .none), (⟨(some 31), none, (.slc3 1 (.tmp 27) (some (.tmp 28)) (some (.tmp 29)) (some (.tmp 30)))⟩, .none), (⟨(some 4), none, (.mov (.tmp 31))⟩, .none)] [[], [0], [1], [], [], [], [2, 3, 4, 5], [6, 0, 1, 2, 3, 4, 5, 6]] false) .ret))))))
set_option maxRecDepth 1000000 in
theorem v53 (fu : Nat) : evF fu (d53 fu) rs53 32 (e53 fu).ash (e53 fu).osh (e53 fu).vsh = p53 fu := by kernel_rfl
set_option maxRecDepth 1000000 in
theorem b53 (fu : Nat) : BodyD Try.prog 53 32 (d53 fu).erase rs53 := bodyD_mk Try.func53 (by kernel_rfl) (by kernel_rfl) (by kernel_rfl) (by kernel_rfl)
theorem g53 (fu : Nat) : (e53 fu).Good Try.prog := good_by orders (b53 fu) (l := []) (by kernel_rfl) trivial (by kernel_rfl) (v53 fu)
def rs57 : List RVx := [(.tmp 2)]
/-- gazette/copies.List[int] -/
def p57 (fu : Nat) : (List (Int)) × (Unit) → Option ((Unit) × (List (Int))) := fun ⟨a0, _⟩ =>
  bif ((List.length a0 : Int) == (0 : Int)) then
   some ((), [])
  else
   bif decide ((0 : Int) ≤ (List.length a0 : Int) ∧ ((List.length a0 : Int) : Int) ≤ (List.length a0 : Int) ∧ ((List.length a0 : Int) : Int) ≤ 9223372036854775807 ∧ (8 : Int) * (List.length a0 : Int) ≤ 140737488355328) then
    bif decide (Int.toNat (List.length a0 : Int) = List.length (List.replicate (Int.toNat (List.length a0 : Int)) (0 : Int) : List (Int))) then
     bif decide (Int.toNat (List.length a0 : Int) = List.length (copyL (List.replicate (Int.toNat (List.length a0 : Int)) (0 : Int) : List (Int)) 0 (Int.toNat (List.length a0 : Int)) a0)) then
      some ((), (copyL (List.replicate (Int.toNat (List.length a0 : Int)) (0 : Int) : List (Int)) 0 (Int.toNat (List.length a0 : Int)) a0))
     else none
    else none
   else none
def e57 (fu : Nat) : Ent := ⟨57, (.cons (.hole (.sl (.int .i64))) .nil), .nil, (.own .own 3 (.int .i64)), p57 fu⟩
def d57 (fu : Nat) : DC := (.seq (.region [(⟨(some 2), none, (.mov (.const (.slice none 0 0)))⟩, .none)] [[]] false) (.seq (.seq (.region [(⟨(some 4), none, (.mov (.tmp 0))⟩, .none), (⟨(some 5), none, (.len false (.tmp 4))⟩, .none), (⟨(some 6), none, (.bin .eql (.tmp 5) (.const (.int .i64 0)))⟩, .none)] [[], [0], [1]] false) (.cond (.tmp 6) (.seq (.region [(⟨(some 2), none, (.mov (.const (.slice none 0 0)))⟩, .none)] [[]] false) .ret) .skip)) (.seq (.region [(⟨(some 7), none, (.mov (.tmp 0))⟩, .none), (⟨(some 8), none, (.len false (.tmp 7))⟩, .none), (⟨(some 9), none, (.make false 3 1 [(.int .i64 0)] 8 (.tmp 8) (.tmp 8))⟩, (.ty (.int .i64))), (⟨(some 3), none, (.mov (.tmp 9))⟩, .none)] [[], [0], [1, 1], [2, 0, 1, 2]] false) (.seq (.region [(⟨(some 10), none, (.mov (.tmp 3))⟩, .none), (⟨(some 11), none, (.mov (.tmp 0))⟩, .none), (⟨(some 12), none, (.copy 1 (.tmp 10) (.tmp 11))⟩, .none)] [[], [], [0, 1]] false) (.seq (.region [(⟨(some 13), none, (.mov (.tmp 3))⟩, .none), (⟨(some 2), none, (.mov (.tmp 13))⟩, .none)] [[], [0, 0]] false) .ret)))))
set_option maxRecDepth 1000000 in
theorem v57 (fu : Nat) : evF fu (d57 fu) rs57 14 (e57 fu).ash (e57 fu).osh (e57 fu).vsh = p57 fu := by kernel_rfl
set_option maxRecDepth 1000000 in
theorem b57 (fu : Nat) : BodyD Try.prog 57 14 (d57 fu).erase rs57 := bodyD_mk Try.func57 (by kernel_rfl) (by kernel_rfl) (by kernel_rfl) (by kernel_rfl)
theorem g57 (fu : Nat) : (e57 fu).Good Try.prog := good_by orders (b57 fu) (l := []) (by kernel_rfl) trivial (by kernel_rfl) (v57 fu)
def rs45 : List RVx := [(.cell 2 true 2)]
/-- gazette/copies.Conf -/
def p45 (fu : Nat) : ((List (Int)) × ((List (Int)) × (Unit))) × (Unit) → Option ((Unit) × ((List (Int)) × ((List (Int)) × (Unit)))) := fun ⟨⟨a0, a1, _⟩, _⟩ =>
  Option.bind (p57 fu (a0, ())) fun ⟨_, r46⟩ =>
  Option.bind (p57 fu (a1, ())) fun ⟨_, r47⟩ =>
  bif decide (List.length r46 = List.length r46) then
   bif decide (List.length r47 = List.length r47) then
    some ((), (r46, r47, ()))
   else none
  else none
def e45 (fu : Nat) : Ent := ⟨45, (.cons (.agg 2 (.cons (.hole (.sl (.int .i64))) (.cons (.hole (.sl (.int .i64))) .nil))) .nil), .nil, (.agg 2 (.cons (.own .own 3 (.int .i64)) (.cons (.own .own 3 (.int .i64)) .nil))), p45 fu⟩
def d45 (fu : Nat) : DC := (.seq (.region [(⟨(some 1), none, (.box 25 2 (.tmp 0))⟩, .none), (⟨(some 2), none, (.alloc 25 2 [(.slice none 0 0), (.slice none 0 0)])⟩, .none)] [[], []] false) (.seq (.region [(⟨(some 3), none, (.faddr 0 (.tmp 1))⟩, .none), (⟨(some 4), none, (.load false 1 (.tmp 3))⟩, .none), (⟨(some 5), none, (.call 57 [(.tmp 4)])⟩, (.ent (e57 fu))), (⟨(some 6), none, (.faddr 1 (.tmp 1))⟩, .none), (⟨(some 7), none, (.load false 1 (.tmp 6))⟩, .none), (⟨(some 8), none, (.call 57 [(.tmp 7)])⟩, (.ent (e57 fu))), (⟨(some 9), none, (.build 2 [(.slice none 0 0), (.slice none 0 0)] [(0, (1, (.tmp 5))), (1, (1, (.tmp 8)))])⟩, .none), (⟨none, none, (.store 2 (.tmp 2) (.tmp 9))⟩, .none)] [[], [0], [1], [], [3], [4, 2], [2, 5], [6, 5, 0, 1, 2, 3, 4, 5, 6]] true) .ret))
set_option maxRecDepth 1000000 in
theorem v45 (fu : Nat) : evF fu (d45 fu) rs45 10 (e45 fu).ash (e45 fu).osh (e45 fu).vsh = p45 fu := by kernel_rfl
set_option maxRecDepth 1000000 in
theorem b45 (fu : Nat) : BodyD Try.prog 45 10 (d45 fu).erase rs45 := bodyD_mk Try.func45 (by kernel_rfl) (by kernel_rfl) (by kernel_rfl) (by kernel_rfl)
theorem g45 (fu : Nat) : (e45 fu).Good Try.prog := good_by orders (b45 fu) (l := [e57 fu, e57 fu]) (by kernel_rfl) ⟨g57 fu, g57 fu, trivial⟩ (by kernel_rfl) (v45 fu)
def rs52 : List RVx := [(.cell 3 true 6)]
/-- gazette/copies.Entries$1 -/
def p52 (fu : Nat) : ((Int) × ((Int) × ((Int) × ((List (Int)) × ((List (Int)) × ((List (Int)) × (Unit))))))) × ((((List (Int)) × (Unit)) × (Unit)) × (Unit)) → Option ((((Unit) × (Unit)) × (((List (Int)) × (Unit)) × ((Unit) × (Unit)))) × ((Int) × ((Int) × ((Int) × ((List (Int)) × ((List (Int)) × ((List (Int)) × (Unit)))))))) := fun ⟨⟨a0, a1, a2, a3, a4, a5, _⟩, ⟨⟨a6, _⟩, _⟩, _⟩ =>
  bif decide (List.length a6 = List.length a6) then
   Option.bind (p53 fu ((a6, ()), a3, ())) fun ⟨⟨⟨r49, _⟩, _, _⟩, r49_1⟩ =>
   Option.bind (p45 fu ((a4, a5, ()), ())) fun ⟨_, ⟨r50, r50_1, _⟩⟩ =>
   bif decide (List.length r49 = List.length r49) then
    bif decide (List.length r50 = List.length r50) then
     bif decide (List.length r50_1 = List.length r50_1) then
      some ((((), ()), (r49, ()), (), ()), (a0, a1, a2, r49_1, r50, r50_1, ()))
     else none
    else none
   else none
  else none
def e52 (fu : Nat) : Ent := ⟨52, (.cons (.agg 6 (.cons (.hole (.int .u64)) (.cons (.hole (.int .u64)) (.cons (.hole (.int .i64)) (.cons (.hole (.sl (.int .u8))) (.cons (.hole (.sl (.int .i64))) (.cons (.hole (.sl (.int .i64))) .nil))))))) (.cons (.box 83 1 (.cons (.box 90 1 (.cons (.own .app 5 (.int .u8)) .nil)) .nil)) .nil)), (.cons (.agg 1 (.cons (.ptr 1) .nil)) (.cons (.agg 1 (.cons (.own .app 5 (.int .u8)) .nil)) (.cons .dead .nil))), (.agg 6 (.cons (.hole (.int .u64)) (.cons (.hole (.int .u64)) (.cons (.hole (.int .i64)) (.cons (.hole (.sl (.int .u8))) (.cons (.own .own 3 (.int .i64)) (.cons (.own .own 3 (.int .i64)) .nil))))))), p52 fu⟩
def d52 (fu : Nat) : DC := (.seq (.region [(⟨(some 2), none, (.box 51 6 (.tmp 0))⟩, .none), (⟨(some 3), none, (.alloc 51 6 [(.int .u64 0), (.int .u64 0), (.int .i64 0), (.slice none 0 0), (.slice none 0 0), (.slice none 0 0)])⟩, .none)] [[], []] false) (.seq (.region [(⟨(some 4), none, (.load false 1 (.tmp 1))⟩, .none), (⟨(some 5), none, (.faddr 3 (.tmp 2))⟩, .none), (⟨(some 6), none, (.load false 1 (.tmp 5))⟩, .none), (⟨(some 7), none, (.call 53 [(.tmp 4), (.tmp 6)])⟩, (.ent (e53 fu))), (⟨(some 8), none, (.faddr 3 (.tmp 2))⟩, .none), (⟨none, none, (.store 1 (.tmp 8) (.tmp 7))⟩, .none)] [[], [], [1], [0, 2], [0, 1, 2, 3], [4, 3, 3, 0, 1, 2, 3]] false) (.seq (.region [(⟨(some 9), none, (.faddr 4 (.tmp 2))⟩, .none), (⟨(some 10), none, (.load true 2 (.tmp 9))⟩, .none), (⟨(some 11), none, (.call 45 [(.tmp 10)])⟩, (.ent (e45 fu))), (⟨(some 12), none, (.faddr 4 (.tmp 2))⟩, .none), (⟨none, none, (.store 2 (.tmp 12) (.tmp 11))⟩, .none)] [[], [0], [1], [0, 1, 2], [3, 2, 2, 0, 1, 2]] false) (.seq (.region [(⟨(some 13), none, (.load true 6 (.tmp 2))⟩, .none), (⟨none, none, (.store 6 (.tmp 3) (.tmp 13))⟩, .none)] [[], [0, 0]] false) .ret))))
set_option maxRecDepth 1000000 in
theorem v52 (fu : Nat) : evF fu (d52 fu) rs52 14 (e52 fu).ash (e52 fu).osh (e52 fu).vsh = p52 fu := by kernel_rfl
set_option maxRecDepth 1000000 in
theorem b52 (fu : Nat) : BodyD Try.prog 52 14 (d52 fu).erase rs52 := bodyD_mk Try.func52 (by kernel_rfl) (by kernel_rfl) (by kernel_rfl) (by kernel_rfl)
theorem g52 (fu : Nat) : (e52 fu).Good Try.prog := good_by orders (b52 fu) (l := [e53 fu, e45 fu]) (by kernel_rfl) ⟨g53 fu, g45 fu, trivial⟩ (by kernel_rfl) (v52 fu)
def rs51 : List RVx := [(.tmp 4)]
/-- gazette/copies.Each[gazette/api.Entry] -/
def p51 (fu : Nat) : (List (D_api_Entry)) × (((Unit) × ((((List (Int)) × (Unit)) × (Unit)) × (Unit))) × (Unit)) → Option ((((Unit) × (Unit)) × (((List (Int)) × (Unit)) × ((Unit) × (Unit)))) × (List (D_api_Entry))) := fun ⟨a0, ⟨_, ⟨⟨⟨a1, _⟩, _⟩, _⟩⟩, _⟩ =>
  bif ((List.length a0 : Int) == (0 : Int)) then
   bif decide (List.length a1 = List.length a1) then
    some ((((), ()), (a1, ()), (), ()), [])
   else none
  else
   bif decide ((0 : Int) ≤ (List.length a0 : Int) ∧ ((List.length a0 : Int) : Int) ≤ (List.length a0 : Int) ∧ ((List.length a0 : Int) : Int) ≤ 9223372036854775807 ∧ (96 : Int) * (List.length a0 : Int) ≤ 140737488355328) then
    bif decide (Int.toNat (List.length a0 : Int) = List.length (List.replicate (Int.toNat (List.length a0 : Int)) ((0 : Int), (0 : Int), (0 : Int), [], [], []) : List (D_api_Entry))) then
     bif decide (List.length a1 = List.length a1) then
      loopO (S := ((List (D_api_Entry)) × ((Int) × (Unit))) × (((Unit) × (Unit)) × (((List (Int)) × (Unit)) × (Unit)))) fu (fun ⟨⟨v5, v16, _⟩, ⟨⟨_, _⟩, ⟨v1001, _⟩, _⟩⟩ =>
        bif decide (v16 < (List.length a0 : Int)) then
         bif decide ((0 : Int) ≤ v16 ∧ v16 < (List.length a0 : Int)) then
          bif decide (Int.toNat v16 < List.length a0) then
           bif decide (List.length v1001 = List.length v1001) then
            Option.bind (p52 fu (((List.getD a0 (Int.toNat v16) (dflt T_api_Entry)).1, ((List.getD a0 (Int.toNat v16) (dflt T_api_Entry)).2).1, (((List.getD a0 (Int.toNat v16) (dflt T_api_Entry)).2).2).1, ((((List.getD a0 (Int.toNat v16) (dflt T_api_Entry)).2).2).2).1, (((((List.getD a0 (Int.toNat v16) (dflt T_api_Entry)).2).2).2).2).1, (((((List.getD a0 (Int.toNat v16) (dflt T_api_Entry)).2).2).2).2).2, ()), ((v1001, ()), ()), ())) fun ⟨⟨⟨_, _⟩, ⟨r54, _⟩, _, _⟩, ⟨r54_1, r54_2, r54_3, r54_4, r54_5, r54_6, _⟩⟩ =>
            bif decide ((0 : Int) ≤ v16 ∧ v16 < (List.length v5 : Int)) then
             bif decide (Int.toNat v16 < List.length v5) then
              bif decide (List.length r54_5 = List.length r54_5) then
               bif decide (List.length r54_6 = List.length r54_6) then
                bif decide (List.length v5 = List.length (List.set v5 (Int.toNat v16) (r54_1, r54_2, r54_3, r54_4, r54_5, r54_6))) then
                 bif decide (List.length r54 = List.length r54) then
                  some (.inl (((List.set v5 (Int.toNat v16) (r54_1, r54_2, r54_3, r54_4, r54_5, r54_6)), IntKind.wrap .i64 (v16 + (1 : Int)), ()), (((), ()), (r54, ()), ())))
                 else none
                else none
               else none
              else none
             else none
            else none
           else none
          else none
         else none
        else
         inrO (bif decide (List.length v1001 = List.length v1001) then
          bif decide (List.length v5 = List.length v5) then
           some ((((), ()), (v1001, ()), (), ()), v5)
          else none
         else none))
       (((List.replicate (Int.toNat (List.length a0 : Int)) ((0 : Int), (0 : Int), (0 : Int), [], [], []) : List (D_api_Entry)), (0 : Int), ()), (((), ()), (a1, ()), ()))
     else none
    else none
   else none
def e51 (fu : Nat) : Ent := ⟨51, (.cons (.hole (.sl T_api_Entry)) (.cons (.clo 52 0 .nil 1 (.cons (.box 83 1 (.cons (.box 90 1 (.cons (.own .app 5 (.int .u8)) .nil)) .nil)) .nil)) .nil)), (.cons (.agg 1 (.cons (.ptr 1) .nil)) (.cons (.agg 1 (.cons (.own .app 5 (.int .u8)) .nil)) (.cons .dead .nil))), (.own .own 51 T_api_Entry), p51 fu⟩
def d51 (fu : Nat) : DC := (.seq (.region [(⟨(some 4), none, (.mov (.const (.slice none 0 0)))⟩, .none)] [[]] false) (.seq (.seq (.region [(⟨(some 8), none, (.mov (.tmp 0))⟩, .none), (⟨(some 9), none, (.len false (.tmp 8))⟩, .none), (⟨(some 10), none, (.bin .eql (.tmp 9) (.const (.int .i64 0)))⟩, .none)] [[], [0], [1]] false) (.cond (.tmp 10) (.seq (.region [(⟨(some 4), none, (.mov (.const (.slice none 0 0)))⟩, .none)] [[]] false) .ret) .skip)) (.seq (.region [(⟨(some 11), none, (.mov (.tmp 0))⟩, .none), (⟨(some 12), none, (.len false (.tmp 11))⟩, .none), (⟨(some 13), none, (.make false 51 6 [(.int .u64 0), (.int .u64 0), (.int .i64 0), (.slice none 0 0), (.slice none 0 0), (.slice none 0 0)] 96 (.tmp 12) (.tmp 12))⟩, (.ty T_api_Entry)), (⟨(some 5), none, (.mov (.tmp 13))⟩, .none)] [[], [0], [1, 1], [2, 0, 1, 2]] false) (.seq (.seq (.region [(⟨(some 14), none, (.mov (.tmp 0))⟩, .none), (⟨(some 15), none, (.len false (.tmp 14))⟩, .none), (⟨(some 16), none, (.mov (.const (.int .i64 0)))⟩, .none)] [[], [0], []] false) (.block 0 (.loop ⟨[5, 16], (.cons (.own .own 51 T_api_Entry) (.cons (.hole (.int .i64)) .nil)), [(0, 83, 1), (1, 90, 1)], (.cons (.agg 1 (.cons (.ptr 1) .nil)) (.cons (.agg 1 (.cons (.own .app 5 (.int .u8)) .nil)) .nil)), [1, 14, 15], [2]⟩
 (.seq (.region [(⟨(some 17), none, (.bin .lss (.tmp 16) (.tmp 15))⟩, .none)] [[]] false) (.seq (.cond (.tmp 17) .skip (.exit 0)) (.seq (.block 1 (.seq (.region [(⟨(some 18), none, (.mov (.tmp 16))⟩, .none), (⟨(some 19), none, (.iaddr 6 (.tmp 14) (.tmp 16))⟩, .none), (⟨(some 20), none, (.load true 6 (.tmp 19))⟩, .none), (⟨(some 7), none, (.alloc 51 6 [(.int .u64 0), (.int .u64 0), (.int .i64 0), (.slice none 0 0), (.slice none 0 0), (.slice none 0 0)])⟩, .none), (⟨(some 6), none, (.mov (.tmp 18))⟩, .none), (⟨none, none, (.store 6 (.tmp 7) (.tmp 20))⟩, .none)] [[], [], [1], [], [0, 0, 1, 2, 3], [3, 2, 4, 0, 1, 2, 3, 4]] false) (.region [(⟨(some 21), none, (.mov (.tmp 5))⟩, .none), (⟨(some 22), none, (.mov (.tmp 6))⟩, .none), (⟨(some 23), none, (.mov (.tmp 1))⟩, .none), (⟨(some 24), none, (.load true 6 (.tmp 7))⟩, .none), (⟨(some 25), none, (.callv (.tmp 23) [(.tmp 24)])⟩, (.ent (e52 fu))), (⟨(some 26), none, (.iaddr 6 (.tmp 21) (.tmp 22))⟩, .none), (⟨none, none, (.store 6 (.tmp 26) (.tmp 25))⟩, .none)] [[], [], [], [], [2, 3], [0, 1, 0, 1, 2, 3, 4], [5, 4, 4, 0, 1, 2, 3, 4]] false))) (.region [(⟨(some 27), none, (.bin .add (.tmp 16) (.const (.int .i64 1)))⟩, .none), (⟨(some 16), none, (.mov (.tmp 27))⟩, .none)] [[], [0]] false))))))) (.seq (.region [(⟨(some 28), none, (.mov (.tmp 5))⟩, .none), (⟨(some 4), none, (.mov (.tmp 28))⟩, .none)] [[], [0, 0]] false) .ret)))))
set_option maxRecDepth 1000000 in
theorem v51 (fu : Nat) : evF fu (d51 fu) rs51 29 (e51 fu).ash (e51 fu).osh (e51 fu).vsh = p51 fu := by kernel_rfl
set_option maxRecDepth 1000000 in
theorem b51 (fu : Nat) : BodyD Try.prog 51 29 (d51 fu).erase rs51 := bodyD_mk Try.func51 (by kernel_rfl) (by kernel_rfl) (by kernel_rfl) (by kernel_rfl)
theorem g51 (fu : Nat) : (e51 fu).Good Try.prog := good_by orders (b51 fu) (l := [e52 fu]) (by kernel_rfl) ⟨g52 fu, trivial⟩ (by kernel_rfl) (v51 fu)
def rs30 : List RVx := [(.tmp 2)]
/-- gazette/copies.Entries -/
def p30 (fu : Nat) : (List (D_api_Entry)) × (Unit) → Option ((Unit) × (List (D_api_Entry))) := fun ⟨a0, _⟩ =>
  loopO (S := ((Int) × ((Int) × (Unit))) × (Unit)) fu (fun ⟨⟨v3, v8, _⟩, _⟩ =>
    bif decide (v8 < (List.length a0 : Int)) then
     bif decide ((0 : Int) ≤ v8 ∧ v8 < (List.length a0 : Int)) then
      bif decide (Int.toNat v8 < List.length a0) then
       some (.inl ((IntKind.wrap .i64 (v3 + (List.length (((((List.getD a0 (Int.toNat v8) (dflt T_api_Entry)).2).2).2).1) : Int)), IntKind.wrap .i64 (v8 + (1 : Int)), ()), ()))
      else none
     else none
    else
     inrO (Option.bind (p50 fu (v3, ())) fun ⟨_, ⟨r56, _⟩⟩ =>
     bif decide (List.length r56 = List.length r56) then
      Option.bind (p51 fu (a0, ((), (((r56, ()), ()), ())), ())) fun ⟨⟨⟨_, _⟩, ⟨r57, _⟩, _, _⟩, r57_1⟩ =>
      bif decide (List.length r57_1 = List.length r57_1) then
       some ((), r57_1)
      else none
     else none))
   (((0 : Int), (0 : Int), ()), ())
def e30 (fu : Nat) : Ent := ⟨30, (.cons (.hole (.sl T_api_Entry)) .nil), .nil, (.own .own 51 T_api_Entry), p30 fu⟩
def d30 (fu : Nat) : DC := (.seq (.region [(⟨(some 2), none, (.mov (.const (.slice none 0 0)))⟩, .none)] [[]] false) (.seq (.region [(⟨(some 3), none, (.mov (.const (.int .i64 0)))⟩, .none)] [[]] false) (.seq (.seq (.region [(⟨(some 6), none, (.mov (.tmp 0))⟩, .none), (⟨(some 7), none, (.len false (.tmp 6))⟩, .none), (⟨(some 8), none, (.mov (.const (.int .i64 0)))⟩, .none)] [[], [0], []] false) (.block 0 (.loop ⟨[3, 8], (.cons (.hole (.int .i64)) (.cons (.hole (.int .i64)) .nil)), [], .nil, [0, 7], []⟩
 (.seq (.region [(⟨(some 9), none, (.bin .lss (.tmp 8) (.tmp 7))⟩, .none)] [[]] false) (.seq (.cond (.tmp 9) .skip (.exit 0)) (.seq (.block 1 (.seq (.region [(⟨(some 10), none, (.mov (.tmp 8))⟩, .none), (⟨(some 4), none, (.mov (.tmp 10))⟩, .none)] [[], [0, 0]] false) (.region [(⟨(some 11), none, (.mov (.tmp 3))⟩, .none), (⟨(some 12), none, (.mov (.tmp 0))⟩, .none), (⟨(some 13), none, (.mov (.tmp 4))⟩, .none), (⟨(some 14), none, (.iaddr 6 (.tmp 12) (.tmp 13))⟩, .none), (⟨(some 15), none, (.faddr 3 (.tmp 14))⟩, .none), (⟨(some 16), none, (.load false 1 (.tmp 15))⟩, .none), (⟨(some 17), none, (.len false (.tmp 16))⟩, .none), (⟨(some 18), none, (.bin .add (.tmp 11) (.tmp 17))⟩, .none), (⟨(some 3), none, (.mov (.tmp 18))⟩, .none)] [[], [], [], [1, 2], [3], [4], [5], [0, 6], [7, 0, 1, 2, 3, 4, 5, 6, 7]] false))) (.region [(⟨(some 19), none, (.bin .add (.tmp 8) (.const (.int .i64 1)))⟩, .none), (⟨(some 8), none, (.mov (.tmp 19))⟩, .none)] [[], [0]] false))))))) (.seq (.region [(⟨(some 20), none, (.mov (.tmp 3))⟩, .none), (⟨(some 21), none, (.call 50 [(.tmp 20)])⟩, (.ent (e50 fu))), (⟨(some 5), none, (.alloc 83 1 [(.pointer none)])⟩, .none), (⟨none, none, (.store 1 (.tmp 5) (.tmp 21))⟩, .none)] [[], [0], [], [2, 1, 1, 0, 1, 2]] false) (.seq (.region [(⟨(some 22), none, (.mov (.tmp 0))⟩, .none), (⟨(some 23), none, (.fn 52 [] [(.tmp 5)])⟩, .none), (⟨(some 24), none, (.call 51 [(.tmp 22), (.tmp 23)])⟩, (.ent (e51 fu))), (⟨(some 2), none, (.mov (.tmp 24))⟩, .none)] [[], [], [0, 1], [2, 2, 0, 1, 2]] false) .ret)))))
set_option maxRecDepth 1000000 in
theorem v30 (fu : Nat) : evF fu (d30 fu) rs30 25 (e30 fu).ash (e30 fu).osh (e30 fu).vsh = p30 fu := by kernel_rfl
set_option maxRecDepth 1000000 in
theorem b30 (fu : Nat) : BodyD Try.prog 30 25 (d30 fu).erase rs30 := bodyD_mk Try.func30 (by kernel_rfl) (by kernel_rfl) (by kernel_rfl) (by kernel_rfl)
theorem g30 (fu : Nat) : (e30 fu).Good Try.prog := good_by orders (b30 fu) (l := [e50 fu, e51 fu]) (by kernel_rfl) ⟨g50 fu, g51 fu, trivial⟩ (by kernel_rfl) (v30 fu)
def rs11 : List RVx := [(.tmp 6), (.tmp 7)]
/-- gazette/raftlog.Slice -/
def p11 (fu : Nat) : ((Int) × ((Int) × ((List (Int)) × ((List (Int)) × ((List (Int)) × ((List (D_api_Entry)) × (Unit))))))) × ((Int) × ((Int) × (Unit))) → Option ((Unit) × ((List (D_api_Entry)) × ((Int) × (Unit)))) := fun ⟨⟨a0, a1, a2, a3, a4, a5, _⟩, a6, a7, _⟩ =>
  Option.bind (p22 fu ((a0, a1, a2, a3, a4, a5, ()), ())) fun ⟨_, ⟨r59, r59_1, _⟩⟩ =>
  bif decide (a6 ≤ a0) then
   some ((), ([], (61 : Int), ()))
  else
   bif decide ((IntKind.wrap .u64 (a6 - (1 : Int))) > r59) then
    some ((), ([], (61 : Int), ()))
   else
    Option.bind (p29 fu ((a0, a1, a2, a3, a4, a5, ()), a6, ())) fun ⟨_, r60⟩ =>
    bif decide ((0 : Int) ≤ r60) then
     bif decide (Int.toNat r60 ≤ List.length a5) then
      bif decide ((0 : Int) ≤ (if (List.length (slice' a5 (Int.toNat r60) none) : Int) < (if (0 : Int) > a7 then (0 : Int) else a7) then (List.length (slice' a5 (Int.toNat r60) none) : Int) else (if (0 : Int) > a7 then (0 : Int) else a7))) then
       bif decide (0 ≤ Int.toNat (if (List.length (slice' a5 (Int.toNat r60) none) : Int) < (if (0 : Int) > a7 then (0 : Int) else a7) then (List.length (slice' a5 (Int.toNat r60) none) : Int) else (if (0 : Int) > a7 then (0 : Int) else a7)) ∧ Int.toNat (if (List.length (slice' a5 (Int.toNat r60) none) : Int) < (if (0 : Int) > a7 then (0 : Int) else a7) then (List.length (slice' a5 (Int.toNat r60) none) : Int) else (if (0 : Int) > a7 then (0 : Int) else a7)) ≤ List.length (slice' a5 (Int.toNat r60) none)) then
        Option.bind (p30 fu (List.take (Int.toNat (if (List.length (slice' a5 (Int.toNat r60) none) : Int) < (if (0 : Int) > a7 then (0 : Int) else a7) then (List.length (slice' a5 (Int.toNat r60) none) : Int) else (if (0 : Int) > a7 then (0 : Int) else a7))) (slice' a5 (Int.toNat r60) none), ())) fun ⟨_, r61⟩ =>
        bif decide (List.length r61 = List.length r61) then
         some ((), (r61, (0 : Int), ()))
        else none
       else none
      else none
     else none
    else none
def e11 (fu : Nat) : Ent := ⟨11, (.cons (.agg 6 (.cons (.hole (.int .u64)) (.cons (.hole (.int .u64)) (.cons (.hole (.sl (.int .i64))) (.cons (.hole (.sl (.int .i64))) (.cons (.hole (.sl (.int .u8))) (.cons (.hole (.sl T_api_Entry)) .nil))))))) (.cons (.hole (.int .u64)) (.cons (.hole (.int .i64)) .nil))), .nil, (.tup 2 (.cons (.own .own 51 T_api_Entry) (.cons (.hole (.int .i64)) .nil))), p11 fu⟩
def d11 (fu : Nat) : DC := (.seq (.region [(⟨(some 3), none, (.box 31 6 (.tmp 0))⟩, .none), (⟨(some 6), none, (.mov (.const (.slice none 0 0)))⟩, .none), (⟨(some 7), none, (.mov (.const (.int .i64 0)))⟩, .none)] [[], [], [1]] false) (.seq (.region [(⟨(some 12), none, (.load true 6 (.tmp 3))⟩, .none), (⟨(some 13), none, (.call 22 [(.tmp 12)])⟩, (.ent (e22 fu))), (⟨(some 11), none, (.mov (.tmp 13))⟩, .none), (⟨(some 14), none, (.ext (.tmp 11) 0)⟩, .none), (⟨(some 15), none, (.ext (.tmp 11) 1)⟩, .none), (⟨(some 8), none, (.mov (.tmp 14))⟩, .none), (⟨(some 9), none, (.mov (.tmp 15))⟩, .none)] [[], [0], [1], [2], [2], [3, 1, 0, 1, 2, 3], [4, 5, 0, 1, 2, 3, 4, 5]] false) (.seq (.seq (.region [(⟨(some 16), none, (.mov (.tmp 1))⟩, .none), (⟨(some 17), none, (.faddr 0 (.tmp 3))⟩, .none), (⟨(some 18), none, (.faddr 0 (.tmp 17))⟩, .none), (⟨(some 19), none, (.load false 1 (.tmp 18))⟩, .none), (⟨(some 20), none, (.bin .leq (.tmp 16) (.tmp 19))⟩, .none), (⟨(some 21), none, (.mov (.tmp 20))⟩, .none), (⟨(some 22), (some (21, false)), (.mov (.tmp 1))⟩, .none), (⟨(some 23), (some (21, false)), (.bin .sub (.tmp 22) (.const (.int .u64 1)))⟩, .none), (⟨(some 24), (some (21, false)), (.mov (.tmp 8))⟩, .none), (⟨(some 25), (some (21, false)), (.bin .gtr (.tmp 23) (.tmp 24))⟩, .none), (⟨(some 26), none, (.pick (.tmp 21) (.const (.bool true)) (.tmp 25))⟩, .none)] [[], [], [1], [2], [0, 3], [4], [5], [6, 5], [5], [7, 8, 5], [5, 9]] false) (.cond (.tmp 26) (.seq (.region [(⟨(some 6), none, (.mov (.const (.slice none 0 0)))⟩, .none), (⟨(some 7), none, (.mov (.const (.int .i64 61)))⟩, .none)] [[], [0, 0]] false) .ret) .skip)) (.seq (.region [(⟨(some 27), none, (.faddr 5 (.tmp 3))⟩, .none), (⟨(some 28), none, (.load false 1 (.tmp 27))⟩, .none), (⟨(some 29), none, (.load true 6 (.tmp 3))⟩, .none), (⟨(some 30), none, (.mov (.tmp 1))⟩, .none), (⟨(some 31), none, (.call 29 [(.tmp 29), (.tmp 30)])⟩, (.ent (e29 fu))), (⟨(some 32), none, (.slc 6 (.tmp 28) (some (.tmp 31)) none)⟩, .none), (⟨(some 10), none, (.mov (.tmp 32))⟩, .none)] [[], [0], [], [], [2, 3], [1, 4], [5, 4, 0, 1, 2, 3, 4, 5]] true) (.seq (.region [(⟨(some 33), none, (.mov (.tmp 10))⟩, .none), (⟨(some 34), none, (.mov (.tmp 2))⟩, .none), (⟨(some 35), none, (.mm true (.tmp 34) (.const (.int .i64 0)))⟩, .none), (⟨(some 36), none, (.mov (.tmp 10))⟩, .none), (⟨(some 37), none, (.len false (.tmp 36))⟩, .none), (⟨(some 38), none, (.mm false (.tmp 35) (.tmp 37))⟩, .none), (⟨(some 39), none, (.slc 6 (.tmp 33) none (some (.tmp 38)))⟩, .none), (⟨(some 40), none, (.call 30 [(.tmp 39)])⟩, (.ent (e30 fu))), (⟨(some 6), none, (.mov (.tmp 40))⟩, .none), (⟨(some 7), none, (.mov (.const (.int .i64 0)))⟩, .none)] [[], [], [1], [], [3], [2, 4], [0, 5], [6], [7, 7, 0, 1, 2, 3, 4, 5, 6, 7], [8, 0, 1, 2, 3, 4, 5, 6, 7, 8]] false) .ret)))))
set_option maxRecDepth 1000000 in
theorem v11 (fu : Nat) : evF fu (d11 fu) rs11 41 (e11 fu).ash (e11 fu).osh (e11 fu).vsh = p11 fu := by kernel_rfl
set_option maxRecDepth 1000000 in
theorem b11 (fu : Nat) : BodyD Try.prog 11 41 (d11 fu).erase rs11 := bodyD_mk Try.func11 (by kernel_rfl) (by kernel_rfl) (by kernel_rfl) (by kernel_rfl)
theorem g11 (fu : Nat) : (e11 fu).Good Try.prog := good_by orders (b11 fu) (l := [e22 fu, e29 fu, e30 fu]) (by kernel_rfl) ⟨g22 fu, g29 fu, g30 fu, trivial⟩ (by kernel_rfl) (v11 fu)
def rs41 : List RVx := [(.tmp 3)]
/-- gazette/raftlog.Merge$1 -/
def p41 (fu : Nat) : ((Int) × ((Int) × ((Int) × ((List (Int)) × ((List (Int)) × ((List (Int)) × (Unit))))))) × (((Int) × ((Int) × ((List (Int)) × ((List (Int)) × ((List (Int)) × ((List (D_api_Entry)) × (Unit))))))) × (Unit)) → Option ((((Int) × ((Int) × ((List (Int)) × ((List (Int)) × ((List (Int)) × ((List (D_api_Entry)) × (Unit))))))) × (Unit)) × (Bool)) := fun ⟨⟨a0, a1, a2, a3, a4, a5, _⟩, ⟨a6, a7, a8, a9, a10, a11, _⟩, _⟩ =>
  Option.bind (p21 fu ((a6, a7, a8, a9, a10, a11, ()), a0, ())) fun ⟨_, ⟨r71, r71_1, _⟩⟩ =>
  bif !r71_1 then
   some (((a6, a7, a8, a9, a10, a11, ()), ()), true)
  else
   some (((a6, a7, a8, a9, a10, a11, ()), ()), (r71 != a1))
def e41 (fu : Nat) : Ent := ⟨41, (.cons (.agg 6 (.cons (.hole (.int .u64)) (.cons (.hole (.int .u64)) (.cons (.hole (.int .i64)) (.cons (.hole (.sl (.int .u8))) (.cons (.hole (.sl (.int .i64))) (.cons (.hole (.sl (.int .i64))) .nil))))))) (.cons (.box 31 6 (.cons (.hole (.int .u64)) (.cons (.hole (.int .u64)) (.cons (.hole (.sl (.int .i64))) (.cons (.hole (.sl (.int .i64))) (.cons (.hole (.sl (.int .u8))) (.cons (.hole (.sl T_api_Entry)) .nil))))))) .nil)), (.cons (.agg 6 (.cons (.hole (.int .u64)) (.cons (.hole (.int .u64)) (.cons (.hole (.sl (.int .i64))) (.cons (.hole (.sl (.int .i64))) (.cons (.hole (.sl (.int .u8))) (.cons (.hole (.sl T_api_Entry)) .nil))))))) .nil), (.hole .bool), p41 fu⟩
def d41 (fu : Nat) : DC := (.seq (.region [(⟨(some 2), none, (.box 51 6 (.tmp 0))⟩, .none), (⟨(some 3), none, (.mov (.const (.bool false)))⟩, .none)] [[], []] false) (.seq (.region [(⟨(some 7), none, (.load true 6 (.tmp 1))⟩, .none), (⟨(some 8), none, (.faddr 0 (.tmp 2))⟩, .none), (⟨(some 9), none, (.load false 1 (.tmp 8))⟩, .none), (⟨(some 10), none, (.call 21 [(.tmp 7), (.tmp 9)])⟩, (.ent (e21 fu))), (⟨(some 6), none, (.mov (.tmp 10))⟩, .none), (⟨(some 11), none, (.ext (.tmp 6) 0)⟩, .none), (⟨(some 12), none, (.ext (.tmp 6) 1)⟩, .none), (⟨(some 4), none, (.mov (.tmp 11))⟩, .none), (⟨(some 5), none, (.mov (.tmp 12))⟩, .none)] [[], [], [1], [0, 2], [3], [4], [4], [5, 3, 0, 1, 2, 3, 4, 5], [6, 7, 0, 1, 2, 3, 4, 5, 6, 7]] false) (.seq (.region [(⟨(some 13), none, (.mov (.tmp 5))⟩, .none), (⟨(some 14), none, (.not (.tmp 13))⟩, .none), (⟨(some 15), none, (.mov (.tmp 14))⟩, .none), (⟨(some 16), (some (15, false)), (.mov (.tmp 4))⟩, .none), (⟨(some 17), (some (15, false)), (.faddr 1 (.tmp 2))⟩, .none), (⟨(some 18), (some (15, false)), (.load false 1 (.tmp 17))⟩, .none), (⟨(some 19), (some (15, false)), (.bin .neq (.tmp 16) (.tmp 18))⟩, .none), (⟨(some 20), none, (.pick (.tmp 15) (.const (.bool true)) (.tmp 19))⟩, .none), (⟨(some 3), none, (.mov (.tmp 20))⟩, .none)] [[], [0], [1], [2], [2], [4, 2], [3, 5, 2], [2, 6], [7, 2, 0, 1, 2, 3, 4, 5, 6, 7]] false) .ret)))
set_option maxRecDepth 1000000 in
theorem v41 (fu : Nat) : evF fu (d41 fu) rs41 21 (e41 fu).ash (e41 fu).osh (e41 fu).vsh = p41 fu := by kernel_rfl
set_option maxRecDepth 1000000 in
theorem b41 (fu : Nat) : BodyD Try.prog 41 21 (d41 fu).erase rs41 := bodyD_mk Try.func41 (by kernel_rfl) (by kernel_rfl) (by kernel_rfl) (by kernel_rfl)
theorem g41 (fu : Nat) : (e41 fu).Good Try.prog := good_by orders (b41 fu) (l := [e21 fu]) (by kernel_rfl) ⟨g21 fu, trivial⟩ (by kernel_rfl) (v41 fu)
def rs40 : List RVx := [(.tmp 4)]
/-- slices.IndexFunc[[]gazette/api.Entry,gazette/api.Entry] -/
def p40 (fu : Nat) : (List (D_api_Entry)) × (((Unit) × (((Int) × ((Int) × ((List (Int)) × ((List (Int)) × ((List (Int)) × ((List (D_api_Entry)) × (Unit))))))) × (Unit))) × (Unit)) → Option ((((Int) × ((Int) × ((List (Int)) × ((List (Int)) × ((List (Int)) × ((List (D_api_Entry)) × (Unit))))))) × (Unit)) × (Int)) := fun ⟨a0, ⟨_, ⟨⟨a1, a2, a3, a4, a5, a6, _⟩, _⟩⟩, _⟩ =>
  loopO (S := ((Int) × (Unit)) × (((Int) × ((Int) × ((List (Int)) × ((List (Int)) × ((List (Int)) × ((List (D_api_Entry)) × (Unit))))))) × (Unit))) fu (fun ⟨⟨v8, _⟩, ⟨⟨v1000, v1000_1, v1000_2, v1000_3, v1000_4, v1000_5, _⟩, _⟩⟩ =>
    bif decide (v8 < (List.length a0 : Int)) then
     bif decide ((0 : Int) ≤ v8 ∧ v8 < (List.length a0 : Int)) then
      bif decide (Int.toNat v8 < List.length a0) then
       Option.bind (p41 fu (((List.getD a0 (Int.toNat v8) (dflt T_api_Entry)).1, ((List.getD a0 (Int.toNat v8) (dflt T_api_Entry)).2).1, (((List.getD a0 (Int.toNat v8) (dflt T_api_Entry)).2).2).1, ((((List.getD a0 (Int.toNat v8) (dflt T_api_Entry)).2).2).2).1, (((((List.getD a0 (Int.toNat v8) (dflt T_api_Entry)).2).2).2).2).1, (((((List.getD a0 (Int.toNat v8) (dflt T_api_Entry)).2).2).2).2).2, ()), (v1000, v1000_1, v1000_2, v1000_3, v1000_4, v1000_5, ()), ())) fun ⟨⟨⟨r75, r75_1, r75_2, r75_3, r75_4, r75_5, _⟩, _⟩, r75_6⟩ =>
       bif r75_6 then
        inrO (some (((r75, r75_1, r75_2, r75_3, r75_4, r75_5, ()), ()), v8))
       else
        some (.inl ((IntKind.wrap .i64 (v8 + (1 : Int)), ()), ((r75, r75_1, r75_2, r75_3, r75_4, r75_5, ()), ())))
      else none
     else none
    else
     inrO (some (((v1000, v1000_1, v1000_2, v1000_3, v1000_4, v1000_5, ()), ()), ((-1) : Int))))
   (((0 : Int), ()), ((a1, a2, a3, a4, a5, a6, ()), ()))
def e40 (fu : Nat) : Ent := ⟨40, (.cons (.hole (.sl T_api_Entry)) (.cons (.clo 41 0 .nil 1 (.cons (.box 31 6 (.cons (.hole (.int .u64)) (.cons (.hole (.int .u64)) (.cons (.hole (.sl (.int .i64))) (.cons (.hole (.sl (.int .i64))) (.cons (.hole (.sl (.int .u8))) (.cons (.hole (.sl T_api_Entry)) .nil))))))) .nil)) .nil)), (.cons (.agg 6 (.cons (.hole (.int .u64)) (.cons (.hole (.int .u64)) (.cons (.hole (.sl (.int .i64))) (.cons (.hole (.sl (.int .i64))) (.cons (.hole (.sl (.int .u8))) (.cons (.hole (.sl T_api_Entry)) .nil))))))) .nil), (.hole (.int .i64)), p40 fu⟩
def d40 (fu : Nat) : DC := (.seq (.region [(⟨(some 4), none, (.mov (.const (.int .i64 0)))⟩, .none)] [[]] false) (.seq (.seq (.region [(⟨(some 6), none, (.mov (.tmp 0))⟩, .none), (⟨(some 7), none, (.len false (.tmp 6))⟩, .none), (⟨(some 8), none, (.mov (.const (.int .i64 0)))⟩, .none)] [[], [0], []] false) (.block 0 (.loop ⟨[8], (.cons (.hole (.int .i64)) .nil), [(0, 31, 6)], (.cons (.agg 6 (.cons (.hole (.int .u64)) (.cons (.hole (.int .u64)) (.cons (.hole (.sl (.int .i64))) (.cons (.hole (.sl (.int .i64))) (.cons (.hole (.sl (.int .u8))) (.cons (.hole (.sl T_api_Entry)) .nil))))))) .nil), [0, 1, 7], []⟩
 (.seq (.region [(⟨(some 9), none, (.bin .lss (.tmp 8) (.tmp 7))⟩, .none)] [[]] false) (.seq (.cond (.tmp 9) .skip (.exit 0)) (.seq (.block 1 (.seq (.region [(⟨(some 10), none, (.mov (.tmp 8))⟩, .none), (⟨(some 5), none, (.mov (.tmp 10))⟩, .none)] [[], [0, 0]] false) (.seq (.region [(⟨(some 11), none, (.mov (.tmp 1))⟩, .none), (⟨(some 12), none, (.mov (.tmp 0))⟩, .none), (⟨(some 13), none, (.mov (.tmp 5))⟩, .none), (⟨(some 14), none, (.iaddr 6 (.tmp 12) (.tmp 13))⟩, .none), (⟨(some 15), none, (.load true 6 (.tmp 14))⟩, .none), (⟨(some 16), none, (.callv (.tmp 11) [(.tmp 15)])⟩, (.ent (e41 fu)))] [[], [], [], [1, 2], [3], [0, 4]] false) (.cond (.tmp 16) (.seq (.region [(⟨(some 17), none, (.mov (.tmp 5))⟩, .none), (⟨(some 4), none, (.mov (.tmp 17))⟩, .none)] [[], [0, 0]] false) .ret) .skip)))) (.region [(⟨(some 18), none, (.bin .add (.tmp 8) (.const (.int .i64 1)))⟩, .none), (⟨(some 8), none, (.mov (.tmp 18))⟩, .none)] [[], [0]] false))))))) (.seq (.region [(⟨(some 4), none, (.mov (.const (.int .i64 (-1))))⟩, .none)] [[]] false) .ret)))
set_option maxRecDepth 1000000 in
theorem v40 (fu : Nat) : evF fu (d40 fu) rs40 19 (e40 fu).ash (e40 fu).osh (e40 fu).vsh = p40 fu := by kernel_rfl
set_option maxRecDepth 1000000 in
theorem b40 (fu : Nat) : BodyD Try.prog 40 19 (d40 fu).erase rs40 := bodyD_mk Try.func40 (by kernel_rfl) (by kernel_rfl) (by kernel_rfl) (by kernel_rfl)
theorem g40 (fu : Nat) : (e40 fu).Good Try.prog := good_by orders (b40 fu) (l := [e41 fu]) (by kernel_rfl) ⟨g41 fu, trivial⟩ (by kernel_rfl) (v40 fu)
def rs36 : List RVx := [(.tmp 2)]
/-- gazette/copies.List[byte] -/
def p36 (fu : Nat) : (List (Int)) × (Unit) → Option ((Unit) × (List (Int))) := fun ⟨a0, _⟩ =>
  bif ((List.length a0 : Int) == (0 : Int)) then
   some ((), [])
  else
   bif decide ((0 : Int) ≤ (List.length a0 : Int) ∧ ((List.length a0 : Int) : Int) ≤ (List.length a0 : Int) ∧ ((List.length a0 : Int) : Int) ≤ 9223372036854775807 ∧ (1 : Int) * (List.length a0 : Int) ≤ 140737488355328) then
    bif decide (Int.toNat (List.length a0 : Int) = List.length (List.replicate (Int.toNat (List.length a0 : Int)) (0 : Int) : List (Int))) then
     bif decide (Int.toNat (List.length a0 : Int) = List.length (copyL (List.replicate (Int.toNat (List.length a0 : Int)) (0 : Int) : List (Int)) 0 (Int.toNat (List.length a0 : Int)) a0)) then
      some ((), (copyL (List.replicate (Int.toNat (List.length a0 : Int)) (0 : Int) : List (Int)) 0 (Int.toNat (List.length a0 : Int)) a0))
     else none
    else none
   else none
def e36 (fu : Nat) : Ent := ⟨36, (.cons (.hole (.sl (.int .u8))) .nil), .nil, (.own .own 5 (.int .u8)), p36 fu⟩
def d36 (fu : Nat) : DC := (.seq (.region [(⟨(some 2), none, (.mov (.const (.slice none 0 0)))⟩, .none)] [[]] false) (.seq (.seq (.region [(⟨(some 4), none, (.mov (.tmp 0))⟩, .none), (⟨(some 5), none, (.len false (.tmp 4))⟩, .none), (⟨(some 6), none, (.bin .eql (.tmp 5) (.const (.int .i64 0)))⟩, .none)] [[], [0], [1]] false) (.cond (.tmp 6) (.seq (.region [(⟨(some 2), none, (.mov (.const (.slice none 0 0)))⟩, .none)] [[]] false) .ret) .skip)) (.seq (.region [(⟨(some 7), none, (.mov (.tmp 0))⟩, .none), (⟨(some 8), none, (.len false (.tmp 7))⟩, .none), (⟨(some 9), none, (.make false 5 1 [(.int .u8 0)] 1 (.tmp 8) (.tmp 8))⟩, (.ty (.int .u8))), (⟨(some 3), none, (.mov (.tmp 9))⟩, .none)] [[], [0], [1, 1], [2, 0, 1, 2]] false) (.seq (.region [(⟨(some 10), none, (.mov (.tmp 3))⟩, .none), (⟨(some 11), none, (.mov (.tmp 0))⟩, .none), (⟨(some 12), none, (.copy 1 (.tmp 10) (.tmp 11))⟩, .none)] [[], [], [0, 1]] false) (.seq (.region [(⟨(some 13), none, (.mov (.tmp 3))⟩, .none), (⟨(some 2), none, (.mov (.tmp 13))⟩, .none)] [[], [0, 0]] false) .ret)))))
set_option maxRecDepth 1000000 in
theorem v36 (fu : Nat) : evF fu (d36 fu) rs36 14 (e36 fu).ash (e36 fu).osh (e36 fu).vsh = p36 fu := by kernel_rfl
set_option maxRecDepth 1000000 in
theorem b36 (fu : Nat) : BodyD Try.prog 36 14 (d36 fu).erase rs36 := bodyD_mk Try.func36 (by kernel_rfl) (by kernel_rfl) (by kernel_rfl) (by kernel_rfl)
theorem g36 (fu : Nat) : (e36 fu).Good Try.prog := good_by orders (b36 fu) (l := []) (by kernel_rfl) trivial (by kernel_rfl) (v36 fu)
def rs43 : List RVx := [(.cell 2 true 5)]
/-- gazette/copies.Snap -/
def p43 (fu : Nat) : ((Int) × ((Int) × ((List (Int)) × ((List (Int)) × ((List (Int)) × (Unit)))))) × (Unit) → Option ((Unit) × ((Int) × ((Int) × ((List (Int)) × ((List (Int)) × ((List (Int)) × (Unit))))))) := fun ⟨⟨a0, a1, a2, a3, a4, _⟩, _⟩ =>
  Option.bind (p45 fu ((a2, a3, ()), ())) fun ⟨_, ⟨r79, r79_1, _⟩⟩ =>
  Option.bind (p36 fu (a4, ())) fun ⟨_, r80⟩ =>
  bif decide (List.length r79 = List.length r79) then
   bif decide (List.length r79_1 = List.length r79_1) then
    bif decide (List.length r80 = List.length r80) then
     some ((), (a0, a1, r79, r79_1, r80, ()))
    else none
   else none
  else none
def e43 (fu : Nat) : Ent := ⟨43, (.cons (.agg 5 (.cons (.hole (.int .u64)) (.cons (.hole (.int .u64)) (.cons (.hole (.sl (.int .i64))) (.cons (.hole (.sl (.int .i64))) (.cons (.hole (.sl (.int .u8))) .nil)))))) .nil), .nil, (.agg 5 (.cons (.hole (.int .u64)) (.cons (.hole (.int .u64)) (.cons (.own .own 3 (.int .i64)) (.cons (.own .own 3 (.int .i64)) (.cons (.own .own 5 (.int .u8)) .nil)))))), p43 fu⟩
def d43 (fu : Nat) : DC := (.seq (.region [(⟨(some 1), none, (.box 28 5 (.tmp 0))⟩, .none), (⟨(some 2), none, (.alloc 28 5 [(.int .u64 0), (.int .u64 0), (.slice none 0 0), (.slice none 0 0), (.slice none 0 0)])⟩, .none)] [[], []] false) (.seq (.region [(⟨(some 3), none, (.faddr 2 (.tmp 1))⟩, .none), (⟨(some 4), none, (.load true 2 (.tmp 3))⟩, .none), (⟨(some 5), none, (.call 45 [(.tmp 4)])⟩, (.ent (e45 fu))), (⟨(some 6), none, (.faddr 2 (.tmp 1))⟩, .none), (⟨none, none, (.store 2 (.tmp 6) (.tmp 5))⟩, .none)] [[], [0], [1], [0, 1, 2], [3, 2, 2, 0, 1, 2]] false) (.seq (.region [(⟨(some 7), none, (.faddr 4 (.tmp 1))⟩, .none), (⟨(some 8), none, (.load false 1 (.tmp 7))⟩, .none), (⟨(some 9), none, (.call 36 [(.tmp 8)])⟩, (.ent (e36 fu))), (⟨(some 10), none, (.faddr 4 (.tmp 1))⟩, .none), (⟨none, none, (.store 1 (.tmp 10) (.tmp 9))⟩, .none)] [[], [0], [1], [0, 1, 2], [3, 2, 2, 0, 1, 2]] false) (.seq (.region [(⟨(some 11), none, (.load true 5 (.tmp 1))⟩, .none), (⟨none, none, (.store 5 (.tmp 2) (.tmp 11))⟩, .none)] [[], [0, 0]] false) .ret))))
set_option maxRecDepth 1000000 in
theorem v43 (fu : Nat) : evF fu (d43 fu) rs43 12 (e43 fu).ash (e43 fu).osh (e43 fu).vsh = p43 fu := by kernel_rfl
set_option maxRecDepth 1000000 in
theorem b43 (fu : Nat) : BodyD Try.prog 43 12 (d43 fu).erase rs43 := bodyD_mk Try.func43 (by kernel_rfl) (by kernel_rfl) (by kernel_rfl) (by kernel_rfl)
theorem g43 (fu : Nat) : (e43 fu).Good Try.prog := good_by orders (b43 fu) (l := [e45 fu, e36 fu]) (by kernel_rfl) ⟨g45 fu, g36 fu, trivial⟩ (by kernel_rfl) (v43 fu)
def rs42 : List RVx := [(.cell 2 true 6)]
/-- gazette/copies.Log -/
def p42 (fu : Nat) : ((Int) × ((Int) × ((List (Int)) × ((List (Int)) × ((List (Int)) × ((List (D_api_Entry)) × (Unit))))))) × (Unit) → Option ((Unit) × ((Int) × ((Int) × ((List (Int)) × ((List (Int)) × ((List (Int)) × ((List (D_api_Entry)) × (Unit)))))))) := fun ⟨⟨a0, a1, a2, a3, a4, a5, _⟩, _⟩ =>
  Option.bind (p43 fu ((a0, a1, a2, a3, a4, ()), ())) fun ⟨_, ⟨r83, r83_1, r83_2, r83_3, r83_4, _⟩⟩ =>
  Option.bind (p30 fu (a5, ())) fun ⟨_, r84⟩ =>
  bif decide (List.length r83_2 = List.length r83_2) then
   bif decide (List.length r83_3 = List.length r83_3) then
    bif decide (List.length r83_4 = List.length r83_4) then
     bif decide (List.length r84 = List.length r84) then
      some ((), (r83, r83_1, r83_2, r83_3, r83_4, r84, ()))
     else none
    else none
   else none
  else none
def e42 (fu : Nat) : Ent := ⟨42, (.cons (.agg 6 (.cons (.hole (.int .u64)) (.cons (.hole (.int .u64)) (.cons (.hole (.sl (.int .i64))) (.cons (.hole (.sl (.int .i64))) (.cons (.hole (.sl (.int .u8))) (.cons (.hole (.sl T_api_Entry)) .nil))))))) .nil), .nil, (.agg 6 (.cons (.hole (.int .u64)) (.cons (.hole (.int .u64)) (.cons (.own .own 3 (.int .i64)) (.cons (.own .own 3 (.int .i64)) (.cons (.own .own 5 (.int .u8)) (.cons (.own .own 51 T_api_Entry) .nil))))))), p42 fu⟩
def d42 (fu : Nat) : DC := (.seq (.region [(⟨(some 1), none, (.box 31 6 (.tmp 0))⟩, .none), (⟨(some 2), none, (.alloc 31 6 [(.int .u64 0), (.int .u64 0), (.slice none 0 0), (.slice none 0 0), (.slice none 0 0), (.slice none 0 0)])⟩, .none)] [[], []] false) (.seq (.region [(⟨(some 3), none, (.faddr 0 (.tmp 1))⟩, .none), (⟨(some 4), none, (.load true 5 (.tmp 3))⟩, .none), (⟨(some 5), none, (.call 43 [(.tmp 4)])⟩, (.ent (e43 fu))), (⟨(some 6), none, (.faddr 5 (.tmp 1))⟩, .none), (⟨(some 7), none, (.load false 1 (.tmp 6))⟩, .none), (⟨(some 8), none, (.call 30 [(.tmp 7)])⟩, (.ent (e30 fu))), (⟨(some 9), none, (.build 6 [(.int .u64 0), (.int .u64 0), (.slice none 0 0), (.slice none 0 0), (.slice none 0 0), (.slice none 0 0)] [(0, (5, (.tmp 5))), (5, (1, (.tmp 8)))])⟩, .none), (⟨none, none, (.store 6 (.tmp 2) (.tmp 9))⟩, .none)] [[], [0], [1], [], [3], [4, 2], [2, 5], [6, 5, 0, 1, 2, 3, 4, 5, 6]] true) .ret))
set_option maxRecDepth 1000000 in
theorem v42 (fu : Nat) : evF fu (d42 fu) rs42 10 (e42 fu).ash (e42 fu).osh (e42 fu).vsh = p42 fu := by kernel_rfl
set_option maxRecDepth 1000000 in
theorem b42 (fu : Nat) : BodyD Try.prog 42 10 (d42 fu).erase rs42 := bodyD_mk Try.func42 (by kernel_rfl) (by kernel_rfl) (by kernel_rfl) (by kernel_rfl)
theorem g42 (fu : Nat) : (e42 fu).Good Try.prog := good_by orders (b42 fu) (l := [e43 fu, e30 fu]) (by kernel_rfl) ⟨g43 fu, g30 fu, trivial⟩ (by kernel_rfl) (v42 fu)
def rs19 : List RVx := [(.cell 10 true 6), (.tmp 11), (.tmp 12), (.tmp 13)]
/-- gazette/raftlog.Merge -/
def p19 (fu : Nat) : ((Int) × ((Int) × ((List (Int)) × ((List (Int)) × ((List (Int)) × ((List (D_api_Entry)) × (Unit))))))) × ((Int) × ((Int) × ((Int) × ((List (D_api_Entry)) × (Unit))))) → Option ((Unit) × (((Int) × ((Int) × ((List (Int)) × ((List (Int)) × ((List (Int)) × ((List (D_api_Entry)) × (Unit))))))) × ((Int) × ((List (D_api_Entry)) × ((Int) × (Unit)))))) := fun ⟨⟨a0, a1, a2, a3, a4, a5, _⟩, a6, a7, a8, a9, _⟩ =>
  Option.bind (p39 fu (a7, a8, a9, ())) fun ⟨_, r91⟩ =>
  bif !r91 then
   some ((), (((0 : Int), (0 : Int), [], [], [], [], ()), (0 : Int), [], (1 : Int), ()))
  else
   Option.bind (p21 fu ((a0, a1, a2, a3, a4, a5, ()), a7, ())) fun ⟨_, ⟨r92, r92_1, _⟩⟩ =>
   orK (E := ((Bool) × (Unit)) × (Unit))
    (bif !r92_1 then
      some (.inl ((true, ()), ()))
     else
      some (.inl (((r92 != a8), ()), ())))
    fun ⟨⟨v43, _⟩, _⟩ =>
   bif v43 then
    some ((), (((0 : Int), (0 : Int), [], [], [], [], ()), (0 : Int), [], (61 : Int), ()))
   else
    loopO (S := ((Int) × (Unit)) × (Unit)) fu (fun ⟨⟨v47, _⟩, _⟩ =>
      bif decide (v47 < (List.length a9 : Int)) then
       bif decide ((0 : Int) ≤ v47 ∧ v47 < (List.length a9 : Int)) then
        bif decide (Int.toNat v47 < List.length a9) then
         Option.bind (p21 fu ((a0, a1, a2, a3, a4, a5, ()), (List.getD a9 (Int.toNat v47) (dflt T_api_Entry)).1, ())) fun ⟨_, ⟨r93, r93_1, _⟩⟩ =>
         orK (E := ((Bool) × (Unit)) × (Unit))
          (bif decide (((List.getD a9 (Int.toNat v47) (dflt T_api_Entry)).1) ≤ a6) then
            bif r93_1 then
             some (.inl (((r93 != (((List.getD a9 (Int.toNat v47) (dflt T_api_Entry)).2).1)), ()), ()))
            else
             some (.inl ((false, ()), ()))
           else
            some (.inl ((false, ()), ())))
          fun ⟨⟨v70, _⟩, _⟩ =>
         bif v70 then
          inrO (some ((), (((0 : Int), (0 : Int), [], [], [], [], ()), (0 : Int), [], (62 : Int), ())))
         else
          some (.inl ((IntKind.wrap .i64 (v47 + (1 : Int)), ()), ()))
        else none
       else none
      else
       inrO (Option.bind (p40 fu (a9, ((), ((a0, a1, a2, a3, a4, a5, ()), ())), ())) fun ⟨⟨⟨r94, r94_1, r94_2, r94_3, r94_4, r94_5, _⟩, _⟩, r94_6⟩ =>
       bif decide (r94_6 < (0 : Int)) then
        Option.bind (p42 fu ((r94, r94_1, r94_2, r94_3, r94_4, r94_5, ()), ())) fun ⟨_, ⟨r95, r95_1, r95_2, r95_3, r95_4, r95_5, _⟩⟩ =>
        bif decide (List.length r95_2 = List.length r95_2) then
         bif decide (List.length r95_3 = List.length r95_3) then
          bif decide (List.length r95_4 = List.length r95_4) then
           bif decide (List.length r95_5 = List.length r95_5) then
            some ((), ((r95, r95_1, r95_2, r95_3, r95_4, r95_5, ()), (0 : Int), [], (0 : Int), ()))
           else none
          else none
         else none
        else none
       else
        bif decide ((0 : Int) ≤ r94_6) then
         bif decide (Int.toNat r94_6 ≤ List.length a9) then
          bif decide ((0 : Int) ≤ 0 ∧ 0 < (List.length (slice' a9 (Int.toNat r94_6) none) : Int)) then
           bif decide (0 < List.length (slice' a9 (Int.toNat r94_6) none)) then
            Option.bind (p29 fu ((r94, r94_1, r94_2, r94_3, r94_4, r94_5, ()), (List.getD (slice' a9 (Int.toNat r94_6) none) 0 (dflt T_api_Entry)).1, ())) fun ⟨_, r96⟩ =>
            orK (E := ((Int) × (Unit)) × (Unit))
             (bif decide (r96 < (List.length r94_5 : Int)) then
               bif decide ((0 : Int) ≤ 0 ∧ 0 < (List.length (slice' a9 (Int.toNat r94_6) none) : Int)) then
                bif decide (0 < List.length (slice' a9 (Int.toNat r94_6) none)) then
                 some (.inl (((List.getD (slice' a9 (Int.toNat r94_6) none) 0 (dflt T_api_Entry)).1, ()), ()))
                else none
               else none
              else
               some (.inl (((0 : Int), ()), ())))
             fun ⟨⟨v23, _⟩, _⟩ =>
            bif decide ((0 : Int) ≤ r96) then
             bif decide (0 ≤ Int.toNat r96 ∧ Int.toNat r96 ≤ List.length r94_5) then
              Option.bind (p30 fu (List.take (Int.toNat r96) r94_5, ())) fun ⟨_, r97⟩ =>
              Option.bind (p30 fu (slice' a9 (Int.toNat r94_6) none, ())) fun ⟨_, r98⟩ =>
              bif decide (List.length r97 = List.length r97) then
               bif decide (List.length r98 = List.length r98) then
                bif decide (List.length r97 + List.length r98 ≤ maxLen ∧ (List.length r97 + List.length r98) * 96 ≤ 140737488355328) then
                 Option.bind (p43 fu ((r94, r94_1, r94_2, r94_3, r94_4, ()), ())) fun ⟨_, ⟨r99, r99_1, r99_2, r99_3, r99_4, _⟩⟩ =>
                 Option.bind (p30 fu (slice' a9 (Int.toNat r94_6) none, ())) fun ⟨_, r100⟩ =>
                 bif decide (List.length r99_2 = List.length r99_2) then
                  bif decide (List.length r99_3 = List.length r99_3) then
                   bif decide (List.length r99_4 = List.length r99_4) then
                    bif decide (List.length (r97 ++ r98) = List.length (r97 ++ r98)) then
                     bif decide (List.length r100 = List.length r100) then
                      some ((), ((r99, r99_1, r99_2, r99_3, r99_4, (r97 ++ r98), ()), v23, r100, (0 : Int), ()))
                     else none
                    else none
                   else none
                  else none
                 else none
                else none
               else none
              else none
             else none
            else none
           else none
          else none
         else none
        else none))
     (((0 : Int), ()), ())
def e19 (fu : Nat) : Ent := ⟨19, (.cons (.agg 6 (.cons (.hole (.int .u64)) (.cons (.hole (.int .u64)) (.cons (.hole (.sl (.int .i64))) (.cons (.hole (.sl (.int .i64))) (.cons (.hole (.sl (.int .u8))) (.cons (.hole (.sl T_api_Entry)) .nil))))))) (.cons (.hole (.int .u64)) (.cons (.hole (.int .u64)) (.cons (.hole (.int .u64)) (.cons (.hole (.sl T_api_Entry)) .nil))))), .nil, (.tup 4 (.cons (.agg 6 (.cons (.hole (.int .u64)) (.cons (.hole (.int .u64)) (.cons (.own .own 3 (.int .i64)) (.cons (.own .own 3 (.int .i64)) (.cons (.own .own 5 (.int .u8)) (.cons (.own .own 51 T_api_Entry) .nil))))))) (.cons (.hole (.int .u64)) (.cons (.own .own 51 T_api_Entry) (.cons (.hole (.int .i64)) .nil))))), p19 fu⟩
def d19 (fu : Nat) : DC := (.seq (.region [(⟨(some 5), none, (.box 31 6 (.tmp 0))⟩, .none), (⟨(some 10), none, (.alloc 31 6 [(.int .u64 0), (.int .u64 0), (.slice none 0 0), (.slice none 0 0), (.slice none 0 0), (.slice none 0 0)])⟩, .none), (⟨(some 11), none, (.mov (.const (.int .u64 0)))⟩, .none), (⟨(some 12), none, (.mov (.const (.slice none 0 0)))⟩, .none), (⟨(some 13), none, (.mov (.const (.int .i64 0)))⟩, .none)] [[], [], [], [2], [3]] false) (.seq (.seq (.region [(⟨(some 25), none, (.mov (.tmp 2))⟩, .none), (⟨(some 26), none, (.mov (.tmp 3))⟩, .none), (⟨(some 27), none, (.mov (.tmp 4))⟩, .none), (⟨(some 28), none, (.call 39 [(.tmp 25), (.tmp 26), (.tmp 27)])⟩, (.ent (e39 fu))), (⟨(some 29), none, (.not (.tmp 28))⟩, .none)] [[], [], [], [0, 1, 2], [3]] false) (.cond (.tmp 29) (.seq (.region [(⟨(some 30), none, (.build 6 [(.int .u64 0), (.int .u64 0), (.slice none 0 0), (.slice none 0 0), (.slice none 0 0), (.slice none 0 0)] [])⟩, .none), (⟨none, none, (.store 6 (.tmp 10) (.tmp 30))⟩, .none), (⟨(some 11), none, (.mov (.const (.int .u64 0)))⟩, .none), (⟨(some 12), none, (.mov (.const (.slice none 0 0)))⟩, .none), (⟨(some 13), none, (.mov (.const (.int .i64 1)))⟩, .none)] [[], [0, 0], [1, 0, 1], [2, 0, 1, 2], [3, 0, 1, 2, 3]] false) .ret) .skip)) (.seq (.seq (.region [(⟨(some 32), none, (.load true 6 (.tmp 5))⟩, .none), (⟨(some 33), none, (.mov (.tmp 2))⟩, .none), (⟨(some 34), none, (.call 21 [(.tmp 32), (.tmp 33)])⟩, (.ent (e21 fu))), (⟨(some 31), none, (.mov (.tmp 34))⟩, .none), (⟨(some 35), none, (.ext (.tmp 31) 0)⟩, .none), (⟨(some 36), none, (.ext (.tmp 31) 1)⟩, .none), (⟨(some 14), none, (.mov (.tmp 35))⟩, .none), (⟨(some 15), none, (.mov (.tmp 36))⟩, .none)] [[], [], [0, 1], [2], [3], [3], [4, 2, 0, 1, 2, 3, 4], [5, 6, 0, 1, 2, 3, 4, 5, 6]] false) (.join ⟨[43], (.cons (.hole .bool) .nil), [], .nil, [1, 4, 5, 10], [0, 16]⟩
 (.region [(⟨(some 37), none, (.mov (.tmp 15))⟩, .none), (⟨(some 38), none, (.not (.tmp 37))⟩, .none), (⟨(some 39), none, (.mov (.tmp 38))⟩, .none), (⟨(some 40), (some (39, false)), (.mov (.tmp 14))⟩, .none), (⟨(some 41), (some (39, false)), (.mov (.tmp 3))⟩, .none), (⟨(some 42), (some (39, false)), (.bin .neq (.tmp 40) (.tmp 41))⟩, .none), (⟨(some 43), none, (.pick (.tmp 39) (.const (.bool true)) (.tmp 42))⟩, .none)] [[], [0], [1], [2], [2], [3, 4, 2], [2, 5]] false)
 (.cond (.tmp 43) (.seq (.region [(⟨(some 44), none, (.build 6 [(.int .u64 0), (.int .u64 0), (.slice none 0 0), (.slice none 0 0), (.slice none 0 0), (.slice none 0 0)] [])⟩, .none), (⟨none, none, (.store 6 (.tmp 10) (.tmp 44))⟩, .none), (⟨(some 11), none, (.mov (.const (.int .u64 0)))⟩, .none), (⟨(some 12), none, (.mov (.const (.slice none 0 0)))⟩, .none), (⟨(some 13), none, (.mov (.const (.int .i64 61)))⟩, .none)] [[], [0, 0], [1, 0, 1], [2, 0, 1, 2], [3, 0, 1, 2, 3]] false) .ret) .skip))) (.seq (.seq (.region [(⟨(some 45), none, (.mov (.tmp 4))⟩, .none), (⟨(some 46), none, (.len false (.tmp 45))⟩, .none), (⟨(some 47), none, (.mov (.const (.int .i64 0)))⟩, .none)] [[], [0], []] false) (.block 0 (.loop ⟨[47], (.cons (.hole (.int .i64)) .nil), [], .nil, [1, 4, 5, 10, 45, 46], [0, 16]⟩
 (.seq (.region [(⟨(some 48), none, (.bin .lss (.tmp 47) (.tmp 46))⟩, .none)] [[]] false) (.seq (.cond (.tmp 48) .skip (.exit 0)) (.seq (.block 1 (.seq (.region [(⟨(some 49), none, (.iaddr 6 (.tmp 45) (.tmp 47))⟩, .none), (⟨(some 50), none, (.load true 6 (.tmp 49))⟩, .none), (⟨(some 17), none, (.alloc 51 6 [(.int .u64 0), (.int .u64 0), (.int .i64 0), (.slice none 0 0), (.slice none 0 0), (.slice none 0 0)])⟩, .none), (⟨none, none, (.store 6 (.tmp 17) (.tmp 50))⟩, .none)] [[], [0], [], [2, 1, 0, 1, 2]] false) (.seq (.region [(⟨(some 52), none, (.load true 6 (.tmp 5))⟩, .none), (⟨(some 53), none, (.faddr 0 (.tmp 17))⟩, .none), (⟨(some 54), none, (.load false 1 (.tmp 53))⟩, .none), (⟨(some 55), none, (.call 21 [(.tmp 52), (.tmp 54)])⟩, (.ent (e21 fu))), (⟨(some 51), none, (.mov (.tmp 55))⟩, .none), (⟨(some 56), none, (.ext (.tmp 51) 0)⟩, .none), (⟨(some 57), none, (.ext (.tmp 51) 1)⟩, .none), (⟨(some 18), none, (.mov (.tmp 56))⟩, .none), (⟨(some 19), none, (.mov (.tmp 57))⟩, .none)] [[], [], [1], [0, 2], [3], [4], [4], [5, 3, 0, 1, 2, 3, 4, 5], [6, 7, 0, 1, 2, 3, 4, 5, 6, 7]] false) (.join ⟨[70], (.cons (.hole .bool) .nil), [], .nil, [1, 4, 5, 10, 45, 46, 47], [0, 16]⟩
 (.region [(⟨(some 58), none, (.faddr 0 (.tmp 17))⟩, .none), (⟨(some 59), none, (.load false 1 (.tmp 58))⟩, .none), (⟨(some 60), none, (.mov (.tmp 1))⟩, .none), (⟨(some 61), none, (.bin .leq (.tmp 59) (.tmp 60))⟩, .none), (⟨(some 62), none, (.mov (.tmp 61))⟩, .none), (⟨(some 63), (some (62, true)), (.mov (.tmp 19))⟩, .none), (⟨(some 64), none, (.pick (.tmp 62) (.tmp 63) (.const (.bool false)))⟩, .none), (⟨(some 65), none, (.mov (.tmp 64))⟩, .none), (⟨(some 66), (some (65, true)), (.mov (.tmp 18))⟩, .none), (⟨(some 67), (some (65, true)), (.faddr 1 (.tmp 17))⟩, .none), (⟨(some 68), (some (65, true)), (.load false 1 (.tmp 67))⟩, .none), (⟨(some 69), (some (65, true)), (.bin .neq (.tmp 66) (.tmp 68))⟩, .none), (⟨(some 70), none, (.pick (.tmp 65) (.tmp 69) (.const (.bool false)))⟩, .none)] [[], [0], [], [1, 2], [3], [4], [4, 5], [6, 4], [7], [7], [9, 7], [8, 10, 7], [7, 11]] false)
 (.cond (.tmp 70) (.seq (.region [(⟨(some 71), none, (.build 6 [(.int .u64 0), (.int .u64 0), (.slice none 0 0), (.slice none 0 0), (.slice none 0 0), (.slice none 0 0)] [])⟩, .none), (⟨none, none, (.store 6 (.tmp 10) (.tmp 71))⟩, .none), (⟨(some 11), none, (.mov (.const (.int .u64 0)))⟩, .none), (⟨(some 12), none, (.mov (.const (.slice none 0 0)))⟩, .none), (⟨(some 13), none, (.mov (.const (.int .i64 62)))⟩, .none)] [[], [0, 0], [1, 0, 1], [2, 0, 1, 2], [3, 0, 1, 2, 3]] false) .ret) .skip))))) (.region [(⟨(some 72), none, (.bin .add (.tmp 47) (.const (.int .i64 1)))⟩, .none), (⟨(some 47), none, (.mov (.tmp 72))⟩, .none)] [[], [0]] false))))))) (.seq (.region [(⟨(some 73), none, (.mov (.tmp 4))⟩, .none), (⟨(some 74), none, (.fn 41 [] [(.tmp 5)])⟩, .none), (⟨(some 75), none, (.call 40 [(.tmp 73), (.tmp 74)])⟩, (.ent (e40 fu))), (⟨(some 20), none, (.mov (.tmp 75))⟩, .none)] [[], [], [0, 1], [2, 2, 0, 1, 2]] false) (.seq (.seq (.region [(⟨(some 76), none, (.mov (.tmp 20))⟩, .none), (⟨(some 77), none, (.bin .lss (.tmp 76) (.const (.int .i64 0)))⟩, .none)] [[], [0]] false) (.cond (.tmp 77) (.seq (.region [(⟨(some 78), none, (.load true 6 (.tmp 5))⟩, .none), (⟨(some 79), none, (.call 42 [(.tmp 78)])⟩, (.ent (e42 fu))), (⟨none, none, (.store 6 (.tmp 10) (.tmp 79))⟩, .none), (⟨(some 11), none, (.mov (.const (.int .u64 0)))⟩, .none), (⟨(some 12), none, (.mov (.const (.slice none 0 0)))⟩, .none), (⟨(some 13), none, (.mov (.const (.int .i64 0)))⟩, .none)] [[], [0], [1, 1, 0, 1], [2, 0, 1, 2], [3, 0, 1, 2, 3], [4, 0, 1, 2, 3, 4]] false) .ret) .skip)) (.seq (.region [(⟨(some 80), none, (.mov (.tmp 4))⟩, .none), (⟨(some 81), none, (.mov (.tmp 20))⟩, .none), (⟨(some 82), none, (.slc 6 (.tmp 80) (some (.tmp 81)) none)⟩, .none), (⟨(some 21), none, (.mov (.tmp 82))⟩, .none)] [[], [], [0, 1], [2, 0, 1, 2]] false) (.seq (.region [(⟨(some 83), none, (.load true 6 (.tmp 5))⟩, .none), (⟨(some 84), none, (.mov (.tmp 21))⟩, .none), (⟨(some 85), none, (.iaddr 6 (.tmp 84) (.const (.int .i64 0)))⟩, .none), (⟨(some 86), none, (.faddr 0 (.tmp 85))⟩, .none), (⟨(some 87), none, (.load false 1 (.tmp 86))⟩, .none), (⟨(some 88), none, (.call 29 [(.tmp 83), (.tmp 87)])⟩, (.ent (e29 fu))), (⟨(some 22), none, (.mov (.tmp 88))⟩, .none)] [[], [], [1], [2], [3], [0, 4], [5, 5, 0, 1, 2, 3, 4, 5]] true) (.seq (.region [(⟨(some 23), none, (.mov (.const (.int .u64 0)))⟩, .none)] [[]] false) (.join ⟨[23], (.cons (.hole (.int .u64)) .nil), [], .nil, [5, 10, 21, 22], [0, 16]⟩
 (.seq (.region [(⟨(some 89), none, (.mov (.tmp 22))⟩, .none), (⟨(some 90), none, (.faddr 5 (.tmp 5))⟩, .none), (⟨(some 91), none, (.load false 1 (.tmp 90))⟩, .none), (⟨(some 92), none, (.len false (.tmp 91))⟩, .none), (⟨(some 93), none, (.bin .lss (.tmp 89) (.tmp 92))⟩, .none)] [[], [], [1], [2], [0, 3]] false) (.cond (.tmp 93) (.region [(⟨(some 94), none, (.mov (.tmp 21))⟩, .none), (⟨(some 95), none, (.iaddr 6 (.tmp 94) (.const (.int .i64 0)))⟩, .none), (⟨(some 96), none, (.faddr 0 (.tmp 95))⟩, .none), (⟨(some 97), none, (.load false 1 (.tmp 96))⟩, .none), (⟨(some 23), none, (.mov (.tmp 97))⟩, .none)] [[], [0], [1], [2], [3, 0, 1, 2, 3]] false) .skip))
 (.seq (.region [(⟨(some 98), none, (.faddr 5 (.tmp 5))⟩, .none), (⟨(some 99), none, (.load false 1 (.tmp 98))⟩, .none), (⟨(some 100), none, (.mov (.tmp 22))⟩, .none), (⟨(some 101), none, (.slc 6 (.tmp 99) none (some (.tmp 100)))⟩, .none), (⟨(some 102), none, (.call 30 [(.tmp 101)])⟩, (.ent (e30 fu))), (⟨(some 103), none, (.mov (.tmp 21))⟩, .none), (⟨(some 104), none, (.call 30 [(.tmp 103)])⟩, (.ent (e30 fu))), (⟨(some 105), none, (.app 51 6 [(.int .u64 0), (.int .u64 0), (.int .i64 0), (.slice none 0 0), (.slice none 0 0), (.slice none 0 0)] 96 (.tmp 102) (.tmp 104))⟩, (.ty T_api_Entry)), (⟨(some 24), none, (.mov (.tmp 105))⟩, .none)] [[], [0], [], [1, 2], [3], [], [5, 4], [4, 6, 6], [7, 7, 0, 1, 2, 3, 4, 5, 6, 7]] false) (.seq (.region [(⟨(some 106), none, (.faddr 0 (.tmp 5))⟩, .none), (⟨(some 107), none, (.load true 5 (.tmp 106))⟩, .none), (⟨(some 108), none, (.call 43 [(.tmp 107)])⟩, (.ent (e43 fu))), (⟨(some 109), none, (.mov (.tmp 24))⟩, .none), (⟨(some 110), none, (.build 6 [(.int .u64 0), (.int .u64 0), (.slice none 0 0), (.slice none 0 0), (.slice none 0 0), (.slice none 0 0)] [(0, (5, (.tmp 108))), (5, (1, (.tmp 109)))])⟩, .none), (⟨(some 111), none, (.mov (.tmp 23))⟩, .none), (⟨(some 112), none, (.mov (.tmp 21))⟩, .none), (⟨(some 113), none, (.call 30 [(.tmp 112)])⟩, (.ent (e30 fu))), (⟨none, none, (.store 6 (.tmp 10) (.tmp 110))⟩, .none), (⟨(some 11), none, (.mov (.tmp 111))⟩, .none), (⟨(some 12), none, (.mov (.tmp 113))⟩, .none), (⟨(some 13), none, (.mov (.const (.int .i64 0)))⟩, .none)] [[], [0], [1], [], [2, 3], [], [], [6, 2], [4, 7, 0, 1, 2, 3, 4], [5, 8, 0, 1, 2, 3, 4, 5, 8], [7, 9, 0, 1, 2, 3, 4, 5, 6, 7, 8, 9], [10, 0, 1, 2, 3, 4, 5, 6, 7, 8, 9, 10]] false) .ret))))))))))))
set_option maxRecDepth 1000000 in
theorem v19 (fu : Nat) : evF fu (d19 fu) rs19 114 (e19 fu).ash (e19 fu).osh (e19 fu).vsh = p19 fu := by kernel_rfl
set_option maxRecDepth 1000000 in
theorem b19 (fu : Nat) : BodyD Try.prog 19 114 (d19 fu).erase rs19 := bodyD_mk Try.func19 (by kernel_rfl) (by kernel_rfl) (by kernel_rfl) (by kernel_rfl)
theorem g19 (fu : Nat) : (e19 fu).Good Try.prog := good_by orders (b19 fu) (l := [e39 fu, e21 fu, e21 fu, e40 fu, e42 fu, e29 fu, e30 fu, e30 fu, e43 fu, e30 fu]) (by kernel_rfl) ⟨g39 fu, g21 fu, g21 fu, g40 fu, g42 fu, g29 fu, g30 fu, g30 fu, g43 fu, g30 fu, trivial⟩ (by kernel_rfl) (v19 fu)
def rs6 : List RVx := [(.tmp 8)]
/-- gazette/gazettelaw06.RaftlogCopies -/
def p6 (fu : Nat) : ((Int) × ((Int) × ((List (Int)) × ((List (Int)) × ((List (Int)) × ((List (D_api_Entry)) × (Unit))))))) × (((Int) × ((Int) × ((List (Int)) × ((List (Int)) × ((List (Int)) × ((List (D_api_Entry)) × (Unit))))))) × ((Int) × ((Int) × (Unit)))) → Option ((Unit) × (Bool)) := fun ⟨⟨a0, a1, a2, a3, a4, a5, _⟩, ⟨a6, a7, a8, a9, a10, a11, _⟩, a12, a13, _⟩ =>
  Option.bind (p9 fu ()) fun ⟨_, r105⟩ =>
  Option.bind (p12 fu ((a0, a1, a2, a3, a4, a5, ()), ())) fun ⟨_, r106⟩ =>
  Option.bind (p12 fu ((a6, a7, a8, a9, a10, a11, ()), ())) fun ⟨_, r107⟩ =>
  bif !r105 then
   some ((), r105)
  else
   bif !r106 then
    some ((), r105)
   else
    bif !r107 then
     some ((), r105)
    else
     bif (a12 == (0 : Int)) then
      some ((), r105)
     else
      Option.bind (p11 fu ((a0, a1, a2, a3, a4, a5, ()), a12, a13, ())) fun ⟨_, ⟨r108, r108_1, _⟩⟩ =>
      Option.bind (p21 fu ((a0, a1, a2, a3, a4, a5, ()), IntKind.wrap .u64 (a12 - (1 : Int)), ())) fun ⟨_, ⟨r109, r109_1, _⟩⟩ =>
      Option.bind (p21 fu ((a6, a7, a8, a9, a10, a11, ()), IntKind.wrap .u64 (a12 - (1 : Int)), ())) fun ⟨_, ⟨r110, r110_1, _⟩⟩ =>
      bif (r108_1 != (0 : Int)) then
       some ((), true)
      else
       bif !r109_1 then
        some ((), true)
       else
        bif !r110_1 then
         some ((), true)
        else
         bif (r109 != r110) then
          some ((), true)
         else
          bif decide (List.length r108 = List.length r108) then
           Option.bind (p19 fu ((a6, a7, a8, a9, a10, a11, ()), (0 : Int), IntKind.wrap .u64 (a12 - (1 : Int)), r109, r108, ())) fun ⟨_, ⟨⟨r111, r111_1, r111_2, r111_3, r111_4, r111_5, _⟩, r111_6, r111_7, r111_8, _⟩⟩ =>
           bif (r111_8 != (0 : Int)) then
            some ((), false)
           else
            bif decide (List.length r111_2 = List.length r111_2) then
             bif decide (List.length r111_3 = List.length r111_3) then
              bif decide (List.length r111_4 = List.length r111_4) then
               bif decide (List.length r111_5 = List.length r111_5) then
                loopO (S := ((Int) × (Unit)) × (((Int) × ((Int) × ((List (Int)) × ((List (Int)) × ((List (Int)) × ((List (D_api_Entry)) × (Unit))))))) × (Unit))) fu (fun ⟨⟨v22, _⟩, ⟨⟨v2248, v2248_1, v2248_2, v2248_3, v2248_4, v2248_5, _⟩, _⟩⟩ =>
                  bif decide (v22 < ((List.length r108) : Int)) then
                   bif decide ((0 : Int) ≤ v22 ∧ v22 < (List.length r108 : Int)) then
                    bif decide (Int.toNat v22 < List.length r108) then
                     Option.bind (p11 fu ((v2248, v2248_1, v2248_2, v2248_3, v2248_4, v2248_5, ()), (List.getD r108 (Int.toNat v22) (dflt T_api_Entry)).1, (1 : Int), ())) fun ⟨_, ⟨r112, r112_1, _⟩⟩ =>
                     bif (r112_1 != (0 : Int)) then
                      inrO (some ((), false))
                     else
                      bif (((List.length r112) : Int) != (1 : Int)) then
                       inrO (some ((), false))
                      else
                       bif decide ((0 : Int) ≤ 0 ∧ 0 < (List.length r112 : Int)) then
                        bif decide (0 < List.length r112) then
                         bif decide ((0 : Int) ≤ v22 ∧ v22 < (List.length r108 : Int)) then
                          bif decide (Int.toNat v22 < List.length r108) then
                           bif ((((List.getD r112 0 (dflt T_api_Entry)).2).1) != (((List.getD r108 (Int.toNat v22) (dflt T_api_Entry)).2).1)) then
                            inrO (some ((), false))
                           else
                            some (.inl ((IntKind.wrap .i64 (v22 + (1 : Int)), ()), ((v2248, v2248_1, v2248_2, v2248_3, v2248_4, v2248_5, ()), ())))
                          else none
                         else none
                        else none
                       else none
                    else none
                   else none
                  else
                   inrO (some ((), true)))
                 (((0 : Int), ()), ((r111, r111_1, r111_2, r111_3, r111_4, r111_5, ()), ()))
               else none
              else none
             else none
            else none
          else none
def e6 (fu : Nat) : Ent := ⟨6, (.cons (.agg 6 (.cons (.hole (.int .u64)) (.cons (.hole (.int .u64)) (.cons (.hole (.sl (.int .i64))) (.cons (.hole (.sl (.int .i64))) (.cons (.hole (.sl (.int .u8))) (.cons (.hole (.sl T_api_Entry)) .nil))))))) (.cons (.agg 6 (.cons (.hole (.int .u64)) (.cons (.hole (.int .u64)) (.cons (.hole (.sl (.int .i64))) (.cons (.hole (.sl (.int .i64))) (.cons (.hole (.sl (.int .u8))) (.cons (.hole (.sl T_api_Entry)) .nil))))))) (.cons (.hole (.int .u64)) (.cons (.hole (.int .i64)) .nil)))), .nil, (.hole .bool), p6 fu⟩
def d6 (fu : Nat) : DC := (.seq (.region [(⟨(some 4), none, (.box 31 6 (.tmp 0))⟩, .none), (⟨(some 5), none, (.box 31 6 (.tmp 1))⟩, .none), (⟨(some 8), none, (.mov (.const (.bool false)))⟩, .none)] [[], [], []] false) (.seq (.region [(⟨(some 25), none, (.call 9 [])⟩, (.ent (e9 fu))), (⟨(some 9), none, (.mov (.tmp 25))⟩, .none)] [[], [0, 0, 0]] false) (.seq (.region [(⟨(some 26), none, (.load true 6 (.tmp 4))⟩, .none), (⟨(some 27), none, (.call 12 [(.tmp 26)])⟩, (.ent (e12 fu))), (⟨(some 10), none, (.mov (.tmp 27))⟩, .none)] [[], [0], [1, 1, 0, 1]] false) (.seq (.region [(⟨(some 28), none, (.load true 6 (.tmp 5))⟩, .none), (⟨(some 29), none, (.call 12 [(.tmp 28)])⟩, (.ent (e12 fu))), (⟨(some 11), none, (.mov (.tmp 29))⟩, .none)] [[], [0], [1, 1, 0, 1]] false) (.seq (.seq (.region [(⟨(some 30), none, (.mov (.tmp 9))⟩, .none), (⟨(some 31), none, (.not (.tmp 30))⟩, .none), (⟨(some 32), none, (.mov (.tmp 31))⟩, .none), (⟨(some 33), (some (32, false)), (.mov (.tmp 10))⟩, .none), (⟨(some 34), (some (32, false)), (.not (.tmp 33))⟩, .none), (⟨(some 35), none, (.pick (.tmp 32) (.const (.bool true)) (.tmp 34))⟩, .none), (⟨(some 36), none, (.mov (.tmp 35))⟩, .none), (⟨(some 37), (some (36, false)), (.mov (.tmp 11))⟩, .none), (⟨(some 38), (some (36, false)), (.not (.tmp 37))⟩, .none), (⟨(some 39), none, (.pick (.tmp 36) (.const (.bool true)) (.tmp 38))⟩, .none), (⟨(some 40), none, (.mov (.tmp 39))⟩, .none), (⟨(some 41), (some (40, false)), (.mov (.tmp 2))⟩, .none), (⟨(some 42), (some (40, false)), (.bin .eql (.tmp 41) (.const (.int .u64 0)))⟩, .none), (⟨(some 43), none, (.pick (.tmp 40) (.const (.bool true)) (.tmp 42))⟩, .none)] [[], [0], [1], [2], [3, 2], [2, 4], [5, 2], [6], [7, 6], [6, 8], [9, 6], [10], [11, 10], [10, 12]] false) (.cond (.tmp 43) (.seq (.region [(⟨(some 44), none, (.mov (.tmp 9))⟩, .none), (⟨(some 8), none, (.mov (.tmp 44))⟩, .none)] [[], [0, 0]] false) .ret) .skip)) (.seq (.region [(⟨(some 46), none, (.load true 6 (.tmp 4))⟩, .none), (⟨(some 47), none, (.mov (.tmp 2))⟩, .none), (⟨(some 48), none, (.mov (.tmp 3))⟩, .none), (⟨(some 49), none, (.call 11 [(.tmp 46), (.tmp 47), (.tmp 48)])⟩, (.ent (e11 fu))), (⟨(some 45), none, (.mov (.tmp 49))⟩, .none), (⟨(some 50), none, (.ext (.tmp 45) 0)⟩, .none), (⟨(some 51), none, (.ext (.tmp 45) 1)⟩, .none), (⟨(some 12), none, (.mov (.tmp 50))⟩, .none), (⟨(some 13), none, (.mov (.tmp 51))⟩, .none)] [[], [], [], [0, 1, 2], [3], [4], [4], [5, 3, 0, 1, 2, 3, 4, 5], [6, 7, 0, 1, 2, 3, 4, 5, 6, 7]] false) (.seq (.region [(⟨(some 53), none, (.load true 6 (.tmp 4))⟩, .none), (⟨(some 54), none, (.mov (.tmp 2))⟩, .none), (⟨(some 55), none, (.bin .sub (.tmp 54) (.const (.int .u64 1)))⟩, .none), (⟨(some 56), none, (.call 21 [(.tmp 53), (.tmp 55)])⟩, (.ent (e21 fu))), (⟨(some 52), none, (.mov (.tmp 56))⟩, .none), (⟨(some 57), none, (.ext (.tmp 52) 0)⟩, .none), (⟨(some 58), none, (.ext (.tmp 52) 1)⟩, .none), (⟨(some 14), none, (.mov (.tmp 57))⟩, .none), (⟨(some 15), none, (.mov (.tmp 58))⟩, .none)] [[], [], [1], [0, 2], [3], [4], [4], [5, 3, 0, 1, 2, 3, 4, 5], [6, 7, 0, 1, 2, 3, 4, 5, 6, 7]] false) (.seq (.region [(⟨(some 60), none, (.load true 6 (.tmp 5))⟩, .none), (⟨(some 61), none, (.mov (.tmp 2))⟩, .none), (⟨(some 62), none, (.bin .sub (.tmp 61) (.const (.int .u64 1)))⟩, .none), (⟨(some 63), none, (.call 21 [(.tmp 60), (.tmp 62)])⟩, (.ent (e21 fu))), (⟨(some 59), none, (.mov (.tmp 63))⟩, .none), (⟨(some 64), none, (.ext (.tmp 59) 0)⟩, .none), (⟨(some 65), none, (.ext (.tmp 59) 1)⟩, .none), (⟨(some 16), none, (.mov (.tmp 64))⟩, .none), (⟨(some 17), none, (.mov (.tmp 65))⟩, .none)] [[], [], [1], [0, 2], [3], [4], [4], [5, 3, 0, 1, 2, 3, 4, 5], [6, 7, 0, 1, 2, 3, 4, 5, 6, 7]] false) (.seq (.seq (.region [(⟨(some 66), none, (.mov (.tmp 13))⟩, .none), (⟨(some 67), none, (.bin .neq (.tmp 66) (.const (.int .i64 0)))⟩, .none), (⟨(some 68), none, (.mov (.tmp 67))⟩, .none), (⟨(some 69), (some (68, false)), (.mov (.tmp 15))⟩, .none), (⟨(some 70), (some (68, false)), (.not (.tmp 69))⟩, .none), (⟨(some 71), none, (.pick (.tmp 68) (.const (.bool true)) (.tmp 70))⟩, .none), (⟨(some 72), none, (.mov (.tmp 71))⟩, .none), (⟨(some 73), (some (72, false)), (.mov (.tmp 17))⟩, .none), (⟨(some 74), (some (72, false)), (.not (.tmp 73))⟩, .none), (⟨(some 75), none, (.pick (.tmp 72) (.const (.bool true)) (.tmp 74))⟩, .none), (⟨(some 76), none, (.mov (.tmp 75))⟩, .none), (⟨(some 77), (some (76, false)), (.mov (.tmp 14))⟩, .none), (⟨(some 78), (some (76, false)), (.mov (.tmp 16))⟩, .none), (⟨(some 79), (some (76, false)), (.bin .neq (.tmp 77) (.tmp 78))⟩, .none), (⟨(some 80), none, (.pick (.tmp 76) (.const (.bool true)) (.tmp 79))⟩, .none)] [[], [0], [1], [2], [3, 2], [2, 4], [5, 2], [6], [7, 6], [6, 8], [9, 6], [10], [10], [11, 12, 10], [10, 13]] false) (.cond (.tmp 80) (.seq (.region [(⟨(some 8), none, (.mov (.const (.bool true)))⟩, .none)] [[]] false) .ret) .skip)) (.seq (.region [(⟨(some 82), none, (.load true 6 (.tmp 5))⟩, .none), (⟨(some 83), none, (.mov (.tmp 2))⟩, .none), (⟨(some 84), none, (.bin .sub (.tmp 83) (.const (.int .u64 1)))⟩, .none), (⟨(some 85), none, (.mov (.tmp 14))⟩, .none), (⟨(some 86), none, (.mov (.tmp 12))⟩, .none), (⟨(some 87), none, (.call 19 [(.tmp 82), (.const (.int .u64 0)), (.tmp 84), (.tmp 85), (.tmp 86)])⟩, (.ent (e19 fu))), (⟨(some 81), none, (.mov (.tmp 87))⟩, .none), (⟨(some 88), none, (.ext (.tmp 81) 0)⟩, .none), (⟨(some 89), none, (.ext (.tmp 81) 1)⟩, .none), (⟨(some 90), none, (.ext (.tmp 81) 2)⟩, .none), (⟨(some 91), none, (.ext (.tmp 81) 3)⟩, .none), (⟨(some 18), none, (.alloc 31 6 [(.int .u64 0), (.int .u64 0), (.slice none 0 0), (.slice none 0 0), (.slice none 0 0), (.slice none 0 0)])⟩, .none), (⟨none, none, (.store 6 (.tmp 18) (.tmp 88))⟩, .none), (⟨(some 19), none, (.mov (.tmp 89))⟩, .none), (⟨(some 20), none, (.mov (.tmp 90))⟩, .none), (⟨(some 21), none, (.mov (.tmp 91))⟩, .none)] [[], [], [1], [], [], [0, 2, 3, 4], [5], [6], [6], [6], [6], [], [11, 7, 5, 0, 1, 2, 3, 4, 5, 6, 7, 11], [8, 12, 0, 1, 2, 3, 4, 5, 6, 7, 8, 11, 12], [9, 13, 0, 1, 2, 3, 4, 5, 6, 7, 8, 9, 11, 12, 13], [10, 14, 0, 1, 2, 3, 4, 5, 6, 7, 8, 9, 10, 11, 12, 13, 14]] false) (.seq (.seq (.region [(⟨(some 92), none, (.mov (.tmp 21))⟩, .none), (⟨(some 93), none, (.bin .neq (.tmp 92) (.const (.int .i64 0)))⟩, .none)] [[], [0]] false) (.cond (.tmp 93) (.seq (.region [(⟨(some 8), none, (.mov (.const (.bool false)))⟩, .none)] [[]] false) .ret) .skip)) (.seq (.seq (.region [(⟨(some 22), none, (.mov (.const (.int .i64 0)))⟩, .none)] [[]] false) (.block 0 (.loop ⟨[22], (.cons (.hole (.int .i64)) .nil), [(1248, 31, 6)], (.cons (.agg 6 (.cons (.hole (.int .u64)) (.cons (.hole (.int .u64)) (.cons (.hole (.sl (.int .i64))) (.cons (.hole (.sl (.int .i64))) (.cons (.hole (.sl (.int .u8))) (.cons (.hole (.sl T_api_Entry)) .nil))))))) .nil), [12, 18], [448]⟩
 (.seq (.seq (.region [(⟨(some 94), none, (.mov (.tmp 22))⟩, .none), (⟨(some 95), none, (.mov (.tmp 12))⟩, .none), (⟨(some 96), none, (.len false (.tmp 95))⟩, .none), (⟨(some 97), none, (.bin .lss (.tmp 94) (.tmp 96))⟩, .none)] [[], [], [1], [0, 2]] false) (.cond (.tmp 97) .skip (.exit 0))) (.seq (.block 1 (.seq (.region [(⟨(some 101), none, (.load true 6 (.tmp 18))⟩, .none), (⟨(some 102), none, (.mov (.tmp 12))⟩, .none), (⟨(some 103), none, (.mov (.tmp 22))⟩, .none), (⟨(some 104), none, (.iaddr 6 (.tmp 102) (.tmp 103))⟩, .none), (⟨(some 105), none, (.faddr 0 (.tmp 104))⟩, .none), (⟨(some 106), none, (.load false 1 (.tmp 105))⟩, .none), (⟨(some 107), none, (.call 11 [(.tmp 101), (.tmp 106), (.const (.int .i64 1))])⟩, (.ent (e11 fu))), (⟨(some 100), none, (.mov (.tmp 107))⟩, .none), (⟨(some 108), none, (.ext (.tmp 100) 0)⟩, .none), (⟨(some 109), none, (.ext (.tmp 100) 1)⟩, .none), (⟨(some 23), none, (.mov (.tmp 108))⟩, .none), (⟨(some 24), none, (.mov (.tmp 109))⟩, .none)] [[], [], [], [1, 2], [3], [4], [0, 5], [6], [7], [7], [8, 6, 0, 1, 2, 3, 4, 5, 6, 7, 8], [9, 10, 0, 1, 2, 3, 4, 5, 6, 7, 8, 9, 10]] true) (.seq (.region [(⟨(some 110), none, (.mov (.tmp 24))⟩, .none), (⟨(some 111), none, (.bin .neq (.tmp 110) (.const (.int .i64 0)))⟩, .none), (⟨(some 112), none, (.mov (.tmp 111))⟩, .none), (⟨(some 113), (some (112, false)), (.mov (.tmp 23))⟩, .none), (⟨(some 114), (some (112, false)), (.len false (.tmp 113))⟩, .none), (⟨(some 115), (some (112, false)), (.bin .neq (.tmp 114) (.const (.int .i64 1)))⟩, .none), (⟨(some 116), none, (.pick (.tmp 112) (.const (.bool true)) (.tmp 115))⟩, .none), (⟨(some 117), none, (.mov (.tmp 116))⟩, .none), (⟨(some 118), (some (117, false)), (.mov (.tmp 23))⟩, .none), (⟨(some 119), (some (117, false)), (.iaddr 6 (.tmp 118) (.const (.int .i64 0)))⟩, .none), (⟨(some 120), (some (117, false)), (.faddr 1 (.tmp 119))⟩, .none), (⟨(some 121), (some (117, false)), (.load false 1 (.tmp 120))⟩, .none), (⟨(some 122), (some (117, false)), (.mov (.tmp 12))⟩, .none), (⟨(some 123), (some (117, false)), (.mov (.tmp 22))⟩, .none), (⟨(some 124), (some (117, false)), (.iaddr 6 (.tmp 122) (.tmp 123))⟩, .none), (⟨(some 125), (some (117, false)), (.faddr 1 (.tmp 124))⟩, .none), (⟨(some 126), (some (117, false)), (.load false 1 (.tmp 125))⟩, .none), (⟨(some 127), (some (117, false)), (.bin .neq (.tmp 121) (.tmp 126))⟩, .none), (⟨(some 128), none, (.pick (.tmp 117) (.const (.bool true)) (.tmp 127))⟩, .none)] [[], [0], [1], [2], [3, 2], [4, 2], [2, 5], [6, 2], [7], [8, 7], [9, 7], [10, 7], [7], [7], [12, 13, 7], [14, 7], [15, 7], [11, 16, 7], [7, 17]] true) (.cond (.tmp 128) (.seq (.region [(⟨(some 8), none, (.mov (.const (.bool false)))⟩, .none)] [[]] false) .ret) .skip)))) (.region [(⟨(some 98), none, (.mov (.tmp 22))⟩, .none), (⟨(some 99), none, (.bin .add (.tmp 98) (.const (.int .i64 1)))⟩, .none), (⟨(some 22), none, (.mov (.tmp 99))⟩, .none)] [[], [0], [1, 0, 1]] false)))))) (.seq (.region [(⟨(some 8), none, (.mov (.const (.bool true)))⟩, .none)] [[]] false) .ret)))))))))))))
set_option maxRecDepth 1000000 in
theorem v6 (fu : Nat) : evF fu (d6 fu) rs6 129 (e6 fu).ash (e6 fu).osh (e6 fu).vsh = p6 fu := by kernel_rfl
set_option maxRecDepth 1000000 in
theorem b6 (fu : Nat) : BodyD Try.prog 6 129 (d6 fu).erase rs6 := bodyD_mk Try.func6 (by kernel_rfl) (by kernel_rfl) (by kernel_rfl) (by kernel_rfl)
theorem g6 (fu : Nat) : (e6 fu).Good Try.prog := good_by orders (b6 fu) (l := [e9 fu, e12 fu, e12 fu, e11 fu, e21 fu, e21 fu, e19 fu, e11 fu]) (by kernel_rfl) ⟨g9 fu, g12 fu, g12 fu, g11 fu, g21 fu, g21 fu, g19 fu, g11 fu, trivial⟩ (by kernel_rfl) (v6 fu)
def rs46 : List RVx := [(.tmp 4)]
/-- gazette/gazetteref06.sameInts -/
def p46 (fu : Nat) : (List (Int)) × ((List (Int)) × (Unit)) → Option ((Unit) × (Bool)) := fun ⟨a0, a1, _⟩ =>
  bif ((List.length a0 : Int) != (List.length a1 : Int)) then
   some ((), false)
  else
   loopO (S := ((Int) × (Unit)) × (Unit)) fu (fun ⟨⟨v5, _⟩, _⟩ =>
     bif decide (v5 < (List.length a0 : Int)) then
      bif decide ((0 : Int) ≤ v5 ∧ v5 < (List.length a0 : Int)) then
       bif decide (Int.toNat v5 < List.length a0) then
        bif decide ((0 : Int) ≤ v5 ∧ v5 < (List.length a1 : Int)) then
         bif decide (Int.toNat v5 < List.length a1) then
          bif ((List.getD a0 (Int.toNat v5) (dflt (.int .i64))) != (List.getD a1 (Int.toNat v5) (dflt (.int .i64)))) then
           inrO (some ((), false))
          else
           some (.inl ((IntKind.wrap .i64 (v5 + (1 : Int)), ()), ()))
         else none
        else none
       else none
      else none
     else
      inrO (some ((), true)))
    (((0 : Int), ()), ())
def e46 (fu : Nat) : Ent := ⟨46, (.cons (.hole (.sl (.int .i64))) (.cons (.hole (.sl (.int .i64))) .nil)), .nil, (.hole .bool), p46 fu⟩
def d46 (fu : Nat) : DC := (.seq (.region [(⟨(some 4), none, (.mov (.const (.bool false)))⟩, .none)] [[]] false) (.seq (.seq (.region [(⟨(some 6), none, (.mov (.tmp 0))⟩, .none), (⟨(some 7), none, (.len false (.tmp 6))⟩, .none), (⟨(some 8), none, (.mov (.tmp 1))⟩, .none), (⟨(some 9), none, (.len false (.tmp 8))⟩, .none), (⟨(some 10), none, (.bin .neq (.tmp 7) (.tmp 9))⟩, .none)] [[], [0], [], [2], [1, 3]] false) (.cond (.tmp 10) (.seq (.region [(⟨(some 4), none, (.mov (.const (.bool false)))⟩, .none)] [[]] false) .ret) .skip)) (.seq (.seq (.region [(⟨(some 5), none, (.mov (.const (.int .i64 0)))⟩, .none)] [[]] false) (.block 0 (.loop ⟨[5], (.cons (.hole (.int .i64)) .nil), [], .nil, [0, 1], []⟩
 (.seq (.seq (.region [(⟨(some 11), none, (.mov (.tmp 5))⟩, .none), (⟨(some 12), none, (.mov (.tmp 0))⟩, .none), (⟨(some 13), none, (.len false (.tmp 12))⟩, .none), (⟨(some 14), none, (.bin .lss (.tmp 11) (.tmp 13))⟩, .none)] [[], [], [1], [0, 2]] false) (.cond (.tmp 14) .skip (.exit 0))) (.seq (.block 1 (.seq (.region [(⟨(some 17), none, (.mov (.tmp 0))⟩, .none), (⟨(some 18), none, (.mov (.tmp 5))⟩, .none), (⟨(some 19), none, (.iaddr 1 (.tmp 17) (.tmp 18))⟩, .none), (⟨(some 20), none, (.load false 1 (.tmp 19))⟩, .none), (⟨(some 21), none, (.mov (.tmp 1))⟩, .none), (⟨(some 22), none, (.mov (.tmp 5))⟩, .none), (⟨(some 23), none, (.iaddr 1 (.tmp 21) (.tmp 22))⟩, .none), (⟨(some 24), none, (.load false 1 (.tmp 23))⟩, .none), (⟨(some 25), none, (.bin .neq (.tmp 20) (.tmp 24))⟩, .none)] [[], [], [0, 1], [2], [], [], [4, 5], [6], [3, 7]] true) (.cond (.tmp 25) (.seq (.region [(⟨(some 4), none, (.mov (.const (.bool false)))⟩, .none)] [[]] false) .ret) .skip))) (.region [(⟨(some 15), none, (.mov (.tmp 5))⟩, .none), (⟨(some 16), none, (.bin .add (.tmp 15) (.const (.int .i64 1)))⟩, .none), (⟨(some 5), none, (.mov (.tmp 16))⟩, .none)] [[], [0], [1, 0, 1]] false)))))) (.seq (.region [(⟨(some 4), none, (.mov (.const (.bool true)))⟩, .none)] [[]] false) .ret))))
set_option maxRecDepth 1000000 in
theorem v46 (fu : Nat) : evF fu (d46 fu) rs46 26 (e46 fu).ash (e46 fu).osh (e46 fu).vsh = p46 fu := by kernel_rfl
set_option maxRecDepth 1000000 in
theorem b46 (fu : Nat) : BodyD Try.prog 46 26 (d46 fu).erase rs46 := bodyD_mk Try.func46 (by kernel_rfl) (by kernel_rfl) (by kernel_rfl) (by kernel_rfl)
theorem g46 (fu : Nat) : (e46 fu).Good Try.prog := good_by orders (b46 fu) (l := []) (by kernel_rfl) trivial (by kernel_rfl) (v46 fu)
def rs24 : List RVx := [(.tmp 4)]
/-- gazette/gazetteref06.SameConf -/
def p24 (fu : Nat) : ((List (Int)) × ((List (Int)) × (Unit))) × (((List (Int)) × ((List (Int)) × (Unit))) × (Unit)) → Option ((Unit) × (Bool)) := fun ⟨⟨a0, a1, _⟩, ⟨a2, a3, _⟩, _⟩ =>
  Option.bind (p46 fu (a0, a2, ())) fun ⟨_, r119⟩ =>
  Option.bind (p46 fu (a1, a3, ())) fun ⟨_, r120⟩ =>
  bif r119 then
   some ((), r120)
  else
   some ((), false)
def e24 (fu : Nat) : Ent := ⟨24, (.cons (.agg 2 (.cons (.hole (.sl (.int .i64))) (.cons (.hole (.sl (.int .i64))) .nil))) (.cons (.agg 2 (.cons (.hole (.sl (.int .i64))) (.cons (.hole (.sl (.int .i64))) .nil))) .nil)), .nil, (.hole .bool), p24 fu⟩
def d24 (fu : Nat) : DC := (.seq (.region [(⟨(some 2), none, (.box 25 2 (.tmp 0))⟩, .none), (⟨(some 3), none, (.box 25 2 (.tmp 1))⟩, .none), (⟨(some 4), none, (.mov (.const (.bool false)))⟩, .none)] [[], [], []] false) (.seq (.region [(⟨(some 7), none, (.faddr 0 (.tmp 2))⟩, .none), (⟨(some 8), none, (.load false 1 (.tmp 7))⟩, .none), (⟨(some 9), none, (.faddr 0 (.tmp 3))⟩, .none), (⟨(some 10), none, (.load false 1 (.tmp 9))⟩, .none), (⟨(some 11), none, (.call 46 [(.tmp 8), (.tmp 10)])⟩, (.ent (e46 fu))), (⟨(some 5), none, (.mov (.tmp 11))⟩, .none)] [[], [0], [], [2], [1, 3], [4, 4, 0, 1, 2, 3, 4]] false) (.seq (.region [(⟨(some 12), none, (.faddr 1 (.tmp 2))⟩, .none), (⟨(some 13), none, (.load false 1 (.tmp 12))⟩, .none), (⟨(some 14), none, (.faddr 1 (.tmp 3))⟩, .none), (⟨(some 15), none, (.load false 1 (.tmp 14))⟩, .none), (⟨(some 16), none, (.call 46 [(.tmp 13), (.tmp 15)])⟩, (.ent (e46 fu))), (⟨(some 6), none, (.mov (.tmp 16))⟩, .none)] [[], [0], [], [2], [1, 3], [4, 4, 0, 1, 2, 3, 4]] false) (.seq (.region [(⟨(some 17), none, (.mov (.tmp 5))⟩, .none), (⟨(some 18), none, (.mov (.tmp 17))⟩, .none), (⟨(some 19), (some (18, true)), (.mov (.tmp 6))⟩, .none), (⟨(some 20), none, (.pick (.tmp 18) (.tmp 19) (.const (.bool false)))⟩, .none), (⟨(some 4), none, (.mov (.tmp 20))⟩, .none)] [[], [0], [1], [1, 2], [3, 1, 0, 1, 2, 3]] false) .ret))))
set_option maxRecDepth 1000000 in
theorem v24 (fu : Nat) : evF fu (d24 fu) rs24 21 (e24 fu).ash (e24 fu).osh (e24 fu).vsh = p24 fu := by kernel_rfl
set_option maxRecDepth 1000000 in
theorem b24 (fu : Nat) : BodyD Try.prog 24 21 (d24 fu).erase rs24 := bodyD_mk Try.func24 (by kernel_rfl) (by kernel_rfl) (by kernel_rfl) (by kernel_rfl)
theorem g24 (fu : Nat) : (e24 fu).Good Try.prog := good_by orders (b24 fu) (l := [e46 fu, e46 fu]) (by kernel_rfl) ⟨g46 fu, g46 fu, trivial⟩ (by kernel_rfl) (v24 fu)
def rs35 : List RVx := [(.tmp 4)]
/-- gazette/gazetteref06.SameSnap -/
def p35 (fu : Nat) : ((Int) × ((Int) × ((List (Int)) × ((List (Int)) × ((List (Int)) × (Unit)))))) × (((Int) × ((Int) × ((List (Int)) × ((List (Int)) × ((List (Int)) × (Unit)))))) × (Unit)) → Option ((Unit) × (Bool)) := fun ⟨⟨a0, a1, a2, a3, a4, _⟩, ⟨a5, a6, a7, a8, a9, _⟩, _⟩ =>
  Option.bind (p24 fu ((a2, a3, ()), (a7, a8, ()), ())) fun ⟨_, r122⟩ =>
  bif r122 then
   bif (a0 == a5) then
    bif (a1 == a6) then
     some ((), ByteArray.toList (strOfNums a4) == ByteArray.toList (strOfNums a9))
    else
     some ((), false)
   else
    some ((), false)
  else
   some ((), false)
def e35 (fu : Nat) : Ent := ⟨35, (.cons (.agg 5 (.cons (.hole (.int .u64)) (.cons (.hole (.int .u64)) (.cons (.hole (.sl (.int .i64))) (.cons (.hole (.sl (.int .i64))) (.cons (.hole (.sl (.int .u8))) .nil)))))) (.cons (.agg 5 (.cons (.hole (.int .u64)) (.cons (.hole (.int .u64)) (.cons (.hole (.sl (.int .i64))) (.cons (.hole (.sl (.int .i64))) (.cons (.hole (.sl (.int .u8))) .nil)))))) .nil)), .nil, (.hole .bool), p35 fu⟩
def d35 (fu : Nat) : DC := (.seq (.region [(⟨(some 2), none, (.box 28 5 (.tmp 0))⟩, .none), (⟨(some 3), none, (.box 28 5 (.tmp 1))⟩, .none), (⟨(some 4), none, (.mov (.const (.bool false)))⟩, .none)] [[], [], []] false) (.seq (.region [(⟨(some 6), none, (.faddr 2 (.tmp 2))⟩, .none), (⟨(some 7), none, (.load true 2 (.tmp 6))⟩, .none), (⟨(some 8), none, (.faddr 2 (.tmp 3))⟩, .none), (⟨(some 9), none, (.load true 2 (.tmp 8))⟩, .none), (⟨(some 10), none, (.call 24 [(.tmp 7), (.tmp 9)])⟩, (.ent (e24 fu))), (⟨(some 5), none, (.mov (.tmp 10))⟩, .none)] [[], [0], [], [2], [1, 3], [4, 4, 0, 1, 2, 3, 4]] false) (.seq (.region [(⟨(some 11), none, (.mov (.tmp 5))⟩, .none), (⟨(some 12), none, (.mov (.tmp 11))⟩, .none), (⟨(some 13), (some (12, true)), (.faddr 0 (.tmp 2))⟩, .none), (⟨(some 14), (some (12, true)), (.load false 1 (.tmp 13))⟩, .none), (⟨(some 15), (some (12, true)), (.faddr 0 (.tmp 3))⟩, .none), (⟨(some 16), (some (12, true)), (.load false 1 (.tmp 15))⟩, .none), (⟨(some 17), (some (12, true)), (.bin .eql (.tmp 14) (.tmp 16))⟩, .none), (⟨(some 18), none, (.pick (.tmp 12) (.tmp 17) (.const (.bool false)))⟩, .none), (⟨(some 19), none, (.mov (.tmp 18))⟩, .none), (⟨(some 20), (some (19, true)), (.faddr 1 (.tmp 2))⟩, .none), (⟨(some 21), (some (19, true)), (.load false 1 (.tmp 20))⟩, .none), (⟨(some 22), (some (19, true)), (.faddr 1 (.tmp 3))⟩, .none), (⟨(some 23), (some (19, true)), (.load false 1 (.tmp 22))⟩, .none), (⟨(some 24), (some (19, true)), (.bin .eql (.tmp 21) (.tmp 23))⟩, .none), (⟨(some 25), none, (.pick (.tmp 19) (.tmp 24) (.const (.bool false)))⟩, .none), (⟨(some 26), none, (.mov (.tmp 25))⟩, .none), (⟨(some 27), (some (26, true)), (.faddr 4 (.tmp 2))⟩, .none), (⟨(some 28), (some (26, true)), (.load false 1 (.tmp 27))⟩, .none), (⟨(some 29), (some (26, true)), (.b2s (.tmp 28))⟩, .none), (⟨(some 30), (some (26, true)), (.faddr 4 (.tmp 3))⟩, .none), (⟨(some 31), (some (26, true)), (.load false 1 (.tmp 30))⟩, .none), (⟨(some 32), (some (26, true)), (.b2s (.tmp 31))⟩, .none), (⟨(some 33), (some (26, true)), (.bin .eql (.tmp 29) (.tmp 32))⟩, .none), (⟨(some 34), none, (.pick (.tmp 26) (.tmp 33) (.const (.bool false)))⟩, .none), (⟨(some 4), none, (.mov (.tmp 34))⟩, .none)] [[], [0], [1], [2, 1], [1], [4, 1], [3, 5, 1], [1, 6], [7, 1], [8], [9, 8], [8], [11, 8], [10, 12, 8], [8, 13], [14, 8], [15], [16, 15], [17, 15], [15], [19, 15], [20, 15], [18, 21, 15], [15, 22], [23, 15, 0, 1, 2, 3, 4, 5, 6, 7, 8, 9, 10, 11, 12, 13, 14, 15, 16, 17, 18, 19, 20, 21, 22, 23]] false) .ret)))
set_option maxRecDepth 1000000 in
theorem v35 (fu : Nat) : evF fu (d35 fu) rs35 35 (e35 fu).ash (e35 fu).osh (e35 fu).vsh = p35 fu := by kernel_rfl
set_option maxRecDepth 1000000 in
theorem b35 (fu : Nat) : BodyD Try.prog 35 35 (d35 fu).erase rs35 := bodyD_mk Try.func35 (by kernel_rfl) (by kernel_rfl) (by kernel_rfl) (by kernel_rfl)
theorem g35 (fu : Nat) : (e35 fu).Good Try.prog := good_by orders (b35 fu) (l := [e24 fu]) (by kernel_rfl) ⟨g24 fu, trivial⟩ (by kernel_rfl) (v35 fu)
def rs34 : List RVx := [(.tmp 4)]
/-- gazette/gazetteref06.Same -/
def p34 (fu : Nat) : ((Int) × ((Int) × ((Int) × ((List (Int)) × ((List (Int)) × ((List (Int)) × (Unit))))))) × (((Int) × ((Int) × ((Int) × ((List (Int)) × ((List (Int)) × ((List (Int)) × (Unit))))))) × (Unit)) → Option ((Unit) × (Bool)) := fun ⟨⟨a0, a1, a2, a3, a4, a5, _⟩, ⟨a6, a7, a8, a9, a10, a11, _⟩, _⟩ =>
  Option.bind (p24 fu ((a4, a5, ()), (a10, a11, ()), ())) fun ⟨_, r125⟩ =>
  bif r125 then
   bif (a0 == a6) then
    bif (a1 == a7) then
     bif (a2 == a8) then
      some ((), ByteArray.toList (strOfNums a3) == ByteArray.toList (strOfNums a9))
     else
      some ((), false)
    else
     some ((), false)
   else
    some ((), false)
  else
   some ((), false)
def e34 (fu : Nat) : Ent := ⟨34, (.cons (.agg 6 (.cons (.hole (.int .u64)) (.cons (.hole (.int .u64)) (.cons (.hole (.int .i64)) (.cons (.hole (.sl (.int .u8))) (.cons (.hole (.sl (.int .i64))) (.cons (.hole (.sl (.int .i64))) .nil))))))) (.cons (.agg 6 (.cons (.hole (.int .u64)) (.cons (.hole (.int .u64)) (.cons (.hole (.int .i64)) (.cons (.hole (.sl (.int .u8))) (.cons (.hole (.sl (.int .i64))) (.cons (.hole (.sl (.int .i64))) .nil))))))) .nil)), .nil, (.hole .bool), p34 fu⟩
def d34 (fu : Nat) : DC := (.seq (.region [(⟨(some 2), none, (.box 51 6 (.tmp 0))⟩, .none), (⟨(some 3), none, (.box 51 6 (.tmp 1))⟩, .none), (⟨(some 4), none, (.mov (.const (.bool false)))⟩, .none)] [[], [], []] false) (.seq (.region [(⟨(some 6), none, (.faddr 4 (.tmp 2))⟩, .none), (⟨(some 7), none, (.load true 2 (.tmp 6))⟩, .none), (⟨(some 8), none, (.faddr 4 (.tmp 3))⟩, .none), (⟨(some 9), none, (.load true 2 (.tmp 8))⟩, .none), (⟨(some 10), none, (.call 24 [(.tmp 7), (.tmp 9)])⟩, (.ent (e24 fu))), (⟨(some 5), none, (.mov (.tmp 10))⟩, .none)] [[], [0], [], [2], [1, 3], [4, 4, 0, 1, 2, 3, 4]] false) (.seq (.region [(⟨(some 11), none, (.mov (.tmp 5))⟩, .none), (⟨(some 12), none, (.mov (.tmp 11))⟩, .none), (⟨(some 13), (some (12, true)), (.faddr 0 (.tmp 2))⟩, .none), (⟨(some 14), (some (12, true)), (.load false 1 (.tmp 13))⟩, .none), (⟨(some 15), (some (12, true)), (.faddr 0 (.tmp 3))⟩, .none), (⟨(some 16), (some (12, true)), (.load false 1 (.tmp 15))⟩, .none), (⟨(some 17), (some (12, true)), (.bin .eql (.tmp 14) (.tmp 16))⟩, .none), (⟨(some 18), none, (.pick (.tmp 12) (.tmp 17) (.const (.bool false)))⟩, .none), (⟨(some 19), none, (.mov (.tmp 18))⟩, .none), (⟨(some 20), (some (19, true)), (.faddr 1 (.tmp 2))⟩, .none), (⟨(some 21), (some (19, true)), (.load false 1 (.tmp 20))⟩, .none), (⟨(some 22), (some (19, true)), (.faddr 1 (.tmp 3))⟩, .none), (⟨(some 23), (some (19, true)), (.load false 1 (.tmp 22))⟩, .none), (⟨(some 24), (some (19, true)), (.bin .eql (.tmp 21) (.tmp 23))⟩, .none), (⟨(some 25), none, (.pick (.tmp 19) (.tmp 24) (.const (.bool false)))⟩, .none), (⟨(some 26), none, (.mov (.tmp 25))⟩, .none), (⟨(some 27), (some (26, true)), (.faddr 2 (.tmp 2))⟩, .none), (⟨(some 28), (some (26, true)), (.load false 1 (.tmp 27))⟩, .none), (⟨(some 29), (some (26, true)), (.faddr 2 (.tmp 3))⟩, .none), (⟨(some 30), (some (26, true)), (.load false 1 (.tmp 29))⟩, .none), (⟨(some 31), (some (26, true)), (.bin .eql (.tmp 28) (.tmp 30))⟩, .none), (⟨(some 32), none, (.pick (.tmp 26) (.tmp 31) (.const (.bool false)))⟩, .none), (⟨(some 33), none, (.mov (.tmp 32))⟩, .none), (⟨(some 34), (some (33, true)), (.faddr 3 (.tmp 2))⟩, .none), (⟨(some 35), (some (33, true)), (.load false 1 (.tmp 34))⟩, .none), (⟨(some 36), (some (33, true)), (.b2s (.tmp 35))⟩, .none), (⟨(some 37), (some (33, true)), (.faddr 3 (.tmp 3))⟩, .none), (⟨(some 38), (some (33, true)), (.load false 1 (.tmp 37))⟩, .none), (⟨(some 39), (some (33, true)), (.b2s (.tmp 38))⟩, .none), (⟨(some 40), (some (33, true)), (.bin .eql (.tmp 36) (.tmp 39))⟩, .none), (⟨(some 41), none, (.pick (.tmp 33) (.tmp 40) (.const (.bool false)))⟩, .none), (⟨(some 4), none, (.mov (.tmp 41))⟩, .none)] [[], [0], [1], [2, 1], [1], [4, 1], [3, 5, 1], [1, 6], [7, 1], [8], [9, 8], [8], [11, 8], [10, 12, 8], [8, 13], [14, 8], [15], [16, 15], [15], [18, 15], [17, 19, 15], [15, 20], [21, 15], [22], [23, 22], [24, 22], [22], [26, 22], [27, 22], [25, 28, 22], [22, 29], [30, 22, 0, 1, 2, 3, 4, 5, 6, 7, 8, 9, 10, 11, 12, 13, 14, 15, 16, 17, 18, 19, 20, 21, 22, 23, 24, 25, 26, 27, 28, 29, 30]] false) .ret)))
set_option maxRecDepth 1000000 in
theorem v34 (fu : Nat) : evF fu (d34 fu) rs34 42 (e34 fu).ash (e34 fu).osh (e34 fu).vsh = p34 fu := by kernel_rfl
set_option maxRecDepth 1000000 in
theorem b34 (fu : Nat) : BodyD Try.prog 34 42 (d34 fu).erase rs34 := bodyD_mk Try.func34 (by kernel_rfl) (by kernel_rfl) (by kernel_rfl) (by kernel_rfl)
theorem g34 (fu : Nat) : (e34 fu).Good Try.prog := good_by orders (b34 fu) (l := [e24 fu]) (by kernel_rfl) ⟨g24 fu, trivial⟩ (by kernel_rfl) (v34 fu)
def rs14 : List RVx := [(.tmp 4)]
/-- gazette/gazetteref06.SameEntries -/
def p14 (fu : Nat) : (List (D_api_Entry)) × ((List (D_api_Entry)) × (Unit)) → Option ((Unit) × (Bool)) := fun ⟨a0, a1, _⟩ =>
  bif ((List.length a0 : Int) != (List.length a1 : Int)) then
   some ((), false)
  else
   loopO (S := ((Int) × (Unit)) × (Unit)) fu (fun ⟨⟨v5, _⟩, _⟩ =>
     bif decide (v5 < (List.length a0 : Int)) then
      bif decide ((0 : Int) ≤ v5 ∧ v5 < (List.length a0 : Int)) then
       bif decide (Int.toNat v5 < List.length a0) then
        bif decide ((0 : Int) ≤ v5 ∧ v5 < (List.length a1 : Int)) then
         bif decide (Int.toNat v5 < List.length a1) then
          Option.bind (p34 fu (((List.getD a0 (Int.toNat v5) (dflt T_api_Entry)).1, ((List.getD a0 (Int.toNat v5) (dflt T_api_Entry)).2).1, (((List.getD a0 (Int.toNat v5) (dflt T_api_Entry)).2).2).1, ((((List.getD a0 (Int.toNat v5) (dflt T_api_Entry)).2).2).2).1, (((((List.getD a0 (Int.toNat v5) (dflt T_api_Entry)).2).2).2).2).1, (((((List.getD a0 (Int.toNat v5) (dflt T_api_Entry)).2).2).2).2).2, ()), ((List.getD a1 (Int.toNat v5) (dflt T_api_Entry)).1, ((List.getD a1 (Int.toNat v5) (dflt T_api_Entry)).2).1, (((List.getD a1 (Int.toNat v5) (dflt T_api_Entry)).2).2).1, ((((List.getD a1 (Int.toNat v5) (dflt T_api_Entry)).2).2).2).1, (((((List.getD a1 (Int.toNat v5) (dflt T_api_Entry)).2).2).2).2).1, (((((List.getD a1 (Int.toNat v5) (dflt T_api_Entry)).2).2).2).2).2, ()), ())) fun ⟨_, r128⟩ =>
          bif !r128 then
           inrO (some ((), false))
          else
           some (.inl ((IntKind.wrap .i64 (v5 + (1 : Int)), ()), ()))
         else none
        else none
       else none
      else none
     else
      inrO (some ((), true)))
    (((0 : Int), ()), ())
def e14 (fu : Nat) : Ent := ⟨14, (.cons (.hole (.sl T_api_Entry)) (.cons (.hole (.sl T_api_Entry)) .nil)), .nil, (.hole .bool), p14 fu⟩
def d14 (fu : Nat) : DC := (.seq (.region [(⟨(some 4), none, (.mov (.const (.bool false)))⟩, .none)] [[]] false) (.seq (.seq (.region [(⟨(some 7), none, (.mov (.tmp 0))⟩, .none), (⟨(some 8), none, (.len false (.tmp 7))⟩, .none), (⟨(some 9), none, (.mov (.tmp 1))⟩, .none), (⟨(some 10), none, (.len false (.tmp 9))⟩, .none), (⟨(some 11), none, (.bin .neq (.tmp 8) (.tmp 10))⟩, .none)] [[], [0], [], [2], [1, 3]] false) (.cond (.tmp 11) (.seq (.region [(⟨(some 4), none, (.mov (.const (.bool false)))⟩, .none)] [[]] false) .ret) .skip)) (.seq (.seq (.region [(⟨(some 5), none, (.mov (.const (.int .i64 0)))⟩, .none)] [[]] false) (.block 0 (.loop ⟨[5], (.cons (.hole (.int .i64)) .nil), [], .nil, [0, 1], []⟩
 (.seq (.seq (.region [(⟨(some 12), none, (.mov (.tmp 5))⟩, .none), (⟨(some 13), none, (.mov (.tmp 0))⟩, .none), (⟨(some 14), none, (.len false (.tmp 13))⟩, .none), (⟨(some 15), none, (.bin .lss (.tmp 12) (.tmp 14))⟩, .none)] [[], [], [1], [0, 2]] false) (.cond (.tmp 15) .skip (.exit 0))) (.seq (.block 1 (.seq (.region [(⟨(some 18), none, (.mov (.tmp 0))⟩, .none), (⟨(some 19), none, (.mov (.tmp 5))⟩, .none), (⟨(some 20), none, (.iaddr 6 (.tmp 18) (.tmp 19))⟩, .none), (⟨(some 21), none, (.load true 6 (.tmp 20))⟩, .none), (⟨(some 22), none, (.mov (.tmp 1))⟩, .none), (⟨(some 23), none, (.mov (.tmp 5))⟩, .none), (⟨(some 24), none, (.iaddr 6 (.tmp 22) (.tmp 23))⟩, .none), (⟨(some 25), none, (.load true 6 (.tmp 24))⟩, .none), (⟨(some 26), none, (.call 34 [(.tmp 21), (.tmp 25)])⟩, (.ent (e34 fu))), (⟨(some 6), none, (.mov (.tmp 26))⟩, .none)] [[], [], [0, 1], [2], [], [], [4, 5], [6], [3, 7], [8, 8, 0, 1, 2, 3, 4, 5, 6, 7, 8]] true) (.seq (.region [(⟨(some 27), none, (.mov (.tmp 6))⟩, .none), (⟨(some 28), none, (.not (.tmp 27))⟩, .none)] [[], [0]] false) (.cond (.tmp 28) (.seq (.region [(⟨(some 4), none, (.mov (.const (.bool false)))⟩, .none)] [[]] false) .ret) .skip)))) (.region [(⟨(some 16), none, (.mov (.tmp 5))⟩, .none), (⟨(some 17), none, (.bin .add (.tmp 16) (.const (.int .i64 1)))⟩, .none), (⟨(some 5), none, (.mov (.tmp 17))⟩, .none)] [[], [0], [1, 0, 1]] false)))))) (.seq (.region [(⟨(some 4), none, (.mov (.const (.bool true)))⟩, .none)] [[]] false) .ret))))
set_option maxRecDepth 1000000 in
theorem v14 (fu : Nat) : evF fu (d14 fu) rs14 29 (e14 fu).ash (e14 fu).osh (e14 fu).vsh = p14 fu := by kernel_rfl
set_option maxRecDepth 1000000 in
theorem b14 (fu : Nat) : BodyD Try.prog 14 29 (d14 fu).erase rs14 := bodyD_mk Try.func14 (by kernel_rfl) (by kernel_rfl) (by kernel_rfl) (by kernel_rfl)
theorem g14 (fu : Nat) : (e14 fu).Good Try.prog := good_by orders (b14 fu) (l := [e34 fu]) (by kernel_rfl) ⟨g34 fu, trivial⟩ (by kernel_rfl) (v14 fu)
def rs16 : List RVx := [(.tmp 4)]
/-- gazette/gazetteref06.SameLog -/
def p16 (fu : Nat) : ((Int) × ((Int) × ((List (Int)) × ((List (Int)) × ((List (Int)) × ((List (D_api_Entry)) × (Unit))))))) × (((Int) × ((Int) × ((List (Int)) × ((List (Int)) × ((List (Int)) × ((List (D_api_Entry)) × (Unit))))))) × (Unit)) → Option ((Unit) × (Bool)) := fun ⟨⟨a0, a1, a2, a3, a4, a5, _⟩, ⟨a6, a7, a8, a9, a10, a11, _⟩, _⟩ =>
  Option.bind (p35 fu ((a0, a1, a2, a3, a4, ()), (a6, a7, a8, a9, a10, ()), ())) fun ⟨_, r130⟩ =>
  Option.bind (p14 fu (a5, a11, ())) fun ⟨_, r131⟩ =>
  bif r130 then
   some ((), r131)
  else
   some ((), false)
def e16 (fu : Nat) : Ent := ⟨16, (.cons (.agg 6 (.cons (.hole (.int .u64)) (.cons (.hole (.int .u64)) (.cons (.hole (.sl (.int .i64))) (.cons (.hole (.sl (.int .i64))) (.cons (.hole (.sl (.int .u8))) (.cons (.hole (.sl T_api_Entry)) .nil))))))) (.cons (.agg 6 (.cons (.hole (.int .u64)) (.cons (.hole (.int .u64)) (.cons (.hole (.sl (.int .i64))) (.cons (.hole (.sl (.int .i64))) (.cons (.hole (.sl (.int .u8))) (.cons (.hole (.sl T_api_Entry)) .nil))))))) .nil)), .nil, (.hole .bool), p16 fu⟩
def d16 (fu : Nat) : DC := (.seq (.region [(⟨(some 2), none, (.box 31 6 (.tmp 0))⟩, .none), (⟨(some 3), none, (.box 31 6 (.tmp 1))⟩, .none), (⟨(some 4), none, (.mov (.const (.bool false)))⟩, .none)] [[], [], []] false) (.seq (.region [(⟨(some 7), none, (.faddr 0 (.tmp 2))⟩, .none), (⟨(some 8), none, (.load true 5 (.tmp 7))⟩, .none), (⟨(some 9), none, (.faddr 0 (.tmp 3))⟩, .none), (⟨(some 10), none, (.load true 5 (.tmp 9))⟩, .none), (⟨(some 11), none, (.call 35 [(.tmp 8), (.tmp 10)])⟩, (.ent (e35 fu))), (⟨(some 5), none, (.mov (.tmp 11))⟩, .none)] [[], [0], [], [2], [1, 3], [4, 4, 0, 1, 2, 3, 4]] false) (.seq (.region [(⟨(some 12), none, (.faddr 5 (.tmp 2))⟩, .none), (⟨(some 13), none, (.load false 1 (.tmp 12))⟩, .none), (⟨(some 14), none, (.faddr 5 (.tmp 3))⟩, .none), (⟨(some 15), none, (.load false 1 (.tmp 14))⟩, .none), (⟨(some 16), none, (.call 14 [(.tmp 13), (.tmp 15)])⟩, (.ent (e14 fu))), (⟨(some 6), none, (.mov (.tmp 16))⟩, .none)] [[], [0], [], [2], [1, 3], [4, 4, 0, 1, 2, 3, 4]] false) (.seq (.region [(⟨(some 17), none, (.mov (.tmp 5))⟩, .none), (⟨(some 18), none, (.mov (.tmp 17))⟩, .none), (⟨(some 19), (some (18, true)), (.mov (.tmp 6))⟩, .none), (⟨(some 20), none, (.pick (.tmp 18) (.tmp 19) (.const (.bool false)))⟩, .none), (⟨(some 4), none, (.mov (.tmp 20))⟩, .none)] [[], [0], [1], [1, 2], [3, 1, 0, 1, 2, 3]] false) .ret))))
set_option maxRecDepth 1000000 in
theorem v16 (fu : Nat) : evF fu (d16 fu) rs16 21 (e16 fu).ash (e16 fu).osh (e16 fu).vsh = p16 fu := by kernel_rfl
set_option maxRecDepth 1000000 in
theorem b16 (fu : Nat) : BodyD Try.prog 16 21 (d16 fu).erase rs16 := bodyD_mk Try.func16 (by kernel_rfl) (by kernel_rfl) (by kernel_rfl) (by kernel_rfl)
theorem g16 (fu : Nat) : (e16 fu).Good Try.prog := good_by orders (b16 fu) (l := [e35 fu, e14 fu]) (by kernel_rfl) ⟨g35 fu, g14 fu, trivial⟩ (by kernel_rfl) (v16 fu)
def rs7 : List RVx := [(.tmp 2)]
/-- gazette/gazettelaw06.RaftlogTwice -/
def p7 (fu : Nat) : ((Int) × ((Int) × ((List (Int)) × ((List (Int)) × ((List (Int)) × ((List (D_api_Entry)) × ((Int) × ((Int) × ((Int) × ((List (D_api_Entry)) × (Unit))))))))))) × (Unit) → Option ((Unit) × (Bool)) := fun ⟨⟨a0, a1, a2, a3, a4, a5, a6, a7, a8, a9, _⟩, _⟩ =>
  Option.bind (p9 fu ()) fun ⟨_, r133⟩ =>
  Option.bind (p12 fu ((a0, a1, a2, a3, a4, a5, ()), ())) fun ⟨_, r134⟩ =>
  bif !r133 then
   some ((), r133)
  else
   bif !r134 then
    some ((), r133)
   else
    Option.bind (p19 fu ((a0, a1, a2, a3, a4, a5, ()), a6, a7, a8, a9, ())) fun ⟨_, ⟨⟨r135, r135_1, r135_2, r135_3, r135_4, r135_5, _⟩, r135_6, r135_7, r135_8, _⟩⟩ =>
    bif (r135_8 != (0 : Int)) then
     some ((), true)
    else
     bif decide (List.length r135_2 = List.length r135_2) then
      bif decide (List.length r135_3 = List.length r135_3) then
       bif decide (List.length r135_4 = List.length r135_4) then
        bif decide (List.length r135_5 = List.length r135_5) then
         Option.bind (p19 fu ((r135, r135_1, r135_2, r135_3, r135_4, r135_5, ()), a6, a7, a8, a9, ())) fun ⟨_, ⟨⟨r136, r136_1, r136_2, r136_3, r136_4, r136_5, _⟩, r136_6, r136_7, r136_8, _⟩⟩ =>
         bif (r136_8 == (0 : Int)) then
          bif (r136_6 == (0 : Int)) then
           bif (((List.length r136_7) : Int) == (0 : Int)) then
            bif decide (List.length r135_2 = List.length r135_2) then
             bif decide (List.length r135_3 = List.length r135_3) then
              bif decide (List.length r135_4 = List.length r135_4) then
               bif decide (List.length r135_5 = List.length r135_5) then
                bif decide (List.length r136_2 = List.length r136_2) then
                 bif decide (List.length r136_3 = List.length r136_3) then
                  bif decide (List.length r136_4 = List.length r136_4) then
                   bif decide (List.length r136_5 = List.length r136_5) then
                    Option.bind (p16 fu ((r135, r135_1, r135_2, r135_3, r135_4, r135_5, ()), (r136, r136_1, r136_2, r136_3, r136_4, r136_5, ()), ())) fun ⟨_, r137⟩ =>
                    some ((), r137)
                   else none
                  else none
                 else none
                else none
               else none
              else none
             else none
            else none
           else
            some ((), false)
          else
           some ((), false)
         else
          some ((), false)
        else none
       else none
      else none
     else none
def e7 (fu : Nat) : Ent := ⟨7, (.cons (.agg 10 (.cons (.hole (.int .u64)) (.cons (.hole (.int .u64)) (.cons (.hole (.sl (.int .i64))) (.cons (.hole (.sl (.int .i64))) (.cons (.hole (.sl (.int .u8))) (.cons (.hole (.sl T_api_Entry)) (.cons (.hole (.int .u64)) (.cons (.hole (.int .u64)) (.cons (.hole (.int .u64)) (.cons (.hole (.sl T_api_Entry)) .nil))))))))))) .nil), .nil, (.hole .bool), p7 fu⟩
def d7 (fu : Nat) : DC := (.seq (.region [(⟨(some 1), none, (.box 46 10 (.tmp 0))⟩, .none), (⟨(some 2), none, (.mov (.const (.bool false)))⟩, .none)] [[], []] false) (.seq (.region [(⟨(some 13), none, (.call 9 [])⟩, (.ent (e9 fu))), (⟨(some 3), none, (.mov (.tmp 13))⟩, .none)] [[], [0, 0, 0]] false) (.seq (.region [(⟨(some 14), none, (.faddr 0 (.tmp 1))⟩, .none), (⟨(some 15), none, (.load true 6 (.tmp 14))⟩, .none), (⟨(some 16), none, (.call 12 [(.tmp 15)])⟩, (.ent (e12 fu))), (⟨(some 4), none, (.mov (.tmp 16))⟩, .none)] [[], [0], [1], [2, 2, 0, 1, 2]] false) (.seq (.seq (.region [(⟨(some 17), none, (.mov (.tmp 3))⟩, .none), (⟨(some 18), none, (.not (.tmp 17))⟩, .none), (⟨(some 19), none, (.mov (.tmp 18))⟩, .none), (⟨(some 20), (some (19, false)), (.mov (.tmp 4))⟩, .none), (⟨(some 21), (some (19, false)), (.not (.tmp 20))⟩, .none), (⟨(some 22), none, (.pick (.tmp 19) (.const (.bool true)) (.tmp 21))⟩, .none)] [[], [0], [1], [2], [3, 2], [2, 4]] false) (.cond (.tmp 22) (.seq (.region [(⟨(some 23), none, (.mov (.tmp 3))⟩, .none), (⟨(some 2), none, (.mov (.tmp 23))⟩, .none)] [[], [0, 0]] false) .ret) .skip)) (.seq (.region [(⟨(some 25), none, (.faddr 0 (.tmp 1))⟩, .none), (⟨(some 26), none, (.load true 6 (.tmp 25))⟩, .none), (⟨(some 27), none, (.faddr 6 (.tmp 1))⟩, .none), (⟨(some 28), none, (.load false 1 (.tmp 27))⟩, .none), (⟨(some 29), none, (.faddr 7 (.tmp 1))⟩, .none), (⟨(some 30), none, (.load false 1 (.tmp 29))⟩, .none), (⟨(some 31), none, (.faddr 8 (.tmp 1))⟩, .none), (⟨(some 32), none, (.load false 1 (.tmp 31))⟩, .none), (⟨(some 33), none, (.faddr 9 (.tmp 1))⟩, .none), (⟨(some 34), none, (.load false 1 (.tmp 33))⟩, .none), (⟨(some 35), none, (.call 19 [(.tmp 26), (.tmp 28), (.tmp 30), (.tmp 32), (.tmp 34)])⟩, (.ent (e19 fu))), (⟨(some 24), none, (.mov (.tmp 35))⟩, .none), (⟨(some 36), none, (.ext (.tmp 24) 0)⟩, .none), (⟨(some 37), none, (.ext (.tmp 24) 1)⟩, .none), (⟨(some 38), none, (.ext (.tmp 24) 2)⟩, .none), (⟨(some 39), none, (.ext (.tmp 24) 3)⟩, .none), (⟨(some 5), none, (.alloc 31 6 [(.int .u64 0), (.int .u64 0), (.slice none 0 0), (.slice none 0 0), (.slice none 0 0), (.slice none 0 0)])⟩, .none), (⟨none, none, (.store 6 (.tmp 5) (.tmp 36))⟩, .none), (⟨(some 6), none, (.mov (.tmp 37))⟩, .none), (⟨(some 7), none, (.mov (.tmp 38))⟩, .none), (⟨(some 8), none, (.mov (.tmp 39))⟩, .none)] [[], [0], [], [2], [], [4], [], [6], [], [8], [1, 3, 5, 7, 9], [10], [11], [11], [11], [11], [], [16, 12, 10, 0, 1, 2, 3, 4, 5, 6, 7, 8, 9, 10, 11, 12, 16], [13, 17, 0, 1, 2, 3, 4, 5, 6, 7, 8, 9, 10, 11, 12, 13, 16, 17], [14, 18, 0, 1, 2, 3, 4, 5, 6, 7, 8, 9, 10, 11, 12, 13, 14, 16, 17, 18], [15, 19, 0, 1, 2, 3, 4, 5, 6, 7, 8, 9, 10, 11, 12, 13, 14, 15, 16, 17, 18, 19]] false) (.seq (.seq (.region [(⟨(some 40), none, (.mov (.tmp 8))⟩, .none), (⟨(some 41), none, (.bin .neq (.tmp 40) (.const (.int .i64 0)))⟩, .none)] [[], [0]] false) (.cond (.tmp 41) (.seq (.region [(⟨(some 2), none, (.mov (.const (.bool true)))⟩, .none)] [[]] false) .ret) .skip)) (.seq (.region [(⟨(some 43), none, (.load true 6 (.tmp 5))⟩, .none), (⟨(some 44), none, (.faddr 6 (.tmp 1))⟩, .none), (⟨(some 45), none, (.load false 1 (.tmp 44))⟩, .none), (⟨(some 46), none, (.faddr 7 (.tmp 1))⟩, .none), (⟨(some 47), none, (.load false 1 (.tmp 46))⟩, .none), (⟨(some 48), none, (.faddr 8 (.tmp 1))⟩, .none), (⟨(some 49), none, (.load false 1 (.tmp 48))⟩, .none), (⟨(some 50), none, (.faddr 9 (.tmp 1))⟩, .none), (⟨(some 51), none, (.load false 1 (.tmp 50))⟩, .none), (⟨(some 52), none, (.call 19 [(.tmp 43), (.tmp 45), (.tmp 47), (.tmp 49), (.tmp 51)])⟩, (.ent (e19 fu))), (⟨(some 42), none, (.mov (.tmp 52))⟩, .none), (⟨(some 53), none, (.ext (.tmp 42) 0)⟩, .none), (⟨(some 54), none, (.ext (.tmp 42) 1)⟩, .none), (⟨(some 55), none, (.ext (.tmp 42) 2)⟩, .none), (⟨(some 56), none, (.ext (.tmp 42) 3)⟩, .none), (⟨(some 9), none, (.alloc 31 6 [(.int .u64 0), (.int .u64 0), (.slice none 0 0), (.slice none 0 0), (.slice none 0 0), (.slice none 0 0)])⟩, .none), (⟨none, none, (.store 6 (.tmp 9) (.tmp 53))⟩, .none), (⟨(some 10), none, (.mov (.tmp 54))⟩, .none), (⟨(some 11), none, (.mov (.tmp 55))⟩, .none), (⟨(some 12), none, (.mov (.tmp 56))⟩, .none)] [[], [], [1], [], [3], [], [5], [], [7], [0, 2, 4, 6, 8], [9], [10], [10], [10], [10], [], [15, 11, 9, 0, 1, 2, 3, 4, 5, 6, 7, 8, 9, 10, 11, 15], [12, 16, 0, 1, 2, 3, 4, 5, 6, 7, 8, 9, 10, 11, 12, 15, 16], [13, 17, 0, 1, 2, 3, 4, 5, 6, 7, 8, 9, 10, 11, 12, 13, 15, 16, 17], [14, 18, 0, 1, 2, 3, 4, 5, 6, 7, 8, 9, 10, 11, 12, 13, 14, 15, 16, 17, 18]] false) (.seq (.region [(⟨(some 57), none, (.mov (.tmp 12))⟩, .none), (⟨(some 58), none, (.bin .eql (.tmp 57) (.const (.int .i64 0)))⟩, .none), (⟨(some 59), none, (.mov (.tmp 58))⟩, .none), (⟨(some 60), (some (59, true)), (.mov (.tmp 10))⟩, .none), (⟨(some 61), (some (59, true)), (.bin .eql (.tmp 60) (.const (.int .u64 0)))⟩, .none), (⟨(some 62), none, (.pick (.tmp 59) (.tmp 61) (.const (.bool false)))⟩, .none), (⟨(some 63), none, (.mov (.tmp 62))⟩, .none), (⟨(some 64), (some (63, true)), (.mov (.tmp 11))⟩, .none), (⟨(some 65), (some (63, true)), (.len false (.tmp 64))⟩, .none), (⟨(some 66), (some (63, true)), (.bin .eql (.tmp 65) (.const (.int .i64 0)))⟩, .none), (⟨(some 67), none, (.pick (.tmp 63) (.tmp 66) (.const (.bool false)))⟩, .none), (⟨(some 68), none, (.mov (.tmp 67))⟩, .none), (⟨(some 69), (some (68, true)), (.load true 6 (.tmp 5))⟩, .none), (⟨(some 70), (some (68, true)), (.load true 6 (.tmp 9))⟩, .none), (⟨(some 71), (some (68, true)), (.call 16 [(.tmp 69), (.tmp 70)])⟩, (.ent (e16 fu))), (⟨(some 72), none, (.pick (.tmp 68) (.tmp 71) (.const (.bool false)))⟩, .none), (⟨(some 2), none, (.mov (.tmp 72))⟩, .none)] [[], [0], [1], [2], [3, 2], [2, 4], [5, 2], [6], [7, 6], [8, 6], [6, 9], [10, 6], [11], [11], [12, 13, 11, 11], [11, 14], [15, 14, 0, 1, 2, 3, 4, 5, 6, 7, 8, 9, 10, 11, 12, 13, 14, 15]] false) .ret))))))))
set_option maxRecDepth 1000000 in
theorem v7 (fu : Nat) : evF fu (d7 fu) rs7 73 (e7 fu).ash (e7 fu).osh (e7 fu).vsh = p7 fu := by kernel_rfl
set_option maxRecDepth 1000000 in
theorem b7 (fu : Nat) : BodyD Try.prog 7 73 (d7 fu).erase rs7 := bodyD_mk Try.func7 (by kernel_rfl) (by kernel_rfl) (by kernel_rfl) (by kernel_rfl)
theorem g7 (fu : Nat) : (e7 fu).Good Try.prog := good_by orders (b7 fu) (l := [e9 fu, e12 fu, e19 fu, e19 fu, e16 fu]) (by kernel_rfl) ⟨g9 fu, g12 fu, g19 fu, g19 fu, g16 fu, trivial⟩ (by kernel_rfl) (v7 fu)
def rs8 : List RVx := [(.tmp 4)]
/-- gazette/gazettelaw06.RaftlogWhole -/
def p8 (fu : Nat) : ((Int) × ((Int) × ((List (Int)) × ((List (Int)) × ((List (Int)) × ((List (D_api_Entry)) × (Unit))))))) × ((Int) × (Unit)) → Option ((Unit) × (Bool)) := fun ⟨⟨a0, a1, a2, a3, a4, a5, _⟩, a6, _⟩ =>
  Option.bind (p9 fu ()) fun ⟨_, r153⟩ =>
  Option.bind (p12 fu ((a0, a1, a2, a3, a4, a5, ()), ())) fun ⟨_, r154⟩ =>
  bif !r153 then
   some ((), r153)
  else
   bif !r154 then
    some ((), r153)
   else
    bif decide (a6 < (1 : Int)) then
     some ((), r153)
    else
     bif decide (a6 > (50 : Int)) then
      some ((), r153)
     else
      Option.bind (p22 fu ((a0, a1, a2, a3, a4, a5, ()), ())) fun ⟨_, ⟨r155, r155_1, _⟩⟩ =>
      loopO (S := ((Int) × (Unit)) × (((Int) × ((Int) × ((List (Int)) × ((List (Int)) × ((List (Int)) × ((List (D_api_Entry)) × (Unit))))))) × (Unit))) fu (fun ⟨⟨v10, _⟩, ⟨⟨v1384, v1384_1, v1384_2, v1384_3, v1384_4, v1384_5, _⟩, _⟩⟩ =>
        bif decide (v10 ≤ (List.length a5 : Int)) then
         bif decide (List.length v1384_5 = List.length v1384_5) then
          Option.bind (p22 fu ((v1384, v1384_1, v1384_2, v1384_3, v1384_4, v1384_5, ()), ())) fun ⟨_, ⟨r156, r156_1, _⟩⟩ =>
          bif (r156 == r155) then
           bif decide (List.length v1384_5 = List.length v1384_5) then
            Option.bind (p16 fu ((v1384, v1384_1, v1384_2, v1384_3, v1384_4, v1384_5, ()), (a0, a1, a2, a3, a4, a5, ()), ())) fun ⟨_, r157⟩ =>
            inrO (some ((), r157))
           else none
          else
           Option.bind (p11 fu ((a0, a1, a2, a3, a4, a5, ()), IntKind.wrap .u64 (r156 + (1 : Int)), a6, ())) fun ⟨_, ⟨r158, r158_1, _⟩⟩ =>
           bif decide (List.length v1384_5 = List.length v1384_5) then
            bif decide (List.length r158 = List.length r158) then
             Option.bind (p19 fu ((v1384, v1384_1, v1384_2, v1384_3, v1384_4, v1384_5, ()), a0, r156, r156_1, r158, ())) fun ⟨_, ⟨⟨r159, r159_1, r159_2, r159_3, r159_4, r159_5, _⟩, r159_6, r159_7, r159_8, _⟩⟩ =>
             bif (r158_1 != (0 : Int)) then
              inrO (some ((), false))
             else
              bif (r159_8 != (0 : Int)) then
               inrO (some ((), false))
              else
               bif (r159_6 != (0 : Int)) then
                inrO (some ((), false))
               else
                bif (((List.length r159_7) : Int) != ((List.length r158) : Int)) then
                 inrO (some ((), false))
                else
                 bif (((List.length r158) : Int) == (0 : Int)) then
                  inrO (some ((), false))
                 else
                  bif decide (((List.length r158) : Int) > a6) then
                   inrO (some ((), false))
                  else
                   bif decide (List.length r159_2 = List.length r159_2) then
                    bif decide (List.length r159_3 = List.length r159_3) then
                     bif decide (List.length r159_4 = List.length r159_4) then
                      bif decide (List.length r159_5 = List.length r159_5) then
                       some (.inl ((IntKind.wrap .i64 (v10 + (1 : Int)), ()), ((r159, r159_1, r159_2, r159_3, r159_4, r159_5, ()), ())))
                      else none
                     else none
                    else none
                   else none
            else none
           else none
         else none
        else
         inrO (some ((), false)))
       (((0 : Int), ()), ((a0, a1, a2, a3, a4, [], ()), ()))
def e8 (fu : Nat) : Ent := ⟨8, (.cons (.agg 6 (.cons (.hole (.int .u64)) (.cons (.hole (.int .u64)) (.cons (.hole (.sl (.int .i64))) (.cons (.hole (.sl (.int .i64))) (.cons (.hole (.sl (.int .u8))) (.cons (.hole (.sl T_api_Entry)) .nil))))))) (.cons (.hole (.int .i64)) .nil)), .nil, (.hole .bool), p8 fu⟩
def d8 (fu : Nat) : DC := (.seq (.region [(⟨(some 2), none, (.box 31 6 (.tmp 0))⟩, .none), (⟨(some 4), none, (.mov (.const (.bool false)))⟩, .none)] [[], []] false) (.seq (.region [(⟨(some 19), none, (.call 9 [])⟩, (.ent (e9 fu))), (⟨(some 5), none, (.mov (.tmp 19))⟩, .none)] [[], [0, 0, 0]] false) (.seq (.region [(⟨(some 20), none, (.load true 6 (.tmp 2))⟩, .none), (⟨(some 21), none, (.call 12 [(.tmp 20)])⟩, (.ent (e12 fu))), (⟨(some 6), none, (.mov (.tmp 21))⟩, .none)] [[], [0], [1, 1, 0, 1]] false) (.seq (.seq (.region [(⟨(some 22), none, (.mov (.tmp 5))⟩, .none), (⟨(some 23), none, (.not (.tmp 22))⟩, .none), (⟨(some 24), none, (.mov (.tmp 23))⟩, .none), (⟨(some 25), (some (24, false)), (.mov (.tmp 6))⟩, .none), (⟨(some 26), (some (24, false)), (.not (.tmp 25))⟩, .none), (⟨(some 27), none, (.pick (.tmp 24) (.const (.bool true)) (.tmp 26))⟩, .none), (⟨(some 28), none, (.mov (.tmp 27))⟩, .none), (⟨(some 29), (some (28, false)), (.mov (.tmp 1))⟩, .none), (⟨(some 30), (some (28, false)), (.bin .lss (.tmp 29) (.const (.int .i64 1)))⟩, .none), (⟨(some 31), none, (.pick (.tmp 28) (.const (.bool true)) (.tmp 30))⟩, .none), (⟨(some 32), none, (.mov (.tmp 31))⟩, .none), (⟨(some 33), (some (32, false)), (.mov (.tmp 1))⟩, .none), (⟨(some 34), (some (32, false)), (.bin .gtr (.tmp 33) (.const (.int .i64 50)))⟩, .none), (⟨(some 35), none, (.pick (.tmp 32) (.const (.bool true)) (.tmp 34))⟩, .none)] [[], [0], [1], [2], [3, 2], [2, 4], [5, 2], [6], [7, 6], [6, 8], [9, 6], [10], [11, 10], [10, 12]] false) (.cond (.tmp 35) (.seq (.region [(⟨(some 36), none, (.mov (.tmp 5))⟩, .none), (⟨(some 4), none, (.mov (.tmp 36))⟩, .none)] [[], [0, 0]] false) .ret) .skip)) (.seq (.region [(⟨(some 37), none, (.faddr 0 (.tmp 2))⟩, .none), (⟨(some 38), none, (.load true 5 (.tmp 37))⟩, .none), (⟨(some 39), none, (.build 6 [(.int .u64 0), (.int .u64 0), (.slice none 0 0), (.slice none 0 0), (.slice none 0 0), (.slice none 0 0)] [(0, (5, (.tmp 38)))])⟩, .none), (⟨(some 7), none, (.alloc 31 6 [(.int .u64 0), (.int .u64 0), (.slice none 0 0), (.slice none 0 0), (.slice none 0 0), (.slice none 0 0)])⟩, .none), (⟨none, none, (.store 6 (.tmp 7) (.tmp 39))⟩, .none)] [[], [0], [1], [], [3, 2, 0, 1, 2, 3]] false) (.seq (.region [(⟨(some 41), none, (.load true 6 (.tmp 2))⟩, .none), (⟨(some 42), none, (.call 22 [(.tmp 41)])⟩, (.ent (e22 fu))), (⟨(some 40), none, (.mov (.tmp 42))⟩, .none), (⟨(some 43), none, (.ext (.tmp 40) 0)⟩, .none), (⟨(some 44), none, (.ext (.tmp 40) 1)⟩, .none), (⟨(some 8), none, (.mov (.tmp 43))⟩, .none), (⟨(some 9), none, (.mov (.tmp 44))⟩, .none)] [[], [0], [1], [2], [2], [3, 1, 0, 1, 2, 3], [4, 5, 0, 1, 2, 3, 4, 5]] false) (.seq (.seq (.region [(⟨(some 10), none, (.mov (.const (.int .i64 0)))⟩, .none)] [[]] false) (.block 0 (.loop ⟨[10], (.cons (.hole (.int .i64)) .nil), [(384, 31, 6)], (.cons (.agg 6 (.cons (.hole (.int .u64)) (.cons (.hole (.int .u64)) (.cons (.hole (.sl (.int .i64))) (.cons (.hole (.sl (.int .i64))) (.cons (.hole (.sl (.int .u8))) (.cons (.own .own 51 T_api_Entry) .nil))))))) .nil), [1, 2, 7, 8], [0]⟩
 (.seq (.seq (.region [(⟨(some 45), none, (.mov (.tmp 10))⟩, .none), (⟨(some 46), none, (.faddr 5 (.tmp 2))⟩, .none), (⟨(some 47), none, (.load false 1 (.tmp 46))⟩, .none), (⟨(some 48), none, (.len false (.tmp 47))⟩, .none), (⟨(some 49), none, (.bin .leq (.tmp 45) (.tmp 48))⟩, .none)] [[], [], [1], [2], [0, 3]] false) (.cond (.tmp 49) .skip (.exit 0))) (.seq (.block 1 (.seq (.region [(⟨(some 53), none, (.load true 6 (.tmp 7))⟩, .none), (⟨(some 54), none, (.call 22 [(.tmp 53)])⟩, (.ent (e22 fu))), (⟨(some 52), none, (.mov (.tmp 54))⟩, .none), (⟨(some 55), none, (.ext (.tmp 52) 0)⟩, .none), (⟨(some 56), none, (.ext (.tmp 52) 1)⟩, .none), (⟨(some 11), none, (.mov (.tmp 55))⟩, .none), (⟨(some 12), none, (.mov (.tmp 56))⟩, .none)] [[], [0], [1], [2], [2], [3, 1, 0, 1, 2, 3], [4, 5, 0, 1, 2, 3, 4, 5]] false) (.seq (.seq (.region [(⟨(some 57), none, (.mov (.tmp 11))⟩, .none), (⟨(some 58), none, (.mov (.tmp 8))⟩, .none), (⟨(some 59), none, (.bin .eql (.tmp 57) (.tmp 58))⟩, .none)] [[], [], [0, 1]] false) (.cond (.tmp 59) (.seq (.region [(⟨(some 60), none, (.load true 6 (.tmp 7))⟩, .none), (⟨(some 61), none, (.load true 6 (.tmp 2))⟩, .none), (⟨(some 62), none, (.call 16 [(.tmp 60), (.tmp 61)])⟩, (.ent (e16 fu))), (⟨(some 4), none, (.mov (.tmp 62))⟩, .none)] [[], [], [0, 1], [2, 2, 0, 1, 2]] false) .ret) .skip)) (.seq (.region [(⟨(some 64), none, (.load true 6 (.tmp 2))⟩, .none), (⟨(some 65), none, (.mov (.tmp 11))⟩, .none), (⟨(some 66), none, (.bin .add (.tmp 65) (.const (.int .u64 1)))⟩, .none), (⟨(some 67), none, (.mov (.tmp 1))⟩, .none), (⟨(some 68), none, (.call 11 [(.tmp 64), (.tmp 66), (.tmp 67)])⟩, (.ent (e11 fu))), (⟨(some 63), none, (.mov (.tmp 68))⟩, .none), (⟨(some 69), none, (.ext (.tmp 63) 0)⟩, .none), (⟨(some 70), none, (.ext (.tmp 63) 1)⟩, .none), (⟨(some 13), none, (.mov (.tmp 69))⟩, .none), (⟨(some 14), none, (.mov (.tmp 70))⟩, .none)] [[], [], [1], [], [0, 2, 3], [4], [5], [5], [6, 4, 0, 1, 2, 3, 4, 5, 6], [7, 8, 0, 1, 2, 3, 4, 5, 6, 7, 8]] false) (.seq (.region [(⟨(some 72), none, (.load true 6 (.tmp 7))⟩, .none), (⟨(some 73), none, (.faddr 0 (.tmp 2))⟩, .none), (⟨(some 74), none, (.faddr 0 (.tmp 73))⟩, .none), (⟨(some 75), none, (.load false 1 (.tmp 74))⟩, .none), (⟨(some 76), none, (.mov (.tmp 11))⟩, .none), (⟨(some 77), none, (.mov (.tmp 12))⟩, .none), (⟨(some 78), none, (.mov (.tmp 13))⟩, .none), (⟨(some 79), none, (.call 19 [(.tmp 72), (.tmp 75), (.tmp 76), (.tmp 77), (.tmp 78)])⟩, (.ent (e19 fu))), (⟨(some 71), none, (.mov (.tmp 79))⟩, .none), (⟨(some 80), none, (.ext (.tmp 71) 0)⟩, .none), (⟨(some 81), none, (.ext (.tmp 71) 1)⟩, .none), (⟨(some 82), none, (.ext (.tmp 71) 2)⟩, .none), (⟨(some 83), none, (.ext (.tmp 71) 3)⟩, .none), (⟨(some 15), none, (.alloc 31 6 [(.int .u64 0), (.int .u64 0), (.slice none 0 0), (.slice none 0 0), (.slice none 0 0), (.slice none 0 0)])⟩, .none), (⟨none, none, (.store 6 (.tmp 15) (.tmp 80))⟩, .none), (⟨(some 16), none, (.mov (.tmp 81))⟩, .none), (⟨(some 17), none, (.mov (.tmp 82))⟩, .none), (⟨(some 18), none, (.mov (.tmp 83))⟩, .none)] [[], [], [1], [2], [], [], [], [0, 3, 4, 5, 6], [7], [8], [8], [8], [8], [], [13, 9, 7, 0, 1, 2, 3, 4, 5, 6, 7, 8, 9, 13], [10, 14, 0, 1, 2, 3, 4, 5, 6, 7, 8, 9, 10, 13, 14], [11, 15, 0, 1, 2, 3, 4, 5, 6, 7, 8, 9, 10, 11, 13, 14, 15], [12, 16, 0, 1, 2, 3, 4, 5, 6, 7, 8, 9, 10, 11, 12, 13, 14, 15, 16]] false) (.seq (.seq (.region [(⟨(some 84), none, (.mov (.tmp 14))⟩, .none), (⟨(some 85), none, (.bin .neq (.tmp 84) (.const (.int .i64 0)))⟩, .none), (⟨(some 86), none, (.mov (.tmp 85))⟩, .none), (⟨(some 87), (some (86, false)), (.mov (.tmp 18))⟩, .none), (⟨(some 88), (some (86, false)), (.bin .neq (.tmp 87) (.const (.int .i64 0)))⟩, .none), (⟨(some 89), none, (.pick (.tmp 86) (.const (.bool true)) (.tmp 88))⟩, .none), (⟨(some 90), none, (.mov (.tmp 89))⟩, .none), (⟨(some 91), (some (90, false)), (.mov (.tmp 16))⟩, .none), (⟨(some 92), (some (90, false)), (.bin .neq (.tmp 91) (.const (.int .u64 0)))⟩, .none), (⟨(some 93), none, (.pick (.tmp 90) (.const (.bool true)) (.tmp 92))⟩, .none), (⟨(some 94), none, (.mov (.tmp 93))⟩, .none), (⟨(some 95), (some (94, false)), (.mov (.tmp 17))⟩, .none), (⟨(some 96), (some (94, false)), (.len false (.tmp 95))⟩, .none), (⟨(some 97), (some (94, false)), (.mov (.tmp 13))⟩, .none), (⟨(some 98), (some (94, false)), (.len false (.tmp 97))⟩, .none), (⟨(some 99), (some (94, false)), (.bin .neq (.tmp 96) (.tmp 98))⟩, .none), (⟨(some 100), none, (.pick (.tmp 94) (.const (.bool true)) (.tmp 99))⟩, .none), (⟨(some 101), none, (.mov (.tmp 100))⟩, .none), (⟨(some 102), (some (101, false)), (.mov (.tmp 13))⟩, .none), (⟨(some 103), (some (101, false)), (.len false (.tmp 102))⟩, .none), (⟨(some 104), (some (101, false)), (.bin .eql (.tmp 103) (.const (.int .i64 0)))⟩, .none), (⟨(some 105), none, (.pick (.tmp 101) (.const (.bool true)) (.tmp 104))⟩, .none), (⟨(some 106), none, (.mov (.tmp 105))⟩, .none), (⟨(some 107), (some (106, false)), (.mov (.tmp 13))⟩, .none), (⟨(some 108), (some (106, false)), (.len false (.tmp 107))⟩, .none), (⟨(some 109), (some (106, false)), (.mov (.tmp 1))⟩, .none), (⟨(some 110), (some (106, false)), (.bin .gtr (.tmp 108) (.tmp 109))⟩, .none), (⟨(some 111), none, (.pick (.tmp 106) (.const (.bool true)) (.tmp 110))⟩, .none)] [[], [0], [1], [2], [3, 2], [2, 4], [5, 2], [6], [7, 6], [6, 8], [9, 6], [10], [11, 10], [10], [13, 10], [12, 14, 10], [10, 15], [16, 10], [17], [18, 17], [19, 17], [17, 20], [21, 17], [22], [23, 22], [22], [24, 25, 22], [22, 26]] false) (.cond (.tmp 111) (.seq (.region [(⟨(some 4), none, (.mov (.const (.bool false)))⟩, .none)] [[]] false) .ret) .skip)) (.region [(⟨(some 112), none, (.load true 6 (.tmp 15))⟩, .none), (⟨none, none, (.store 6 (.tmp 7) (.tmp 112))⟩, .none)] [[], [0, 0]] false))))))) (.region [(⟨(some 50), none, (.mov (.tmp 10))⟩, .none), (⟨(some 51), none, (.bin .add (.tmp 50) (.const (.int .i64 1)))⟩, .none), (⟨(some 10), none, (.mov (.tmp 51))⟩, .none)] [[], [0], [1, 0, 1]] false)))))) (.seq (.region [(⟨(some 4), none, (.mov (.const (.bool false)))⟩, .none)] [[]] false) .ret))))))))
set_option maxRecDepth 1000000 in
theorem v8 (fu : Nat) : evF fu (d8 fu) rs8 113 (e8 fu).ash (e8 fu).osh (e8 fu).vsh = p8 fu := by kernel_rfl
set_option maxRecDepth 1000000 in
theorem b8 (fu : Nat) : BodyD Try.prog 8 113 (d8 fu).erase rs8 := bodyD_mk Try.func8 (by kernel_rfl) (by kernel_rfl) (by kernel_rfl) (by kernel_rfl)
theorem g8 (fu : Nat) : (e8 fu).Good Try.prog := good_by orders (b8 fu) (l := [e9 fu, e12 fu, e22 fu, e22 fu, e16 fu, e11 fu, e19 fu]) (by kernel_rfl) ⟨g9 fu, g12 fu, g22 fu, g22 fu, g16 fu, g11 fu, g19 fu, trivial⟩ (by kernel_rfl) (v8 fu)
end Go.Proofs.Ytdblllnnccaccaa
