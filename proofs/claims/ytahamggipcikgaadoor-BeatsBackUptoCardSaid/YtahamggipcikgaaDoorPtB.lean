/-
  The functions, typed.
-/
import Derived.Test.YtahamggipcikgaaDoorDaL
import Derived.Test.YtahamggipcikgaaDoorRows
namespace Go.Proofs.YtahamggipcikgaaDoor.Bq
set_option maxRecDepth 1000000
open Go.RowKit
abbrev T_api_Conf:Tp := (.pair (.sl (.int .i64)) (.sl (.int .i64)))
abbrev D_api_Conf := (List (Int))×(List (Int))
abbrev T_api_Packet:Tp := (.pair (.int .i64) (.pair (.int .i64) (.pair (.int .i64) (.sl (.int .u8)))))
abbrev D_api_Packet := (Int)×((Int)×((Int)×(List (Int))))
abbrev T_api_Entry:Tp := (.pair (.int .u64) (.pair (.int .u64) (.pair (.int .i64) (.pair (.sl (.int .u8)) T_api_Conf))))
abbrev D_api_Entry := (Int)×((Int)×((Int)×((List (Int))×(D_api_Conf))))
abbrev T_api_Msg:Tp := (.pair (.int .i64) (.pair (.int .i64) (.pair (.int .i64) (.pair (.int .u64) (.pair (.int .u64) (.pair (.int .u64) (.pair (.sl T_api_Entry) (.pair (.int .u64) (.pair .bool (.pair (.int .u64) (.pair T_api_Conf (.pair (.sl (.int .u8)) .bool))))))))))))
abbrev D_api_Msg := (Int)×((Int)×((Int)×((Int)×((Int)×((Int)×((List (D_api_Entry))×((Int)×((Bool)×((Int)×((D_api_Conf)×((List (Int))×(Bool))))))))))))
abbrev T_beats_Wire:Tp := (.pair (.int .u64) T_api_Msg)
abbrev D_beats_Wire := (Int)×(D_api_Msg)
theorem orders:Tryd.prog.follows .mixedOrders=true := by kernel_rfl
abbrev Z0:Type := (Int)×((Int)×((Int)×((Int)×((Int)×((Int)×((List (D_api_Entry))×((Int)×((Bool)×((Int)×((List (Int))×((List (Int))×((List (Int))×((Bool)×(Unit))))))))))))))
abbrev Y1:Sh := (.agg 14 (.cons (.hole (.int .i64)) (.cons (.hole (.int .i64)) (.cons (.hole (.int .i64)) (.cons (.hole (.int .u64)) (.cons (.hole (.int .u64)) (.cons (.hole (.int .u64)) (.cons (.hole (.sl T_api_Entry)) (.cons (.hole (.int .u64)) (.cons (.hole .bool) (.cons (.hole (.int .u64)) (.cons (.hole (.sl (.int .i64))) (.cons (.hole (.sl (.int .i64))) (.cons (.hole (.sl (.int .u8))) (.cons (.hole .bool) .nil)))))))))))))))
abbrev Z2:Type := (Int)×((Int)×((Int)×((List (Int))×((List (Int))×((List (Int))×(Unit))))))
abbrev Y3:Sh := (.agg 6 (.cons (.hole (.int .u64)) (.cons (.hole (.int .u64)) (.cons (.hole (.int .i64)) (.cons (.hole (.sl (.int .u8))) (.cons (.hole (.sl (.int .i64))) (.cons (.hole (.sl (.int .i64))) .nil)))))))
def rs15:List RVx := [(.tmp 2)]
def p15 (_:Nat):(Int)×(Unit)→Option ((Unit)×(Bool)) := fun ⟨a,_⟩ =>
bif decide (a≥(1:Int)) then
 some ((),decide (a≤(7:Int)))
else
 some ((),false)
def e15 (fu:Nat):Ent := ⟨15,(.cons (.hole (.int .i64)) .nil),.nil,(.hole .bool),p15 fu⟩
def d15 (_:Nat):DC := (.seq (.region [opD 2 (.mov (.const vB))] [[]] false) (.seq (.region [mvD 3 0,opD 4 (.bin .geq (tD 3) (cD 1)),mvD 5 4,ogD 6 5 true (.mov (tD 0)),ogD 7 5 true (.bin .leq (tD 6) (cD 7)),opD 8 (.pick (tD 5) (tD 7) (.const vB)),mvD 2 8] [[],[0],[1],[2],[3,2],[2,4],[5,2,0,1,2,3,4,5]] false) .ret))
theorem g15 (fu:Nat):(e15 fu).Good Tryd.prog := good_fn orders Tryd.func15 fu (d15 fu) rs15 9 (l := []) trivial
def rs43:List RVx := [(.tmp 2)]
def p43 (_:Nat):(Int)×(Unit)→Option ((Unit)×(Bool)) := fun ⟨a,_⟩ =>
bif decide (a≥(1:Int)) then
 some ((),decide (a≤(9:Int)))
else
 some ((),false)
def e43 (fu:Nat):Ent := ⟨43,(.cons (.hole (.int .i64)) .nil),.nil,(.hole .bool),p43 fu⟩
def d43 (_:Nat):DC := (.seq (.region [opD 2 (.mov (.const vB))] [[]] false) (.seq (.region [mvD 3 0,opD 4 (.bin .geq (tD 3) (cD 1)),mvD 5 4,ogD 6 5 true (.mov (tD 0)),ogD 7 5 true (.bin .leq (tD 6) (cD 9)),opD 8 (.pick (tD 5) (tD 7) (.const vB)),mvD 2 8] [[],[0],[1],[2],[3,2],[2,4],[5,2,0,1,2,3,4,5]] false) .ret))
theorem g43 (fu:Nat):(e43 fu).Good Tryd.prog := good_fn orders Tryd.func43 fu (d43 fu) rs43 9 (l := []) trivial
def rs70:List RVx := [(.tmp 2)]
def p70 (_:Nat):((List (Int))×((List (Int))×(Unit)))×(Unit)→Option ((Unit)×(Bool)) := fun ⟨⟨a,c,_⟩,_⟩ =>
bif decide ((List.length a:Int)>(7:Int)) then
 some ((),true)
else
 some ((),decide ((List.length c:Int)>(7:Int)))
def e70 (fu:Nat):Ent := ⟨70,(.cons (.agg 2 (.cons (.hole (.sl (.int .i64))) (.cons (.hole (.sl (.int .i64))) .nil))) .nil),.nil,(.hole .bool),p70 fu⟩
def d70 (_:Nat):DC := (.seq (.region [opD 1 (.box 40 2 (tD 0)),opD 2 (.mov (.const vB))] [[],[]] false) (.seq (.region [opD 3 (.faddr 0 (tD 1)),opD 4 (.load false 1 (tD 3)),opD 5 (.len false (tD 4)),opD 6 (.bin .gtr (tD 5) (cD 7)),mvD 7 6,ogD 8 7 false (.faddr 1 (tD 1)),ogD 9 7 false (.load false 1 (tD 8)),ogD 10 7 false (.len false (tD 9)),ogD 11 7 false (.bin .gtr (tD 10) (cD 7)),opD 12 (.pick (tD 7) (.const (.bool true)) (tD 11)),mvD 2 12] [[],[0],[1],[2],[3],[4],[5,4],[6,4],[7,4],[4,8],[9,4,0,1,2,3,4,5,6,7,8,9]] false) .ret))
theorem g70 (fu:Nat):(e70 fu).Good Tryd.prog := good_fn orders Tryd.func70 fu (d70 fu) rs70 13 (l := []) trivial
def rs54:List RVx := [(.tmp 2)]
def p54 (fu:Nat):(Z0)×(Unit)→Option ((Unit)×(Bool)) := fun ⟨⟨_,_,_,_,_,_,a,_,_,_,c,f,h,_,_⟩,_⟩ =>
bif decide ((List.length a:Int)>(8:Int)) then
 some ((),true)
else
 bif decide ((List.length h:Int)>(262144:Int)) then
 some ((),true)
 else
 Option.bind (p70 fu ((c,f,()),())) fun ⟨_,i⟩ =>
 bif i then
 some ((),true)
 else
 loopO (S := ((Int)×(Unit))×(Unit)) fu (fun ⟨⟨j,_⟩,_⟩ =>
 bif decide (j<(List.length a:Int)) then
 bif decide ((0:Int)≤j∧j<(List.length a:Int)) then
 bif decide (Int.toNat j<List.length a) then
 bif decide ((List.length (((((List.getD a (Int.toNat j) (dflt T_api_Entry)).2).2).2).1):Int)>(262144:Int)) then
 inrO (some ((),true))
 else
 Option.bind (p70 fu (((((((List.getD a (Int.toNat j) (dflt T_api_Entry)).2).2).2).2).1,(((((List.getD a (Int.toNat j) (dflt T_api_Entry)).2).2).2).2).2,()),())) fun ⟨_,k⟩ =>
 bif k then
 inrO (some ((),true))
 else
 bif decide (((((List.getD a (Int.toNat j) (dflt T_api_Entry)).2).2).1)<(1:Int)) then
 inrO (some ((),true))
 else
 bif decide (((((List.getD a (Int.toNat j) (dflt T_api_Entry)).2).2).1)>(3:Int)) then
 inrO (some ((),true))
 else
 some (.inl ((IntKind.wrap .i64 (j+(1:Int)),()),()))
 else none
 else none
 else
 inrO (some ((),false)))
 (((0:Int),()),())
def e54 (fu:Nat):Ent := ⟨54,(.cons Y1 .nil),.nil,(.hole .bool),p54 fu⟩
def d54 (fu:Nat):DC := (.seq (.region [opD 1 (.box 42 14 (tD 0)),opD 2 (.mov (.const vB))] [[],[]] false) (.seq (.seq (.region [opD 5 (.faddr 6 (tD 1)),opD 6 (.load false 1 (tD 5)),opD 7 (.len false (tD 6)),opD 8 (.bin .gtr (tD 7) (cD 8)),mvD 9 8,ogD 10 9 false (.faddr 12 (tD 1)),ogD 11 9 false (.load false 1 (tD 10)),ogD 12 9 false (.len false (tD 11)),ogD 13 9 false (.bin .gtr (tD 12) (cD 262144)),opD 14 (.pick (tD 9) (.const (.bool true)) (tD 13)),mvD 15 14,ogD 16 15 false (.faddr 10 (tD 1)),ogD 17 15 false (.load true 2 (tD 16)),(⟨(some 18),(some (15,false)),(.call 70 [(tD 17)])⟩,(.ent (e70 fu))),opD 19 (.pick (tD 15) (.const (.bool true)) (tD 18))] [[],[0],[1],[2],[3],[4],[5,4],[6,4],[7,4],[4,8],[9,4],[10],[11,10],[12,10,10],[10,13]] false) (.cond (.tmp 19) (.seq (.region [opD 2 (.mov (.const (.bool true)))] [[]] false) .ret) .skip)) (.seq (.seq (.region [opD 20 (.faddr 6 (tD 1)),opD 21 (.load false 1 (tD 20)),opD 22 (.len false (tD 21)),opD 23 (.mov (cD 0))] [[],[0],[1],[]] false) (.block 0 (.loop ⟨[23],(.cons (.hole (.int .i64)) .nil),[],.nil,[21,22],[]⟩
 (.seq (.region [opD 24 (.bin .lss (tD 23) (tD 22))] [[]] false) (.seq (.cond (.tmp 24) .skip (.exit 0)) (.seq (.block 1 (.seq (.region [opD 25 (.iaddr 6 (tD 21) (tD 23)),opD 26 (.load true 6 (tD 25)),opD 4 (.alloc 96 6 [vU,vU,vI,vS,vS,vS]),onD (.store 6 (tD 4) (tD 26))] [[],[0],[],[2,1,0,1,2]] false) (.seq (.region [opD 27 (.faddr 3 (tD 4)),opD 28 (.load false 1 (tD 27)),opD 29 (.len false (tD 28)),opD 30 (.bin .gtr (tD 29) (cD 262144)),mvD 31 30,ogD 32 31 false (.faddr 4 (tD 4)),ogD 33 31 false (.load true 2 (tD 32)),(⟨(some 34),(some (31,false)),(.call 70 [(tD 33)])⟩,(.ent (e70 fu))),opD 35 (.pick (tD 31) (.const (.bool true)) (tD 34)),mvD 36 35,ogD 37 36 false (.faddr 2 (tD 4)),ogD 38 36 false (.load false 1 (tD 37)),ogD 39 36 false (.bin .lss (tD 38) (cD 1)),opD 40 (.pick (tD 36) (.const (.bool true)) (tD 39)),mvD 41 40,ogD 42 41 false (.faddr 2 (tD 4)),ogD 43 41 false (.load false 1 (tD 42)),ogD 44 41 false (.bin .gtr (tD 43) (cD 3)),opD 45 (.pick (tD 41) (.const (.bool true)) (tD 44))] [[],[0],[1],[2],[3],[4],[5,4],[6,4,4],[4,7],[8,7],[9],[10,9],[11,9],[9,12],[13,9],[14],[15,14],[16,14],[14,17]] false) (.cond (.tmp 45) (.seq (.region [opD 2 (.mov (.const (.bool true)))] [[]] false) .ret) .skip)))) (.region [opD 46 (.bin .add (tD 23) (cD 1)),mvD 23 46] [[],[0]] false))))))) (.seq (.region [opD 2 (.mov (.const vB))] [[]] false) .ret))))
theorem g54 (fu:Nat):(e54 fu).Good Tryd.prog := good_fn orders Tryd.func54 fu (d54 fu) rs54 47 (l := [e70 fu,e70 fu]) ⟨g70 fu,g70 fu,trivial⟩
def rs31:List RVx := [(.tmp 4)]
def p31 (fu:Nat):(Int)×((List (D_beats_Wire))×(Unit))→Option ((Unit)×(Int)) := fun ⟨a,c,_⟩ =>
Option.bind (p15 fu (a,())) fun ⟨_,f⟩ =>
bif !f then
 some ((),(1:Int))
else
 loopO (S := ((Int)×(Unit))×(Unit)) fu (fun ⟨⟨h,_⟩,_⟩ =>
 bif decide (h<(List.length c:Int)) then
 bif decide ((0:Int)≤h∧h<(List.length c:Int)) then
 bif decide (Int.toNat h<List.length c) then
 bif (((((List.getD c (Int.toNat h) (dflt T_beats_Wire)).2).2).1) != a) then
 inrO (some ((),(1:Int)))
 else
 Option.bind (p15 fu (((((List.getD c (Int.toNat h) (dflt T_beats_Wire)).2).2).2).1,())) fun ⟨_,i⟩ =>
 bif !i then
 inrO (some ((),(1:Int)))
 else
 bif ((((((List.getD c (Int.toNat h) (dflt T_beats_Wire)).2).2).2).1)==a) then
 inrO (some ((),(1:Int)))
 else
 Option.bind (p43 fu (((List.getD c (Int.toNat h) (dflt T_beats_Wire)).2).1,())) fun ⟨_,j⟩ =>
 bif !j then
 inrO (some ((),(1:Int)))
 else
 some (.inl ((IntKind.wrap .i64 (h+(1:Int)),()),()))
 else none
 else none
 else
 inrO (bif decide ((List.length c:Int)>(4096:Int)) then
 some ((),(2:Int))
 else
 loopO (S := ((Int)×(Unit))×(Unit)) fu (fun ⟨⟨k,_⟩,_⟩ =>
 bif decide (k<(List.length c:Int)) then
 bif decide ((0:Int)≤k∧k<(List.length c:Int)) then
 bif decide (Int.toNat k<List.length c) then
 Option.bind (p54 fu ((((List.getD c (Int.toNat k) (dflt T_beats_Wire)).2).1,(((List.getD c (Int.toNat k) (dflt T_beats_Wire)).2).2).1,((((List.getD c (Int.toNat k) (dflt T_beats_Wire)).2).2).2).1,(((((List.getD c (Int.toNat k) (dflt T_beats_Wire)).2).2).2).2).1,((((((List.getD c (Int.toNat k) (dflt T_beats_Wire)).2).2).2).2).2).1,(((((((List.getD c (Int.toNat k) (dflt T_beats_Wire)).2).2).2).2).2).2).1,((((((((List.getD c (Int.toNat k) (dflt T_beats_Wire)).2).2).2).2).2).2).2).1,(((((((((List.getD c (Int.toNat k) (dflt T_beats_Wire)).2).2).2).2).2).2).2).2).1,((((((((((List.getD c (Int.toNat k) (dflt T_beats_Wire)).2).2).2).2).2).2).2).2).2).1,(((((((((((List.getD c (Int.toNat k) (dflt T_beats_Wire)).2).2).2).2).2).2).2).2).2).2).1,(((((((((((((List.getD c (Int.toNat k) (dflt T_beats_Wire)).2).2).2).2).2).2).2).2).2).2).2).1).1,(((((((((((((List.getD c (Int.toNat k) (dflt T_beats_Wire)).2).2).2).2).2).2).2).2).2).2).2).1).2,(((((((((((((List.getD c (Int.toNat k) (dflt T_beats_Wire)).2).2).2).2).2).2).2).2).2).2).2).2).1,(((((((((((((List.getD c (Int.toNat k) (dflt T_beats_Wire)).2).2).2).2).2).2).2).2).2).2).2).2).2,()),())) fun ⟨_,l⟩ =>
 bif l then
 inrO (some ((),(2:Int)))
 else
 some (.inl ((IntKind.wrap .i64 (k+(1:Int)),()),()))
 else none
 else none
 else
 inrO (some ((),(0:Int))))
 (((0:Int),()),())))
 (((0:Int),()),())
def e31 (fu:Nat):Ent := ⟨31,(.cons (.hole (.int .i64)) (.cons (.hole (.sl T_beats_Wire)) .nil)),.nil,(.hole (.int .i64)),p31 fu⟩
def d31 (fu:Nat):DC := (.seq (.region [opD 4 (.mov (cD 0))] [[]] false) (.seq (.seq (.region [mvD 10 0,oqD 11 (.call 15 [(tD 10)]) (.ent (e15 fu)),opD 12 (.not (tD 11))] [[],[0],[1]] false) (.cond (.tmp 12) (.seq (.region [opD 4 (.mov (cD 1))] [[]] false) .ret) .skip)) (.seq (.seq (.region [mvD 13 1,opD 14 (.len false (tD 13)),opD 15 (.mov (cD 0))] [[],[0],[]] false) (.block 0 (.loop ⟨[15],(.cons (.hole (.int .i64)) .nil),[],.nil,[0,1,13,14],[]⟩
 (.seq (.region [opD 16 (.bin .lss (tD 15) (tD 14))] [[]] false) (.seq (.cond (.tmp 16) .skip (.exit 0)) (.seq (.block 1 (.seq (.region [opD 17 (.iaddr 15 (tD 13) (tD 15)),opD 18 (.load true 15 (tD 17)),opD 6 (.alloc 44 15 [vU,vI,vI,vI,vU,vU,vU,vS,vU,vB,vU,vS,vS,vS,vB]),onD (.store 15 (tD 6) (tD 18))] [[],[0],[],[2,1,0,1,2]] false) (.seq (.region [opD 19 (.faddr 1 (tD 6)),opD 20 (.load true 14 (tD 19)),opD 7 (.alloc 42 14 [vI,vI,vI,vU,vU,vU,vS,vU,vB,vU,vS,vS,vS,vB]),onD (.store 14 (tD 7) (tD 20))] [[],[0],[],[2,1,0,1,2]] false) (.seq (.region [opD 21 (.faddr 1 (tD 7)),opD 22 (.load false 1 (tD 21)),mvD 23 0,opD 24 (.bin .neq (tD 22) (tD 23)),mvD 25 24,ogD 26 25 false (.faddr 2 (tD 7)),ogD 27 25 false (.load false 1 (tD 26)),(⟨(some 28),(some (25,false)),(.call 15 [(tD 27)])⟩,(.ent (e15 fu))),ogD 29 25 false (.not (tD 28)),opD 30 (.pick (tD 25) (.const (.bool true)) (tD 29)),mvD 31 30,ogD 32 31 false (.faddr 2 (tD 7)),ogD 33 31 false (.load false 1 (tD 32)),ogD 34 31 false (.mov (tD 0)),ogD 35 31 false (.bin .eql (tD 33) (tD 34)),opD 36 (.pick (tD 31) (.const (.bool true)) (tD 35)),mvD 37 36,ogD 38 37 false (.faddr 0 (tD 7)),ogD 39 37 false (.load false 1 (tD 38)),(⟨(some 40),(some (37,false)),(.call 43 [(tD 39)])⟩,(.ent (e43 fu))),ogD 41 37 false (.not (tD 40)),opD 42 (.pick (tD 37) (.const (.bool true)) (tD 41))] [[],[0],[],[1,2],[3],[4],[5,4],[6,4,4],[7,4],[4,8],[9,7],[10],[11,10],[10],[12,13,10],[10,14],[15,10],[16],[17,16],[18,16,16],[19,16],[16,20]] false) (.cond (.tmp 42) (.seq (.region [opD 4 (.mov (cD 1))] [[]] false) .ret) .skip))))) (.region [opD 43 (.bin .add (tD 15) (cD 1)),mvD 15 43] [[],[0]] false))))))) (.seq (.seq (.region [mvD 44 1,opD 45 (.len false (tD 44)),opD 46 (.bin .gtr (tD 45) (cD 4096))] [[],[0],[1]] false) (.cond (.tmp 46) (.seq (.region [opD 4 (.mov (cD 2))] [[]] false) .ret) .skip)) (.seq (.seq (.region [mvD 47 1,opD 48 (.len false (tD 47)),opD 49 (.mov (cD 0))] [[],[0],[]] false) (.block 2 (.loop ⟨[49],(.cons (.hole (.int .i64)) .nil),[],.nil,[47,48],[]⟩
 (.seq (.region [opD 50 (.bin .lss (tD 49) (tD 48))] [[]] false) (.seq (.cond (.tmp 50) .skip (.exit 2)) (.seq (.block 3 (.seq (.region [opD 51 (.iaddr 15 (tD 47) (tD 49)),opD 52 (.load true 15 (tD 51)),opD 9 (.alloc 44 15 [vU,vI,vI,vI,vU,vU,vU,vS,vU,vB,vU,vS,vS,vS,vB]),onD (.store 15 (tD 9) (tD 52))] [[],[0],[],[2,1,0,1,2]] false) (.seq (.region [opD 53 (.faddr 1 (tD 9)),opD 54 (.load true 14 (tD 53)),oqD 55 (.call 54 [(tD 54)]) (.ent (e54 fu))] [[],[0],[1]] false) (.cond (.tmp 55) (.seq (.region [opD 4 (.mov (cD 2))] [[]] false) .ret) .skip)))) (.region [opD 56 (.bin .add (tD 49) (cD 1)),mvD 49 56] [[],[0]] false))))))) (.seq (.region [opD 4 (.mov (cD 0))] [[]] false) .ret))))))
theorem g31 (fu:Nat):(e31 fu).Good Tryd.prog := good_fn orders Tryd.func31 fu (d31 fu) rs31 57 (l := [e15 fu,e15 fu,e43 fu,e54 fu]) ⟨g15 fu,g15 fu,g43 fu,g54 fu,trivial⟩
def rs55:List RVx := []
def p55 (fu:Nat):((Unit)×(Unit))×((Int)×(Unit))→Option ((((List (Int))×(Unit))×(Unit))×(Unit)) := fun ⟨⟨_,_⟩,a,_⟩ =>
loopO (S := ((Int)×(Unit))×(((List (Int))×(Unit))×(Unit))) fu (fun ⟨⟨c,_⟩,⟨⟨f,_⟩,_⟩⟩ =>
 bif decide (c≥(128:Int)) then
 bif decide (List.length f=List.length f) then
 bif decide (List.length f+List.length ([IntKind.wrap .u8 ((BitVec.ofInt (IntKind.bits .u8) (IntKind.wrap .u8 c) ||| BitVec.ofInt (IntKind.bits .u8) (128:Int)).toNat:Int)])≤maxLen∧(List.length f+List.length ([IntKind.wrap .u8 ((BitVec.ofInt (IntKind.bits .u8) (IntKind.wrap .u8 c) ||| BitVec.ofInt (IntKind.bits .u8) (128:Int)).toNat:Int)])) * 1≤140737488355328) then
 bif decide (List.length (f ++ [IntKind.wrap .u8 ((BitVec.ofInt (IntKind.bits .u8) (IntKind.wrap .u8 c) ||| BitVec.ofInt (IntKind.bits .u8) (128:Int)).toNat:Int)])=List.length (f ++ [IntKind.wrap .u8 ((BitVec.ofInt (IntKind.bits .u8) (IntKind.wrap .u8 c) ||| BitVec.ofInt (IntKind.bits .u8) (128:Int)).toNat:Int)])) then
 some (.inl ((Int.fdiv c (2 ^ (min (Int.toNat (7:Int)) (IntKind.bits .u64))),()),(((f ++ [IntKind.wrap .u8 ((BitVec.ofInt (IntKind.bits .u8) (IntKind.wrap .u8 c) ||| BitVec.ofInt (IntKind.bits .u8) (128:Int)).toNat:Int)]),()),())))
 else none
 else none
 else none
 else
 inrO (bif decide (List.length f=List.length f) then
 bif decide (List.length f+List.length ([IntKind.wrap .u8 c])≤maxLen∧(List.length f+List.length ([IntKind.wrap .u8 c])) * 1≤140737488355328) then
 bif decide (List.length (f ++ [IntKind.wrap .u8 c])=List.length (f ++ [IntKind.wrap .u8 c])) then
 some ((((f ++ [IntKind.wrap .u8 c]),()),()),())
 else none
 else none
 else none))
 ((a,()),(([],()),()))
def e55 (fu:Nat):Ent := ⟨55,(.cons (.box 102 1 (.cons .nils .nil)) (.cons (.hole (.int .u64)) .nil)),(.cons (.agg 1 (.cons (.own .own 5 (.int .u8)) .nil)) .nil),(.tup 0 .nil),p55 fu⟩
def d55 (_:Nat):DC := (.seq (.block 0 (.loop ⟨[1],(.cons (.hole (.int .u64)) .nil),[(0,102,1)],(.cons (.agg 1 (.cons (.own .own 5 (.int .u8)) .nil)) .nil),[0],[]⟩
 (.seq (.seq (.region [mvD 4 1,opD 5 (.bin .geq (tD 4) (.const (.int .u64 128)))] [[],[0]] false) (.cond (.tmp 5) .skip (.exit 0))) (.block 1 (.seq (.region [mvD 6 0,mvD 7 0,opD 8 (.pure .nilc [(tD 7)]),opD 9 (.faddr 0 (tD 8)),opD 10 (.load false 1 (tD 9)),mvD 11 1,opD 12 (.conv .u8 (tD 11)),opD 13 (.bin .or (tD 12) (.const (.int .u8 128))),oqD 14 (.bslice 5 1 1 [(.int .u8 0)] [(0,(tD 13))]) (.ty (.int .u8)),oqD 15 (.app 5 1 [(.int .u8 0)] 1 (tD 10) (tD 14)) (.ty (.int .u8)),opD 16 (.pure .nilc [(tD 6)]),opD 17 (.faddr 0 (tD 16)),onD (.store 1 (tD 17) (tD 15))] [[],[],[1],[2],[3],[],[5],[6],[7],[4,8],[0,0,1,2,3,4,5,6,7,8,9],[10,0,1,2,3,4,5,6,7,8,9],[11,9,9,0,1,2,3,4,5,6,7,8,9]] false) (.region [mvD 18 1,opD 19 (.bin .shr (tD 18) (.const (.int .u64 7))),mvD 1 19] [[],[0],[1,0,1]] false)))))) (.region [mvD 20 0,mvD 21 0,opD 22 (.pure .nilc [(tD 21)]),opD 23 (.faddr 0 (tD 22)),opD 24 (.load false 1 (tD 23)),mvD 25 1,opD 26 (.conv .u8 (tD 25)),oqD 27 (.bslice 5 1 1 [(.int .u8 0)] [(0,(tD 26))]) (.ty (.int .u8)),oqD 28 (.app 5 1 [(.int .u8 0)] 1 (tD 24) (tD 27)) (.ty (.int .u8)),opD 29 (.pure .nilc [(tD 20)]),opD 30 (.faddr 0 (tD 29)),onD (.store 1 (tD 30) (tD 28))] [[],[],[1],[2],[3],[],[5],[6],[4,7],[0,0,1,2,3,4,5,6,7,8],[9,0,1,2,3,4,5,6,7,8],[10,8,8,0,1,2,3,4,5,6,7,8]] false))
theorem g55 (fu:Nat):(e55 fu).Good Tryd.prog := good_fn orders Tryd.func55 fu (d55 fu) rs55 31 (l := []) trivial
def p55_1 (fu:Nat):((List (Int))×(Unit))×((Int)×(Unit))→Option ((((List (Int))×(Unit))×((Unit)×(Unit)))×(Unit)) := fun ⟨⟨a,_⟩,c,_⟩ =>
bif decide (List.length a=List.length a) then
 loopO (S := ((Int)×(Unit))×(((List (Int))×(Unit))×(Unit))) fu (fun ⟨⟨f,_⟩,⟨⟨h,_⟩,_⟩⟩ =>
 bif decide (f≥(128:Int)) then
 bif decide (List.length h=List.length h) then
 bif decide (List.length h+List.length ([IntKind.wrap .u8 ((BitVec.ofInt (IntKind.bits .u8) (IntKind.wrap .u8 f) ||| BitVec.ofInt (IntKind.bits .u8) (128:Int)).toNat:Int)])≤maxLen∧(List.length h+List.length ([IntKind.wrap .u8 ((BitVec.ofInt (IntKind.bits .u8) (IntKind.wrap .u8 f) ||| BitVec.ofInt (IntKind.bits .u8) (128:Int)).toNat:Int)])) * 1≤140737488355328) then
 bif decide (List.length (h ++ [IntKind.wrap .u8 ((BitVec.ofInt (IntKind.bits .u8) (IntKind.wrap .u8 f) ||| BitVec.ofInt (IntKind.bits .u8) (128:Int)).toNat:Int)])=List.length (h ++ [IntKind.wrap .u8 ((BitVec.ofInt (IntKind.bits .u8) (IntKind.wrap .u8 f) ||| BitVec.ofInt (IntKind.bits .u8) (128:Int)).toNat:Int)])) then
 some (.inl ((Int.fdiv f (2 ^ (min (Int.toNat (7:Int)) (IntKind.bits .u64))),()),(((h ++ [IntKind.wrap .u8 ((BitVec.ofInt (IntKind.bits .u8) (IntKind.wrap .u8 f) ||| BitVec.ofInt (IntKind.bits .u8) (128:Int)).toNat:Int)]),()),())))
 else none
 else none
 else none
 else
 inrO (bif decide (List.length h=List.length h) then
 bif decide (List.length h+List.length ([IntKind.wrap .u8 f])≤maxLen∧(List.length h+List.length ([IntKind.wrap .u8 f])) * 1≤140737488355328) then
 bif decide (List.length (h ++ [IntKind.wrap .u8 f])=List.length (h ++ [IntKind.wrap .u8 f])) then
 some ((((h ++ [IntKind.wrap .u8 f]),()),(),()),())
 else none
 else none
 else none))
 ((c,()),((a,()),()))
else none
def e55_1 (fu:Nat):Ent := ⟨55,(.cons (.box 102 1 (.cons (.own .own 5 (.int .u8)) .nil)) (.cons (.hole (.int .u64)) .nil)),(.cons (.agg 1 (.cons (.own .own 5 (.int .u8)) .nil)) (.cons .dead .nil)),(.tup 0 .nil),p55_1 fu⟩
def d55_1 (_:Nat):DC := (.seq (.block 0 (.loop ⟨[1],(.cons (.hole (.int .u64)) .nil),[(0,102,1)],(.cons (.agg 1 (.cons (.own .own 5 (.int .u8)) .nil)) .nil),[0],[1]⟩
 (.seq (.seq (.region [mvD 4 1,opD 5 (.bin .geq (tD 4) (.const (.int .u64 128)))] [[],[0]] false) (.cond (.tmp 5) .skip (.exit 0))) (.block 1 (.seq (.region [mvD 6 0,mvD 7 0,opD 8 (.pure .nilc [(tD 7)]),opD 9 (.faddr 0 (tD 8)),opD 10 (.load false 1 (tD 9)),mvD 11 1,opD 12 (.conv .u8 (tD 11)),opD 13 (.bin .or (tD 12) (.const (.int .u8 128))),oqD 14 (.bslice 5 1 1 [(.int .u8 0)] [(0,(tD 13))]) (.ty (.int .u8)),oqD 15 (.app 5 1 [(.int .u8 0)] 1 (tD 10) (tD 14)) (.ty (.int .u8)),opD 16 (.pure .nilc [(tD 6)]),opD 17 (.faddr 0 (tD 16)),onD (.store 1 (tD 17) (tD 15))] [[],[],[1],[2],[3],[],[5],[6],[7],[4,8],[0,0,1,2,3,4,5,6,7,8,9],[10,0,1,2,3,4,5,6,7,8,9],[11,9,9,0,1,2,3,4,5,6,7,8,9]] false) (.region [mvD 18 1,opD 19 (.bin .shr (tD 18) (.const (.int .u64 7))),mvD 1 19] [[],[0],[1,0,1]] false)))))) (.region [mvD 20 0,mvD 21 0,opD 22 (.pure .nilc [(tD 21)]),opD 23 (.faddr 0 (tD 22)),opD 24 (.load false 1 (tD 23)),mvD 25 1,opD 26 (.conv .u8 (tD 25)),oqD 27 (.bslice 5 1 1 [(.int .u8 0)] [(0,(tD 26))]) (.ty (.int .u8)),oqD 28 (.app 5 1 [(.int .u8 0)] 1 (tD 24) (tD 27)) (.ty (.int .u8)),opD 29 (.pure .nilc [(tD 20)]),opD 30 (.faddr 0 (tD 29)),onD (.store 1 (tD 30) (tD 28))] [[],[],[1],[2],[3],[],[5],[6],[4,7],[0,0,1,2,3,4,5,6,7,8],[9,0,1,2,3,4,5,6,7,8],[10,8,8,0,1,2,3,4,5,6,7,8]] false))
theorem g55_1 (fu:Nat):(e55_1 fu).Good Tryd.prog := good_fn orders Tryd.func55 fu (d55_1 fu) rs55 31 (l := []) trivial
def rs71:List RVx := []
def p71 (_:Nat):((List (Int))×(Unit))×((Bool)×(Unit))→Option ((((List (Int))×(Unit))×((Unit)×(Unit)))×(Unit)) := fun ⟨⟨a,_⟩,c,_⟩ =>
bif c then
 bif decide (List.length a=List.length a) then
 bif decide (List.length a+List.length ([(1:Int)])≤maxLen∧(List.length a+List.length ([(1:Int)])) * 1≤140737488355328) then
 bif decide (List.length (a ++ [(1:Int)])=List.length (a ++ [(1:Int)])) then
 some ((((a ++ [(1:Int)]),()),(),()),())
 else none
 else none
 else none
else
 bif decide (List.length a=List.length a) then
 bif decide (List.length a+List.length ([(0:Int)])≤maxLen∧(List.length a+List.length ([(0:Int)])) * 1≤140737488355328) then
 bif decide (List.length (a ++ [(0:Int)])=List.length (a ++ [(0:Int)])) then
 some ((((a ++ [(0:Int)]),()),(),()),())
 else none
 else none
 else none
def e71 (fu:Nat):Ent := ⟨71,(.cons (.box 102 1 (.cons (.own .own 5 (.int .u8)) .nil)) (.cons (.hole .bool) .nil)),(.cons (.agg 1 (.cons (.own .own 5 (.int .u8)) .nil)) (.cons .dead .nil)),(.tup 0 .nil),p71 fu⟩
def d71 (_:Nat):DC := (.seq (.region [mvD 4 1] [[]] false) (.cond (.tmp 4) (.region [mvD 5 0,mvD 6 0,opD 7 (.pure .nilc [(tD 6)]),opD 8 (.faddr 0 (tD 7)),opD 9 (.load false 1 (tD 8)),oqD 10 (.bslice 5 1 1 [(.int .u8 0)] [(0,(.const (.int .u8 1)))]) (.ty (.int .u8)),oqD 11 (.app 5 1 [(.int .u8 0)] 1 (tD 9) (tD 10)) (.ty (.int .u8)),opD 12 (.pure .nilc [(tD 5)]),opD 13 (.faddr 0 (tD 12)),onD (.store 1 (tD 13) (tD 11))] [[],[],[1],[2],[3],[],[4,5],[0,0,1,2,3,4,5,6],[7,0,1,2,3,4,5,6],[8,6,6,0,1,2,3,4,5,6]] false) (.region [mvD 14 0,mvD 15 0,opD 16 (.pure .nilc [(tD 15)]),opD 17 (.faddr 0 (tD 16)),opD 18 (.load false 1 (tD 17)),oqD 19 (.bslice 5 1 1 [(.int .u8 0)] [(0,(.const (.int .u8 0)))]) (.ty (.int .u8)),oqD 20 (.app 5 1 [(.int .u8 0)] 1 (tD 18) (tD 19)) (.ty (.int .u8)),opD 21 (.pure .nilc [(tD 14)]),opD 22 (.faddr 0 (tD 21)),onD (.store 1 (tD 22) (tD 20))] [[],[],[1],[2],[3],[],[4,5],[0,0,1,2,3,4,5,6],[7,0,1,2,3,4,5,6],[8,6,6,0,1,2,3,4,5,6]] false)))
theorem g71 (fu:Nat):(e71 fu).Good Tryd.prog := good_fn orders Tryd.func71 fu (d71 fu) rs71 23 (l := []) trivial
def rs56:List RVx := []
def p56 (fu:Nat):((List (Int))×(Unit))×((Z0)×(Unit))→Option ((((List (Int))×(Unit))×((Unit)×(Unit)))×(Unit)) := fun ⟨⟨a,_⟩,⟨c,_,_,f,h,i,_,j,_,_,_,_,_,_,_⟩,_⟩ =>
bif decide (List.length a=List.length a) then
 Option.bind (p71 fu ((a,()),(c==(6:Int)),())) fun ⟨⟨⟨k,_⟩,_,_⟩,_⟩ =>
 bif decide (List.length k=List.length k) then
 Option.bind (p55_1 fu ((k,()),f,())) fun ⟨⟨⟨l,_⟩,_,_⟩,_⟩ =>
 bif decide (List.length l=List.length l) then
 Option.bind (p55_1 fu ((l,()),h,())) fun ⟨⟨⟨m,_⟩,_,_⟩,_⟩ =>
 bif !(c==(6:Int)) then
 bif decide (List.length m=List.length m) then
 Option.bind (p55_1 fu ((m,()),i,())) fun ⟨⟨⟨n,_⟩,_,_⟩,_⟩ =>
 bif decide (List.length n=List.length n) then
 Option.bind (p55_1 fu ((n,()),j,())) fun ⟨⟨⟨o,_⟩,_,_⟩,_⟩ =>
 bif decide (List.length o=List.length o) then
 some (((o,()),(),()),())
 else none
 else none
 else none
 else
 bif decide (List.length m=List.length m) then
 some (((m,()),(),()),())
 else none
 else none
 else none
else none
def e56 (fu:Nat):Ent := ⟨56,(.cons (.box 102 1 (.cons (.own .own 5 (.int .u8)) .nil)) (.cons Y1 .nil)),(.cons (.agg 1 (.cons (.own .own 5 (.int .u8)) .nil)) (.cons .dead .nil)),(.tup 0 .nil),p56 fu⟩
def d56 (fu:Nat):DC := (.seq (.region [opD 3 (.box 42 14 (tD 1))] [[]] false) (.seq (.region [opD 5 (.faddr 0 (tD 3)),opD 6 (.load false 1 (tD 5)),opD 7 (.bin .eql (tD 6) (cD 6)),mvD 4 7] [[],[0],[1],[2,0,1,2]] false) (.seq (.region [mvD 8 0,mvD 9 4,oqD 10 (.call 71 [(tD 8),(tD 9)]) (.ent (e71 fu))] [[],[],[0,1]] false) (.seq (.region [mvD 11 0,opD 12 (.faddr 3 (tD 3)),opD 13 (.load false 1 (tD 12)),oqD 14 (.call 55 [(tD 11),(tD 13)]) (.ent (e55_1 fu))] [[],[],[1],[0,2]] false) (.seq (.region [mvD 15 0,opD 16 (.faddr 4 (tD 3)),opD 17 (.load false 1 (tD 16)),oqD 18 (.call 55 [(tD 15),(tD 17)]) (.ent (e55_1 fu))] [[],[],[1],[0,2]] false) (.seq (.region [mvD 19 4,opD 20 (.not (tD 19))] [[],[0]] false) (.cond (.tmp 20) (.seq (.region [mvD 21 0,opD 22 (.faddr 5 (tD 3)),opD 23 (.load false 1 (tD 22)),oqD 24 (.call 55 [(tD 21),(tD 23)]) (.ent (e55_1 fu))] [[],[],[1],[0,2]] false) (.region [mvD 25 0,opD 26 (.faddr 7 (tD 3)),opD 27 (.load false 1 (tD 26)),oqD 28 (.call 55 [(tD 25),(tD 27)]) (.ent (e55_1 fu))] [[],[],[1],[0,2]] false)) .skip)))))))
theorem g56 (fu:Nat):(e56 fu).Good Tryd.prog := good_fn orders Tryd.func56 fu (d56 fu) rs56 29 (l := [e71 fu,e55_1 fu,e55_1 fu,e55_1 fu,e55_1 fu]) ⟨g71 fu,g55_1 fu,g55_1 fu,g55_1 fu,g55_1 fu,trivial⟩
def rs72:List RVx := []
def p72 (fu:Nat):((List (Int))×(Unit))×((Int)×(Unit))→Option ((((List (Int))×(Unit))×((Unit)×(Unit)))×(Unit)) := fun ⟨⟨a,_⟩,c,_⟩ =>
bif decide (List.length a=List.length a) then
 Option.bind (p55_1 fu ((a,()),IntKind.wrap .u64 ((BitVec.ofInt (IntKind.bits .u64) (IntKind.wrap .u64 ((IntKind.wrap .u64 c) * 2 ^ (min (Int.toNat (1:Int)) (IntKind.bits .u64)))) ^^^ BitVec.ofInt (IntKind.bits .u64) (IntKind.wrap .u64 (Int.fdiv c (2 ^ (min (Int.toNat (63:Int)) (IntKind.bits .i64)))))).toNat:Int),())) fun ⟨⟨⟨f,_⟩,_,_⟩,_⟩ =>
 bif decide (List.length f=List.length f) then
 some (((f,()),(),()),())
 else none
else none
def e72 (fu:Nat):Ent := ⟨72,(.cons (.box 102 1 (.cons (.own .own 5 (.int .u8)) .nil)) (.cons (.hole (.int .i64)) .nil)),(.cons (.agg 1 (.cons (.own .own 5 (.int .u8)) .nil)) (.cons .dead .nil)),(.tup 0 .nil),p72 fu⟩
def d72 (fu:Nat):DC := (.region [mvD 4 0,mvD 5 1,opD 6 (.conv .u64 (tD 5)),opD 7 (.bin .shl (tD 6) (.const (.int .u64 1))),mvD 8 1,opD 9 (.bin .shr (tD 8) (.const (.int .u64 63))),opD 10 (.conv .u64 (tD 9)),opD 11 (.bin .xor (tD 7) (tD 10)),oqD 12 (.call 55 [(tD 4),(tD 11)]) (.ent (e55_1 fu))] [[],[],[1],[2],[],[4],[5],[3,6],[0,7]] false)
theorem g72 (fu:Nat):(e72 fu).Good Tryd.prog := good_fn orders Tryd.func72 fu (d72 fu) rs72 13 (l := [e55_1 fu]) ⟨g55_1 fu,trivial⟩
def rs75:List RVx := []
def p75 (fu:Nat):((List (Int))×(Unit))×((List (Int))×(Unit))→Option ((((List (Int))×(Unit))×((Unit)×(Unit)))×(Unit)) := fun ⟨⟨a,_⟩,c,_⟩ =>
bif decide (List.length a=List.length a) then
 Option.bind (p55_1 fu ((a,()),IntKind.wrap .u64 (List.length c:Int),())) fun ⟨⟨⟨f,_⟩,_,_⟩,_⟩ =>
 bif decide (List.length f=List.length f) then
 bif decide (List.length f+List.length c≤maxLen∧(List.length f+List.length c) * 1≤140737488355328) then
 bif decide (List.length (f ++ c)=List.length (f ++ c)) then
 some ((((f ++ c),()),(),()),())
 else none
 else none
 else none
else none
def e75 (fu:Nat):Ent := ⟨75,(.cons (.box 102 1 (.cons (.own .own 5 (.int .u8)) .nil)) (.cons (.hole (.sl (.int .u8))) .nil)),(.cons (.agg 1 (.cons (.own .own 5 (.int .u8)) .nil)) (.cons .dead .nil)),(.tup 0 .nil),p75 fu⟩
def d75 (fu:Nat):DC := (.seq (.region [mvD 4 0,mvD 5 1,opD 6 (.len false (tD 5)),opD 7 (.conv .u64 (tD 6)),oqD 8 (.call 55 [(tD 4),(tD 7)]) (.ent (e55_1 fu))] [[],[],[1],[2],[0,3]] false) (.region [mvD 9 0,mvD 10 0,opD 11 (.pure .nilc [(tD 10)]),opD 12 (.faddr 0 (tD 11)),opD 13 (.load false 1 (tD 12)),mvD 14 1,oqD 15 (.app 5 1 [(.int .u8 0)] 1 (tD 13) (tD 14)) (.ty (.int .u8)),opD 16 (.pure .nilc [(tD 9)]),opD 17 (.faddr 0 (tD 16)),onD (.store 1 (tD 17) (tD 15))] [[],[],[1],[2],[3],[],[4,5],[0,0,1,2,3,4,5,6],[7,0,1,2,3,4,5,6],[8,6,6,0,1,2,3,4,5,6]] false))
theorem g75 (fu:Nat):(e75 fu).Good Tryd.prog := good_fn orders Tryd.func75 fu (d75 fu) rs75 18 (l := [e55_1 fu]) ⟨g55_1 fu,trivial⟩
def rs81:List RVx := []
def p81 (fu:Nat):((List (Int))×(Unit))×((List (Int))×(Unit))→Option ((((List (Int))×(Unit))×((Unit)×(Unit)))×(Unit)) := fun ⟨⟨a,_⟩,c,_⟩ =>
bif decide (List.length a=List.length a) then
 Option.bind (p55_1 fu ((a,()),IntKind.wrap .u64 (List.length c:Int),())) fun ⟨⟨⟨f,_⟩,_,_⟩,_⟩ =>
 bif decide (List.length f=List.length f) then
 loopO (S := ((Int)×(Unit))×(((List (Int))×(Unit))×(Unit))) fu (fun ⟨⟨h,_⟩,⟨⟨i,_⟩,_⟩⟩ =>
 bif decide (h<(List.length c:Int)) then
 bif decide ((0:Int)≤h∧h<(List.length c:Int)) then
 bif decide (Int.toNat h<List.length c) then
 bif decide (List.length i=List.length i) then
 Option.bind (p72 fu ((i,()),(List.getD c (Int.toNat h) (dflt (.int .i64))),())) fun ⟨⟨⟨j,_⟩,_,_⟩,_⟩ =>
 bif decide (List.length j=List.length j) then
 some (.inl ((IntKind.wrap .i64 (h+(1:Int)),()),((j,()),())))
 else none
 else none
 else none
 else none
 else
 inrO (bif decide (List.length i=List.length i) then
 some (((i,()),(),()),())
 else none))
 (((0:Int),()),((f,()),()))
 else none
else none
def e81 (fu:Nat):Ent := ⟨81,(.cons (.box 102 1 (.cons (.own .own 5 (.int .u8)) .nil)) (.cons (.hole (.sl (.int .i64))) .nil)),(.cons (.agg 1 (.cons (.own .own 5 (.int .u8)) .nil)) (.cons .dead .nil)),(.tup 0 .nil),p81 fu⟩
def d81 (fu:Nat):DC := (.seq (.region [mvD 6 0,mvD 7 1,opD 8 (.len false (tD 7)),opD 9 (.conv .u64 (tD 8)),oqD 10 (.call 55 [(tD 6),(tD 9)]) (.ent (e55_1 fu))] [[],[],[1],[2],[0,3]] false) (.seq (.region [mvD 11 1,opD 12 (.len false (tD 11)),opD 13 (.mov (cD 0))] [[],[0],[]] false) (.block 0 (.loop ⟨[13],(.cons (.hole (.int .i64)) .nil),[(0,102,1)],(.cons (.agg 1 (.cons (.own .own 5 (.int .u8)) .nil)) .nil),[0,11,12],[1]⟩
 (.seq (.region [opD 14 (.bin .lss (tD 13) (tD 12))] [[]] false) (.seq (.cond (.tmp 14) .skip (.exit 0)) (.seq (.block 1 (.seq (.region [opD 15 (.iaddr 1 (tD 11) (tD 13)),opD 16 (.load false 1 (tD 15)),mvD 5 16] [[],[0],[1,0,1]] false) (.region [mvD 17 0,mvD 18 5,oqD 19 (.call 72 [(tD 17),(tD 18)]) (.ent (e72 fu))] [[],[],[0,1]] false))) (.region [opD 20 (.bin .add (tD 13) (cD 1)),mvD 13 20] [[],[0]] false))))))))
theorem g81 (fu:Nat):(e81 fu).Good Tryd.prog := good_fn orders Tryd.func81 fu (d81 fu) rs81 21 (l := [e55_1 fu,e72 fu]) ⟨g55_1 fu,g72 fu,trivial⟩
def rs74:List RVx := []
def p74 (fu:Nat):((List (Int))×(Unit))×(((List (Int))×((List (Int))×(Unit)))×(Unit))→Option ((((List (Int))×(Unit))×((Unit)×(Unit)))×(Unit)) := fun ⟨⟨a,_⟩,⟨c,f,_⟩,_⟩ =>
bif decide (List.length a=List.length a) then
 Option.bind (p81 fu ((a,()),c,())) fun ⟨⟨⟨h,_⟩,_,_⟩,_⟩ =>
 bif decide (List.length h=List.length h) then
 Option.bind (p81 fu ((h,()),f,())) fun ⟨⟨⟨i,_⟩,_,_⟩,_⟩ =>
 bif decide (List.length i=List.length i) then
 some (((i,()),(),()),())
 else none
 else none
else none
def e74 (fu:Nat):Ent := ⟨74,(.cons (.box 102 1 (.cons (.own .own 5 (.int .u8)) .nil)) (.cons (.agg 2 (.cons (.hole (.sl (.int .i64))) (.cons (.hole (.sl (.int .i64))) .nil))) .nil)),(.cons (.agg 1 (.cons (.own .own 5 (.int .u8)) .nil)) (.cons .dead .nil)),(.tup 0 .nil),p74 fu⟩
def d74 (fu:Nat):DC := (.seq (.region [opD 3 (.box 40 2 (tD 1))] [[]] false) (.seq (.region [mvD 4 0,opD 5 (.faddr 0 (tD 3)),opD 6 (.load false 1 (tD 5)),oqD 7 (.call 81 [(tD 4),(tD 6)]) (.ent (e81 fu))] [[],[],[1],[0,2]] false) (.region [mvD 8 0,opD 9 (.faddr 1 (tD 3)),opD 10 (.load false 1 (tD 9)),oqD 11 (.call 81 [(tD 8),(tD 10)]) (.ent (e81 fu))] [[],[],[1],[0,2]] false)))
theorem g74 (fu:Nat):(e74 fu).Good Tryd.prog := good_fn orders Tryd.func74 fu (d74 fu) rs74 12 (l := [e81 fu,e81 fu]) ⟨g81 fu,g81 fu,trivial⟩
def rs73:List RVx := []
def p73 (fu:Nat):((List (Int))×(Unit))×((Z2)×(Unit))→Option ((((List (Int))×(Unit))×((Unit)×(Unit)))×(Unit)) := fun ⟨⟨a,_⟩,⟨c,f,h,i,j,k,_⟩,_⟩ =>
bif decide (List.length a=List.length a) then
 Option.bind (p55_1 fu ((a,()),c,())) fun ⟨⟨⟨l,_⟩,_,_⟩,_⟩ =>
 bif decide (List.length l=List.length l) then
 Option.bind (p55_1 fu ((l,()),f,())) fun ⟨⟨⟨m,_⟩,_,_⟩,_⟩ =>
 bif decide (List.length m=List.length m) then
 Option.bind (p72 fu ((m,()),h,())) fun ⟨⟨⟨n,_⟩,_,_⟩,_⟩ =>
 bif decide (List.length n=List.length n) then
 Option.bind (p75 fu ((n,()),i,())) fun ⟨⟨⟨o,_⟩,_,_⟩,_⟩ =>
 bif decide (List.length o=List.length o) then
 Option.bind (p74 fu ((o,()),(j,k,()),())) fun ⟨⟨⟨q,_⟩,_,_⟩,_⟩ =>
 bif decide (List.length q=List.length q) then
 some (((q,()),(),()),())
 else none
 else none
 else none
 else none
 else none
else none
def e73 (fu:Nat):Ent := ⟨73,(.cons (.box 102 1 (.cons (.own .own 5 (.int .u8)) .nil)) (.cons Y3 .nil)),(.cons (.agg 1 (.cons (.own .own 5 (.int .u8)) .nil)) (.cons .dead .nil)),(.tup 0 .nil),p73 fu⟩
def d73 (fu:Nat):DC := (.seq (.region [opD 3 (.box 96 6 (tD 1))] [[]] false) (.seq (.region [mvD 4 0,opD 5 (.faddr 0 (tD 3)),opD 6 (.load false 1 (tD 5)),oqD 7 (.call 55 [(tD 4),(tD 6)]) (.ent (e55_1 fu))] [[],[],[1],[0,2]] false) (.seq (.region [mvD 8 0,opD 9 (.faddr 1 (tD 3)),opD 10 (.load false 1 (tD 9)),oqD 11 (.call 55 [(tD 8),(tD 10)]) (.ent (e55_1 fu))] [[],[],[1],[0,2]] false) (.seq (.region [mvD 12 0,opD 13 (.faddr 2 (tD 3)),opD 14 (.load false 1 (tD 13)),oqD 15 (.call 72 [(tD 12),(tD 14)]) (.ent (e72 fu))] [[],[],[1],[0,2]] false) (.seq (.region [mvD 16 0,opD 17 (.faddr 3 (tD 3)),opD 18 (.load false 1 (tD 17)),oqD 19 (.call 75 [(tD 16),(tD 18)]) (.ent (e75 fu))] [[],[],[1],[0,2]] false) (.region [mvD 20 0,opD 21 (.faddr 4 (tD 3)),opD 22 (.load true 2 (tD 21)),oqD 23 (.call 74 [(tD 20),(tD 22)]) (.ent (e74 fu))] [[],[],[1],[0,2]] false))))))
theorem g73 (fu:Nat):(e73 fu).Good Tryd.prog := good_fn orders Tryd.func73 fu (d73 fu) rs73 24 (l := [e55_1 fu,e55_1 fu,e72 fu,e75 fu,e74 fu]) ⟨g55_1 fu,g55_1 fu,g72 fu,g75 fu,g74 fu,trivial⟩
def rs57:List RVx := []
def p57 (fu:Nat):((List (Int))×(Unit))×((Z0)×(Unit))→Option ((((List (Int))×(Unit))×((Unit)×(Unit)))×(Unit)) := fun ⟨⟨a,_⟩,⟨c,_,_,f,h,i,j,k,l,m,n,o,q,s,_⟩,_⟩ =>
bif decide (List.length a=List.length a) then
 Option.bind (p72 fu ((a,()),c,())) fun ⟨⟨⟨t,_⟩,_,_⟩,_⟩ =>
 bif decide (List.length t=List.length t) then
 Option.bind (p55_1 fu ((t,()),f,())) fun ⟨⟨⟨u,_⟩,_,_⟩,_⟩ =>
 bif decide (List.length u=List.length u) then
 Option.bind (p55_1 fu ((u,()),h,())) fun ⟨⟨⟨w,_⟩,_,_⟩,_⟩ =>
 bif decide (List.length w=List.length w) then
 Option.bind (p55_1 fu ((w,()),i,())) fun ⟨⟨⟨x,_⟩,_,_⟩,_⟩ =>
 bif decide (List.length x=List.length x) then
 Option.bind (p55_1 fu ((x,()),IntKind.wrap .u64 (List.length j:Int),())) fun ⟨⟨⟨y,_⟩,_,_⟩,_⟩ =>
 bif decide (List.length y=List.length y) then
 loopO (S := ((Int)×(Unit))×(((List (Int))×(Unit))×(Unit))) fu (fun ⟨⟨z,_⟩,⟨⟨a0,_⟩,_⟩⟩ =>
 bif decide (z<(List.length j:Int)) then
 bif decide ((0:Int)≤z∧z<(List.length j:Int)) then
 bif decide (Int.toNat z<List.length j) then
 bif decide (List.length a0=List.length a0) then
 Option.bind (p73 fu ((a0,()),((List.getD j (Int.toNat z) (dflt T_api_Entry)).1,((List.getD j (Int.toNat z) (dflt T_api_Entry)).2).1,(((List.getD j (Int.toNat z) (dflt T_api_Entry)).2).2).1,((((List.getD j (Int.toNat z) (dflt T_api_Entry)).2).2).2).1,(((((List.getD j (Int.toNat z) (dflt T_api_Entry)).2).2).2).2).1,(((((List.getD j (Int.toNat z) (dflt T_api_Entry)).2).2).2).2).2,()),())) fun ⟨⟨⟨c0,_⟩,_,_⟩,_⟩ =>
 bif decide (List.length c0=List.length c0) then
 some (.inl ((IntKind.wrap .i64 (z+(1:Int)),()),((c0,()),())))
 else none
 else none
 else none
 else none
 else
 inrO (bif decide (List.length a0=List.length a0) then
 Option.bind (p55_1 fu ((a0,()),k,())) fun ⟨⟨⟨f0,_⟩,_,_⟩,_⟩ =>
 bif decide (List.length f0=List.length f0) then
 Option.bind (p71 fu ((f0,()),l,())) fun ⟨⟨⟨h0,_⟩,_,_⟩,_⟩ =>
 bif decide (List.length h0=List.length h0) then
 Option.bind (p55_1 fu ((h0,()),m,())) fun ⟨⟨⟨i0,_⟩,_,_⟩,_⟩ =>
 bif decide (List.length i0=List.length i0) then
 Option.bind (p74 fu ((i0,()),(n,o,()),())) fun ⟨⟨⟨j0,_⟩,_,_⟩,_⟩ =>
 bif decide (List.length j0=List.length j0) then
 Option.bind (p75 fu ((j0,()),q,())) fun ⟨⟨⟨k0,_⟩,_,_⟩,_⟩ =>
 bif decide (List.length k0=List.length k0) then
 Option.bind (p71 fu ((k0,()),s,())) fun ⟨⟨⟨l0,_⟩,_,_⟩,_⟩ =>
 bif decide (List.length l0=List.length l0) then
 some (((l0,()),(),()),())
 else none
 else none
 else none
 else none
 else none
 else none
 else none))
 (((0:Int),()),((y,()),()))
 else none
 else none
 else none
 else none
 else none
else none
def e57 (fu:Nat):Ent := ⟨57,(.cons (.box 102 1 (.cons (.own .own 5 (.int .u8)) .nil)) (.cons Y1 .nil)),(.cons (.agg 1 (.cons (.own .own 5 (.int .u8)) .nil)) (.cons .dead .nil)),(.tup 0 .nil),p57 fu⟩
def d57 (fu:Nat):DC := (.seq (.region [opD 3 (.box 42 14 (tD 1))] [[]] false) (.seq (.region [mvD 6 0,opD 7 (.faddr 0 (tD 3)),opD 8 (.load false 1 (tD 7)),oqD 9 (.call 72 [(tD 6),(tD 8)]) (.ent (e72 fu))] [[],[],[1],[0,2]] false) (.seq (.region [mvD 10 0,opD 11 (.faddr 3 (tD 3)),opD 12 (.load false 1 (tD 11)),oqD 13 (.call 55 [(tD 10),(tD 12)]) (.ent (e55_1 fu))] [[],[],[1],[0,2]] false) (.seq (.region [mvD 14 0,opD 15 (.faddr 4 (tD 3)),opD 16 (.load false 1 (tD 15)),oqD 17 (.call 55 [(tD 14),(tD 16)]) (.ent (e55_1 fu))] [[],[],[1],[0,2]] false) (.seq (.region [mvD 18 0,opD 19 (.faddr 5 (tD 3)),opD 20 (.load false 1 (tD 19)),oqD 21 (.call 55 [(tD 18),(tD 20)]) (.ent (e55_1 fu))] [[],[],[1],[0,2]] false) (.seq (.region [mvD 22 0,opD 23 (.faddr 6 (tD 3)),opD 24 (.load false 1 (tD 23)),opD 25 (.len false (tD 24)),opD 26 (.conv .u64 (tD 25)),oqD 27 (.call 55 [(tD 22),(tD 26)]) (.ent (e55_1 fu))] [[],[],[1],[2],[3],[0,4]] false) (.seq (.seq (.region [opD 28 (.faddr 6 (tD 3)),opD 29 (.load false 1 (tD 28)),opD 30 (.len false (tD 29)),opD 31 (.mov (cD 0))] [[],[0],[1],[]] false) (.block 0 (.loop ⟨[31],(.cons (.hole (.int .i64)) .nil),[(0,102,1)],(.cons (.agg 1 (.cons (.own .own 5 (.int .u8)) .nil)) .nil),[0,3,29,30],[1,4]⟩
 (.seq (.region [opD 32 (.bin .lss (tD 31) (tD 30))] [[]] false) (.seq (.cond (.tmp 32) .skip (.exit 0)) (.seq (.block 1 (.seq (.region [opD 33 (.iaddr 6 (tD 29) (tD 31)),opD 34 (.load true 6 (tD 33)),opD 5 (.alloc 96 6 [vU,vU,vI,vS,vS,vS]),onD (.store 6 (tD 5) (tD 34))] [[],[0],[],[2,1,0,1,2]] false) (.region [mvD 35 0,opD 36 (.load true 6 (tD 5)),oqD 37 (.call 73 [(tD 35),(tD 36)]) (.ent (e73 fu))] [[],[],[0,1]] false))) (.region [opD 38 (.bin .add (tD 31) (cD 1)),mvD 31 38] [[],[0]] false))))))) (.seq (.region [mvD 39 0,opD 40 (.faddr 7 (tD 3)),opD 41 (.load false 1 (tD 40)),oqD 42 (.call 55 [(tD 39),(tD 41)]) (.ent (e55_1 fu))] [[],[],[1],[0,2]] false) (.seq (.region [mvD 43 0,opD 44 (.faddr 8 (tD 3)),opD 45 (.load false 1 (tD 44)),oqD 46 (.call 71 [(tD 43),(tD 45)]) (.ent (e71 fu))] [[],[],[1],[0,2]] false) (.seq (.region [mvD 47 0,opD 48 (.faddr 9 (tD 3)),opD 49 (.load false 1 (tD 48)),oqD 50 (.call 55 [(tD 47),(tD 49)]) (.ent (e55_1 fu))] [[],[],[1],[0,2]] false) (.seq (.region [mvD 51 0,opD 52 (.faddr 10 (tD 3)),opD 53 (.load true 2 (tD 52)),oqD 54 (.call 74 [(tD 51),(tD 53)]) (.ent (e74 fu))] [[],[],[1],[0,2]] false) (.seq (.region [mvD 55 0,opD 56 (.faddr 12 (tD 3)),opD 57 (.load false 1 (tD 56)),oqD 58 (.call 75 [(tD 55),(tD 57)]) (.ent (e75 fu))] [[],[],[1],[0,2]] false) (.region [mvD 59 0,opD 60 (.faddr 13 (tD 3)),opD 61 (.load false 1 (tD 60)),oqD 62 (.call 71 [(tD 59),(tD 61)]) (.ent (e71 fu))] [[],[],[1],[0,2]] false)))))))))))))
theorem g57 (fu:Nat):(e57 fu).Good Tryd.prog := good_fn orders Tryd.func57 fu (d57 fu) rs57 63 (l := [e72 fu,e55_1 fu,e55_1 fu,e55_1 fu,e55_1 fu,e73 fu,e55_1 fu,e71 fu,e55_1 fu,e74 fu,e75 fu,e71 fu]) ⟨g72 fu,g55_1 fu,g55_1 fu,g55_1 fu,g55_1 fu,g73 fu,g55_1 fu,g71 fu,g55_1 fu,g74 fu,g75 fu,g71 fu,trivial⟩
def rs58:List RVx := [(.tmp 2)]
def p58 (_:Nat):((List (Int))×(Unit))×(Unit)→Option ((Unit)×(List (Int))) := fun ⟨⟨a,_⟩,_⟩ =>
bif decide (List.length a≤maxLen∧List.length a * 1≤140737488355328) then
 bif decide (List.length a=List.length a) then
 some ((),a)
 else none
else none
def e58 (fu:Nat):Ent := ⟨58,(.cons (.look (.cons (.hole (.sl (.int .u8))) .nil)) .nil),.nil,(.own .own 5 (.int .u8)),p58 fu⟩
def d58 (_:Nat):DC := (.seq (.region [opD 2 (.mov (.const vS))] [[]] false) (.seq (.region [mvD 3 0,opD 4 (.pure .nilc [(tD 3)]),opD 5 (.faddr 0 (tD 4)),opD 6 (.load false 1 (tD 5)),oqD 7 (.app 5 1 [(.int .u8 0)] 1 (.const vS) (tD 6)) (.ty (.int .u8)),mvD 2 7] [[],[0],[1],[2],[3],[4,4,0,1,2,3,4]] false) .ret))
theorem g58 (fu:Nat):(e58 fu).Good Tryd.prog := good_fn orders Tryd.func58 fu (d58 fu) rs58 8 (l := []) trivial
def rs33:List RVx := [(.tmp 4)]
def p33 (fu:Nat):(Int)×((List (D_beats_Wire))×(Unit))→Option ((Unit)×(List (Int))) := fun ⟨a,c,_⟩ =>
Option.bind (p55 fu (((),()),IntKind.wrap .u64 (List.length c:Int),())) fun ⟨⟨⟨f,_⟩,_⟩,_⟩ =>
bif decide (List.length f=List.length f) then
 loopO (S := ((Int)×(Unit))×(((List (Int))×(Unit))×(Unit))) fu (fun ⟨⟨h,_⟩,⟨⟨i,_⟩,_⟩⟩ =>
 bif decide (h<(List.length c:Int)) then
 bif decide ((0:Int)≤h∧h<(List.length c:Int)) then
 bif decide (Int.toNat h<List.length c) then
 bif decide (List.length i=List.length i) then
 Option.bind (p55_1 fu ((i,()),(List.getD c (Int.toNat h) (dflt T_beats_Wire)).1,())) fun ⟨⟨⟨j,_⟩,_,_⟩,_⟩ =>
 bif (a==(2:Int)) then
 bif decide (List.length j=List.length j) then
 Option.bind (p56 fu ((j,()),(((List.getD c (Int.toNat h) (dflt T_beats_Wire)).2).1,(((List.getD c (Int.toNat h) (dflt T_beats_Wire)).2).2).1,((((List.getD c (Int.toNat h) (dflt T_beats_Wire)).2).2).2).1,(((((List.getD c (Int.toNat h) (dflt T_beats_Wire)).2).2).2).2).1,((((((List.getD c (Int.toNat h) (dflt T_beats_Wire)).2).2).2).2).2).1,(((((((List.getD c (Int.toNat h) (dflt T_beats_Wire)).2).2).2).2).2).2).1,((((((((List.getD c (Int.toNat h) (dflt T_beats_Wire)).2).2).2).2).2).2).2).1,(((((((((List.getD c (Int.toNat h) (dflt T_beats_Wire)).2).2).2).2).2).2).2).2).1,((((((((((List.getD c (Int.toNat h) (dflt T_beats_Wire)).2).2).2).2).2).2).2).2).2).1,(((((((((((List.getD c (Int.toNat h) (dflt T_beats_Wire)).2).2).2).2).2).2).2).2).2).2).1,(((((((((((((List.getD c (Int.toNat h) (dflt T_beats_Wire)).2).2).2).2).2).2).2).2).2).2).2).1).1,(((((((((((((List.getD c (Int.toNat h) (dflt T_beats_Wire)).2).2).2).2).2).2).2).2).2).2).2).1).2,(((((((((((((List.getD c (Int.toNat h) (dflt T_beats_Wire)).2).2).2).2).2).2).2).2).2).2).2).2).1,(((((((((((((List.getD c (Int.toNat h) (dflt T_beats_Wire)).2).2).2).2).2).2).2).2).2).2).2).2).2,()),())) fun ⟨⟨⟨k,_⟩,_,_⟩,_⟩ =>
 bif decide (List.length k=List.length k) then
 some (.inl ((IntKind.wrap .i64 (h+(1:Int)),()),((k,()),())))
 else none
 else none
 else
 bif decide (List.length j=List.length j) then
 Option.bind (p57 fu ((j,()),(((List.getD c (Int.toNat h) (dflt T_beats_Wire)).2).1,(((List.getD c (Int.toNat h) (dflt T_beats_Wire)).2).2).1,((((List.getD c (Int.toNat h) (dflt T_beats_Wire)).2).2).2).1,(((((List.getD c (Int.toNat h) (dflt T_beats_Wire)).2).2).2).2).1,((((((List.getD c (Int.toNat h) (dflt T_beats_Wire)).2).2).2).2).2).1,(((((((List.getD c (Int.toNat h) (dflt T_beats_Wire)).2).2).2).2).2).2).1,((((((((List.getD c (Int.toNat h) (dflt T_beats_Wire)).2).2).2).2).2).2).2).1,(((((((((List.getD c (Int.toNat h) (dflt T_beats_Wire)).2).2).2).2).2).2).2).2).1,((((((((((List.getD c (Int.toNat h) (dflt T_beats_Wire)).2).2).2).2).2).2).2).2).2).1,(((((((((((List.getD c (Int.toNat h) (dflt T_beats_Wire)).2).2).2).2).2).2).2).2).2).2).1,(((((((((((((List.getD c (Int.toNat h) (dflt T_beats_Wire)).2).2).2).2).2).2).2).2).2).2).2).1).1,(((((((((((((List.getD c (Int.toNat h) (dflt T_beats_Wire)).2).2).2).2).2).2).2).2).2).2).2).1).2,(((((((((((((List.getD c (Int.toNat h) (dflt T_beats_Wire)).2).2).2).2).2).2).2).2).2).2).2).2).1,(((((((((((((List.getD c (Int.toNat h) (dflt T_beats_Wire)).2).2).2).2).2).2).2).2).2).2).2).2).2,()),())) fun ⟨⟨⟨l,_⟩,_,_⟩,_⟩ =>
 bif decide (List.length l=List.length l) then
 some (.inl ((IntKind.wrap .i64 (h+(1:Int)),()),((l,()),())))
 else none
 else none
 else none
 else none
 else none
 else
 inrO (bif decide (List.length i=List.length i) then
 Option.bind (p58 fu ((i,()),())) fun ⟨_,m⟩ =>
 bif decide (List.length m=List.length m) then
 some ((),m)
 else none
 else none))
 (((0:Int),()),((f,()),()))
else none
def e33 (fu:Nat):Ent := ⟨33,(.cons (.hole (.int .i64)) (.cons (.hole (.sl T_beats_Wire)) .nil)),.nil,(.own .own 5 (.int .u8)),p33 fu⟩
def d33 (fu:Nat):DC := (.seq (.region [opD 4 (.mov (.const vS))] [[]] false) (.seq (.region [opD 8 (.build 1 [vS] []),opD 9 (.box 102 1 (tD 8)),mvD 5 9] [[],[0],[1,0,1]] false) (.seq (.region [mvD 10 5,mvD 11 1,opD 12 (.len false (tD 11)),opD 13 (.conv .u64 (tD 12)),oqD 14 (.call 55 [(tD 10),(tD 13)]) (.ent (e55 fu))] [[],[],[1],[2],[0,3]] false) (.seq (.seq (.region [mvD 15 1,opD 16 (.len false (tD 15)),opD 17 (.mov (cD 0))] [[],[0],[]] false) (.block 0 (.loop ⟨[17],(.cons (.hole (.int .i64)) .nil),[(32,102,1)],(.cons (.agg 1 (.cons (.own .own 5 (.int .u8)) .nil)) .nil),[0,5,15,16],[]⟩
 (.seq (.region [opD 18 (.bin .lss (tD 17) (tD 16))] [[]] false) (.seq (.cond (.tmp 18) .skip (.exit 0)) (.seq (.block 1 (.seq (.region [opD 19 (.iaddr 15 (tD 15) (tD 17)),opD 20 (.load true 15 (tD 19)),opD 7 (.alloc 44 15 [vU,vI,vI,vI,vU,vU,vU,vS,vU,vB,vU,vS,vS,vS,vB]),onD (.store 15 (tD 7) (tD 20))] [[],[0],[],[2,1,0,1,2]] false) (.seq (.region [mvD 21 5,opD 22 (.faddr 0 (tD 7)),opD 23 (.load false 1 (tD 22)),oqD 24 (.call 55 [(tD 21),(tD 23)]) (.ent (e55_1 fu))] [[],[],[1],[0,2]] false) (.seq (.region [mvD 25 0,opD 26 (.bin .eql (tD 25) (cD 2))] [[],[0]] false) (.cond (.tmp 26) (.region [mvD 27 5,opD 28 (.faddr 1 (tD 7)),opD 29 (.load true 14 (tD 28)),oqD 30 (.call 56 [(tD 27),(tD 29)]) (.ent (e56 fu))] [[],[],[1],[0,2]] false) (.region [mvD 31 5,opD 32 (.faddr 1 (tD 7)),opD 33 (.load true 14 (tD 32)),oqD 34 (.call 57 [(tD 31),(tD 33)]) (.ent (e57 fu))] [[],[],[1],[0,2]] false)))))) (.region [opD 35 (.bin .add (tD 17) (cD 1)),mvD 17 35] [[],[0]] false))))))) (.seq (.region [mvD 36 5,oqD 37 (.call 58 [(tD 36)]) (.ent (e58 fu)),mvD 4 37] [[],[0],[1,1,0,1]] false) .ret)))))
theorem g33 (fu:Nat):(e33 fu).Good Tryd.prog := good_fn orders Tryd.func33 fu (d33 fu) rs33 38 (l := [e55 fu,e55_1 fu,e56 fu,e57 fu,e58 fu]) ⟨g55 fu,g55_1 fu,g56 fu,g57 fu,g58 fu,trivial⟩
def rs32:List RVx := [(.tmp 2)]
def p32 (_:Nat):(Z0)×(Unit)→Option ((Unit)×(Bool)) := fun ⟨⟨a,_,_,_,_,c,f,h,i,j,k,l,m,n,_⟩,_⟩ =>
orK (E := ((Bool)×(Unit))×(Unit))
 (bif ((IntKind.wrap .i64 ((IntKind.wrap .i64 ((IntKind.wrap .i64 ((List.length f:Int)+(List.length k:Int)))+(List.length l:Int)))+(List.length m:Int)))==(0:Int)) then
 bif !i then
 bif (j==(0:Int)) then
 some (.inl ((!n,()),()))
 else
 some (.inl ((false,()),()))
 else
 some (.inl ((false,()),()))
 else
 some (.inl ((false,()),())))
 fun ⟨⟨o,_⟩,_⟩ =>
bif (a==(5:Int)) then
 some ((),o)
else
 bif (a==(6:Int)) then
 bif o then
 bif (c==(0:Int)) then
 some ((),(h==(0:Int)))
 else
 some ((),false)
 else
 some ((),false)
 else
 some ((),false)
def e32 (fu:Nat):Ent := ⟨32,(.cons Y1 .nil),.nil,(.hole .bool),p32 fu⟩
def d32 (_:Nat):DC := (.seq (.region [opD 1 (.box 42 14 (tD 0)),opD 2 (.mov (.const vB))] [[],[]] false) (.join ⟨[3],(.cons (.hole .bool) .nil),[],.nil,[1],[0]⟩
 (.region [opD 4 (.faddr 6 (tD 1)),opD 5 (.load false 1 (tD 4)),opD 6 (.len false (tD 5)),opD 7 (.faddr 10 (tD 1)),opD 8 (.faddr 0 (tD 7)),opD 9 (.load false 1 (tD 8)),opD 10 (.len false (tD 9)),opD 11 (.bin .add (tD 6) (tD 10)),opD 12 (.faddr 10 (tD 1)),opD 13 (.faddr 1 (tD 12)),opD 14 (.load false 1 (tD 13)),opD 15 (.len false (tD 14)),opD 16 (.bin .add (tD 11) (tD 15)),opD 17 (.faddr 12 (tD 1)),opD 18 (.load false 1 (tD 17)),opD 19 (.len false (tD 18)),opD 20 (.bin .add (tD 16) (tD 19)),opD 21 (.bin .eql (tD 20) (cD 0)),mvD 22 21,ogD 23 22 true (.faddr 8 (tD 1)),ogD 24 22 true (.load false 1 (tD 23)),ogD 25 22 true (.not (tD 24)),opD 26 (.pick (tD 22) (tD 25) (.const vB)),mvD 27 26,ogD 28 27 true (.faddr 9 (tD 1)),ogD 29 27 true (.load false 1 (tD 28)),ogD 30 27 true (.bin .eql (tD 29) (.const vU)),opD 31 (.pick (tD 27) (tD 30) (.const vB)),mvD 32 31,ogD 33 32 true (.faddr 13 (tD 1)),ogD 34 32 true (.load false 1 (tD 33)),ogD 35 32 true (.not (tD 34)),opD 36 (.pick (tD 32) (tD 35) (.const vB)),mvD 3 36] [[],[0],[1],[],[3],[4],[5],[2,6],[],[8],[9],[10],[7,11],[],[13],[14],[12,15],[16],[17],[18],[19,18],[20,18],[18,21],[22,18],[23],[24,23],[25,23],[23,26],[27,23],[28],[29,28],[30,28],[28,31],[32,28,0,1,2,3,4,5,6,7,8,9,10,11,12,13,14,15,16,17,18,19,20,21,22,23,24,25,26,27,28,29,30,31,32]] false)
 (.seq (.seq (.region [opD 37 (.faddr 0 (tD 1)),opD 38 (.load false 1 (tD 37))] [[],[0]] false) (.block 0 (.seq (.region [opD 40 (.bin .eql (tD 38) (cD 5)),mvD 39 40] [[],[0]] false) (.cond (.tmp 39) (.seq (.region [mvD 41 3,mvD 2 41] [[],[0,0]] false) .ret) (.seq (.region [opD 43 (.bin .eql (tD 38) (cD 6)),mvD 42 43] [[],[0]] false) (.cond (.tmp 42) (.seq (.region [mvD 44 3,mvD 45 44,ogD 46 45 true (.faddr 5 (tD 1)),ogD 47 45 true (.load false 1 (tD 46)),ogD 48 45 true (.bin .eql (tD 47) (.const vU)),opD 49 (.pick (tD 45) (tD 48) (.const vB)),mvD 50 49,ogD 51 50 true (.faddr 7 (tD 1)),ogD 52 50 true (.load false 1 (tD 51)),ogD 53 50 true (.bin .eql (tD 52) (.const vU)),opD 54 (.pick (tD 50) (tD 53) (.const vB)),mvD 2 54] [[],[0],[1],[2,1],[3,1],[1,4],[5,1],[6],[7,6],[8,6],[6,9],[10,6,0,1,2,3,4,5,6,7,8,9,10]] false) .ret) .skip)))))) (.seq (.region [opD 2 (.mov (.const vB))] [[]] false) .ret))))
theorem g32 (fu:Nat):(e32 fu).Good Tryd.prog := good_fn orders Tryd.func32 fu (d32 fu) rs32 55 (l := []) trivial
end Go.Proofs.YtahamggipcikgaaDoor.Bq
