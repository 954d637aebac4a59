/-
  The functions, typed.
-/
import Derived.Test.YtmjmhobeiamgiaaIsn
import Derived.Test.YtmjmhobeiamgiaaInC
import Derived.Test.YtmjmhobeiamgiaaCpE
import Derived.Test.YtmjmhobeiamgiaaNsE
import Derived.Test.YtmjmhobeiamgiaaDaL
import Derived.Test.YtmjmhobeiamgiaaRows
namespace Go.Proofs.Ytmjmhobeiamgiaa
set_option maxRecDepth 1000000
open Go.RowKit
abbrev T_runtime_errorAddressString:Tp := (.pair .str (.int .u64))
abbrev D_runtime_errorAddressString := (ByteArray)×(Int)
abbrev T_api_Range:Tp := (.pair .str .str)
abbrev D_api_Range := (ByteArray)×(ByteArray)
abbrev T_api_Producer:Tp := (.pair (.int .u64) (.pair (.int .u64) (.pair .bool (.int .u64))))
abbrev D_api_Producer := (Int)×((Int)×((Bool)×(Int)))
abbrev T_api_Record:Tp := (.pair (.int .u64) (.pair .str (.pair (.sl (.int .u8)) (.pair (.int .u64) (.int .u64)))))
abbrev D_api_Record := (Int)×((ByteArray)×((List (Int))×((Int)×(Int))))
abbrev T_api_Part:Tp := (.pair T_api_Range (.pair (.int .u64) (.pair (.int .u64) (.pair (.sl T_api_Record) (.pair (.sl T_api_Producer) (.sl T_runtime_errorAddressString))))))
abbrev D_api_Part := (D_api_Range)×((Int)×((Int)×((List (D_api_Record))×((List (D_api_Producer))×(List (D_runtime_errorAddressString))))))
theorem orders:Try.prog.follows .mixedOrders=true := by kernel_rfl
abbrev Z0:Type := (ByteArray)×((ByteArray)×((Int)×((Int)×((List (D_api_Record))×((List (D_api_Producer))×((List (D_runtime_errorAddressString))×(Unit)))))))
abbrev Y1:Sh := (.agg 7 (.cons (.hole .str) (.cons (.hole .str) (.cons (.hole (.int .u64)) (.cons (.hole (.int .u64)) (.cons (.own .own 37 T_api_Record) (.cons (.own .own 39 T_api_Producer) (.cons (.own .own 41 T_runtime_errorAddressString) .nil))))))))
abbrev Y2:Sh := (.agg 5 (.cons (.hole (.int .u64)) (.cons (.hole .str) (.cons (.hole (.sl (.int .u8))) (.cons (.hole (.int .u64)) (.cons (.hole (.int .u64)) .nil))))))
abbrev Y3:Sh := (.agg 7 (.cons (.hole .str) (.cons (.hole .str) (.cons (.hole (.int .u64)) (.cons (.hole (.int .u64)) (.cons (.hole (.sl T_api_Record)) (.cons (.hole (.sl T_api_Producer)) (.cons (.hole (.sl T_runtime_errorAddressString)) .nil))))))))
abbrev Y4:Sh := (.tup 3 (.cons (.agg 2 (.cons (.hole .str) (.cons (.hole .str) .nil))) (.cons (.agg 2 (.cons (.hole .str) (.cons (.hole .str) .nil))) (.cons (.hole (.int .i64)) .nil))))
abbrev Y5:Sh := (.agg 5 (.cons (.hole (.int .u64)) (.cons (.hole .str) (.cons (.own .own 5 (.int .u8)) (.cons (.hole (.int .u64)) (.cons (.hole (.int .u64)) .nil))))))
abbrev Y6:Sh := (.box 30 7 (.cons (.hole .str) (.cons (.hole .str) (.cons (.hole (.int .u64)) (.cons (.hole (.int .u64)) (.cons (.hole (.sl T_api_Record)) (.cons (.hole (.sl T_api_Producer)) (.cons (.hole (.sl T_runtime_errorAddressString)) .nil))))))))
abbrev Y7:Sh := (.box 110 3 (.cons (.hole (.sl T_api_Record)) (.cons (.own .own 25 (.int .u64)) (.cons (.mown false (.int .u64) (.sl (.int .u64))) .nil))))
abbrev Y8:Sh := (.agg 3 (.cons (.hole (.sl T_api_Record)) (.cons (.own .own 25 (.int .u64)) (.cons (.mown false (.int .u64) (.sl (.int .u64))) .nil))))
abbrev Y9:Sh := (.tup 4 (.cons (.own .own 37 T_api_Record) (.cons (.own .own 25 (.int .u64)) (.cons (.own .own 25 (.int .u64)) (.cons (.hole (.int .i64)) .nil)))))
abbrev Y10:Sh := (.box 30 7 (.cons (.hole .str) (.cons (.hole .str) (.cons (.hole (.int .u64)) (.cons (.hole (.int .u64)) (.cons (.own .own 37 T_api_Record) (.cons (.own .own 39 T_api_Producer) (.cons (.own .own 41 T_runtime_errorAddressString) .nil))))))))
def rs11:List RVx := [(.cell 0 true 7)]
def p11 (_:Nat):Unit→Option ((Unit)×((ByteArray)×((ByteArray)×((Int)×((Int)×((List (D_api_Record))×((List (D_api_Producer))×((List (D_runtime_errorAddressString))×(Unit))))))))) := fun _ =>
some ((),((⟨#[]⟩:ByteArray),(⟨#[]⟩:ByteArray),(3:Int),(1:Int),[((0:Int),(⟨#[97]⟩:ByteArray),[],(7:Int),(1:Int)),((1:Int),(⟨#[109]⟩:ByteArray),[],(7:Int),(2:Int)),((2:Int),(⟨#[98]⟩:ByteArray),[],(8:Int),(1:Int))],[((7:Int),(2:Int),true,(1:Int)),((8:Int),(1:Int),true,(2:Int))],[((⟨#[99]⟩:ByteArray),(2:Int))],()))
def e11 (fu:Nat):Ent := ⟨11,.nil,.nil,Y1,p11 fu⟩
def d11 (_:Nat):DC := (.seq (.region [opD 0 (.alloc 30 7 [vT,vT,vU,vU,vS,vS,vS])] [[]] false) (.seq (.region [opD 1 (.build 5 [vU,vT,vS,vU,vU] [(1,(1,(.const (.string ⟨#[97]⟩)))),(3,(1,(.const (.int .u64 7)))),(4,(1,(.const (.int .u64 1))))]),opD 2 (.build 5 [vU,vT,vS,vU,vU] [(0,(1,(.const (.int .u64 1)))),(1,(1,(.const (.string ⟨#[109]⟩)))),(3,(1,(.const (.int .u64 7)))),(4,(1,(.const (.int .u64 2))))]),opD 3 (.build 5 [vU,vT,vS,vU,vU] [(0,(1,(.const (.int .u64 2)))),(1,(1,(.const (.string ⟨#[98]⟩)))),(3,(1,(.const (.int .u64 8)))),(4,(1,(.const (.int .u64 1))))]),oqD 4 (.bslice 37 5 3 [vU,vT,vS,vU,vU] [(0,(tD 1)),(1,(tD 2)),(2,(tD 3))]) (.ty T_api_Record),opD 5 (.build 4 [vU,vU,vB,vU] [(0,(1,(.const (.int .u64 7)))),(1,(1,(.const (.int .u64 2)))),(2,(1,(.const (.bool true)))),(3,(1,(.const (.int .u64 1))))]),opD 6 (.build 4 [vU,vU,vB,vU] [(0,(1,(.const (.int .u64 8)))),(1,(1,(.const (.int .u64 1)))),(2,(1,(.const (.bool true)))),(3,(1,(.const (.int .u64 2))))]),oqD 7 (.bslice 39 4 2 [vU,vU,vB,vU] [(0,(tD 5)),(1,(tD 6))]) (.ty T_api_Producer),opD 8 (.build 2 [vT,vU] [(0,(1,(.const (.string ⟨#[99]⟩)))),(1,(1,(.const (.int .u64 2))))]),oqD 9 (.bslice 41 2 1 [vT,vU] [(0,(tD 8))]) (.ty T_runtime_errorAddressString),opD 10 (.build 7 [vT,vT,vU,vU,vS,vS,vS] [(2,(1,(.const (.int .u64 3)))),(3,(1,(.const (.int .u64 1)))),(4,(1,(tD 4))),(5,(1,(tD 7))),(6,(1,(tD 9)))]),onD (.store 7 (tD 0) (tD 10))] [[],[],[],[0,1,2],[],[],[4,5],[],[7],[3,6,8],[9,0,1,2,3,4,5,6,7,8,9]] false) .ret))
theorem g11 (fu:Nat):(e11 fu).Good Try.prog := good_fn orders Try.func11 fu (d11 fu) rs11 11 (l := []) trivial
def rs55:List RVx := [(.tmp 2)]
def p55 (_:Nat):(ByteArray)×(Unit)→Option ((Unit)×(Bool)) := fun ⟨a,_⟩ =>
some ((),decide ((ByteArray.size a:Int)≤(32:Int)))
def e55 (fu:Nat):Ent := ⟨55,(.cons (.hole .str) .nil),.nil,(.hole .bool),p55 fu⟩
def d55 (_:Nat):DC := (.seq (.region [opD 2 (.mov (.const vB))] [[]] false) (.seq (.region [mvD 3 0,opD 4 (.len true (tD 3)),opD 5 (.bin .leq (tD 4) (cD 32)),mvD 2 5] [[],[0],[1],[2,0,1,2]] false) .ret))
theorem g55 (fu:Nat):(e55 fu).Good Try.prog := good_fn orders Try.func55 fu (d55 fu) rs55 6 (l := []) trivial
def rs63:List RVx := [(.cell 2 true 2)]
def p63 (_:Nat):((ByteArray)×((ByteArray)×(Unit)))×(Unit)→Option ((Unit)×((ByteArray)×((Bool)×(Unit)))) := fun ⟨⟨_,a,_⟩,_⟩ =>
some ((),(a,ByteArray.toList a==ByteArray.toList (⟨#[]⟩:ByteArray),()))
def e63 (fu:Nat):Ent := ⟨63,(.cons (.agg 2 (.cons (.hole .str) (.cons (.hole .str) .nil))) .nil),.nil,(.agg 2 (.cons (.hole .str) (.cons (.hole .bool) .nil))),p63 fu⟩
def d63 (_:Nat):DC := (.seq (.region [opD 1 (.box 24 2 (tD 0)),opD 2 (.alloc 102 2 [vT,vB])] [[],[]] false) (.seq (.region [opD 3 (.faddr 1 (tD 1)),opD 4 (.load false 1 (tD 3)),opD 5 (.faddr 1 (tD 1)),opD 6 (.load false 1 (tD 5)),opD 7 (.bin .eql (tD 6) (.const vT)),opD 8 (.build 2 [vT,vB] [(0,(1,(tD 4))),(1,(1,(tD 7)))]),onD (.store 2 (tD 2) (tD 8))] [[],[0],[],[2],[3],[1,4],[5,0,1,2,3,4,5]] false) .ret))
theorem g63 (fu:Nat):(e63 fu).Good Try.prog := good_fn orders Try.func63 fu (d63 fu) rs63 9 (l := []) trivial
def rs88:List RVx := [(.tmp 4)]
def p88 (_:Nat):((ByteArray)×((Bool)×(Unit)))×((ByteArray)×(Unit))→Option ((Unit)×(Bool)) := fun ⟨⟨a,c,_⟩,f,_⟩ =>
bif c then
 some ((),true)
else
 some ((),!(Op.bytesLess (ByteArray.toList a) (ByteArray.toList f)||ByteArray.toList a==ByteArray.toList f))
def e88 (fu:Nat):Ent := ⟨88,(.cons (.agg 2 (.cons (.hole .str) (.cons (.hole .bool) .nil))) (.cons (.hole .str) .nil)),.nil,(.hole .bool),p88 fu⟩
def d88 (_:Nat):DC := (.seq (.region [opD 2 (.box 102 2 (tD 0)),opD 4 (.mov (.const vB))] [[],[]] false) (.seq (.region [opD 5 (.faddr 1 (tD 2)),opD 6 (.load false 1 (tD 5)),mvD 7 6,ogD 8 7 false (.faddr 0 (tD 2)),ogD 9 7 false (.load false 1 (tD 8)),ogD 10 7 false (.mov (tD 1)),ogD 11 7 false (.bin .gtr (tD 9) (tD 10)),opD 12 (.pick (tD 7) (.const (.bool true)) (tD 11)),mvD 4 12] [[],[0],[1],[2],[3,2],[2],[4,5,2],[2,6],[7,2,0,1,2,3,4,5,6,7]] false) .ret))
theorem g88 (fu:Nat):(e88 fu).Good Try.prog := good_fn orders Try.func88 fu (d88 fu) rs88 13 (l := []) trivial
def rs45:List RVx := [(.tmp 2)]
def p45 (fu:Nat):((ByteArray)×((ByteArray)×(Unit)))×(Unit)→Option ((Unit)×(Int)) := fun ⟨⟨a,c,_⟩,_⟩ =>
Option.bind (p55 fu (a,())) fun ⟨_,f⟩ =>
bif !f then
 some ((),(131:Int))
else
 Option.bind (p55 fu (c,())) fun ⟨_,h⟩ =>
 bif !h then
 some ((),(131:Int))
 else
 Option.bind (p63 fu ((a,c,()),())) fun ⟨_,⟨i,j,_⟩⟩ =>
 Option.bind (p88 fu ((i,j,()),a,())) fun ⟨_,k⟩ =>
 bif !k then
 some ((),(132:Int))
 else
 some ((),(0:Int))
def e45 (fu:Nat):Ent := ⟨45,(.cons (.agg 2 (.cons (.hole .str) (.cons (.hole .str) .nil))) .nil),.nil,(.hole (.int .i64)),p45 fu⟩
def d45 (fu:Nat):DC := (.seq (.region [opD 1 (.box 24 2 (tD 0)),opD 2 (.mov (cD 0))] [[],[]] false) (.seq (.seq (.region [opD 3 (.faddr 0 (tD 1)),opD 4 (.load false 1 (tD 3)),oqD 5 (.call 55 [(tD 4)]) (.ent (e55 fu)),opD 6 (.not (tD 5)),mvD 7 6,ogD 8 7 false (.faddr 1 (tD 1)),ogD 9 7 false (.load false 1 (tD 8)),(⟨(some 10),(some (7,false)),(.call 55 [(tD 9)])⟩,(.ent (e55 fu))),ogD 11 7 false (.not (tD 10)),opD 12 (.pick (tD 7) (.const (.bool true)) (tD 11))] [[],[0],[1],[2],[3,2],[4],[5,4],[6,4,4],[7,4],[4,8]] false) (.cond (.tmp 12) (.seq (.region [opD 2 (.mov (cD 131))] [[]] false) .ret) .skip)) (.seq (.seq (.region [opD 13 (.load true 2 (tD 1)),oqD 14 (.call 63 [(tD 13)]) (.ent (e63 fu)),opD 15 (.faddr 0 (tD 1)),opD 16 (.load false 1 (tD 15)),oqD 17 (.call 88 [(tD 14),(tD 16)]) (.ent (e88 fu)),opD 18 (.not (tD 17))] [[],[0],[],[2],[1,3,1],[4]] true) (.cond (.tmp 18) (.seq (.region [opD 2 (.mov (cD 132))] [[]] false) .ret) .skip)) (.seq (.region [opD 2 (.mov (cD 0))] [[]] false) .ret))))
theorem g45 (fu:Nat):(e45 fu).Good Try.prog := good_fn orders Try.func45 fu (d45 fu) rs45 19 (l := [e55 fu,e55 fu,e63 fu,e88 fu]) ⟨g55 fu,g55 fu,g63 fu,g88 fu,trivial⟩
def rs89:List RVx := [(.tmp 2)]
def p89 (_:Nat):((Int)×((ByteArray)×((List (Int))×((Int)×((Int)×(Unit))))))×(Unit)→Option ((Unit)×(Int)) := fun ⟨⟨_,a,c,_,_,_⟩,_⟩ =>
bif decide ((ByteArray.size a:Int)>(32:Int)) then
 some ((),(131:Int))
else
 bif decide ((List.length c:Int)>(256:Int)) then
 some ((),(144:Int))
 else
 some ((),(0:Int))
def e89 (fu:Nat):Ent := ⟨89,(.cons Y2 .nil),.nil,(.hole (.int .i64)),p89 fu⟩
def d89 (_:Nat):DC := (.seq (.region [opD 1 (.box 37 5 (tD 0)),opD 2 (.mov (cD 0))] [[],[]] false) (.seq (.block 0 (.seq (.region [opD 4 (.faddr 1 (tD 1)),opD 5 (.load false 1 (tD 4)),opD 6 (.len true (tD 5)),opD 7 (.bin .gtr (tD 6) (cD 32)),mvD 3 7] [[],[0],[1],[2],[3]] false) (.cond (.tmp 3) (.seq (.region [opD 2 (.mov (cD 131))] [[]] false) .ret) (.seq (.region [opD 9 (.faddr 2 (tD 1)),opD 10 (.load false 1 (tD 9)),opD 11 (.len false (tD 10)),opD 12 (.bin .gtr (tD 11) (cD 256)),mvD 8 12] [[],[0],[1],[2],[3]] false) (.cond (.tmp 8) (.seq (.region [opD 2 (.mov (cD 144))] [[]] false) .ret) .skip))))) (.seq (.region [opD 2 (.mov (cD 0))] [[]] false) .ret)))
theorem g89 (fu:Nat):(e89 fu).Good Try.prog := good_fn orders Try.func89 fu (d89 fu) rs89 13 (l := []) trivial
def rs46:List RVx := [(.tmp 2)]
def p46 (fu:Nat):(List (D_api_Record))×(Unit)→Option ((Unit)×(Bool)) := fun ⟨a,_⟩ =>
loopO (S := ((Int)×(Unit))×(Unit)) fu (fun ⟨⟨c,_⟩,_⟩ =>
 bif decide (c<(List.length a:Int)) then
 bif decide ((0:Int)≤c∧c<(List.length a:Int)) then
 bif decide (Int.toNat c<List.length a) then
 bif (((List.getD a (Int.toNat c) (dflt T_api_Record)).1) != (IntKind.wrap .u64 c)) then
 inrO (some ((),false))
 else
 Option.bind (p89 fu (((List.getD a (Int.toNat c) (dflt T_api_Record)).1,((List.getD a (Int.toNat c) (dflt T_api_Record)).2).1,(((List.getD a (Int.toNat c) (dflt T_api_Record)).2).2).1,((((List.getD a (Int.toNat c) (dflt T_api_Record)).2).2).2).1,((((List.getD a (Int.toNat c) (dflt T_api_Record)).2).2).2).2,()),())) fun ⟨_,f⟩ =>
 bif (f != (0:Int)) then
 inrO (some ((),false))
 else
 some (.inl ((IntKind.wrap .i64 (c+(1:Int)),()),()))
 else none
 else none
 else
 inrO (some ((),decide ((List.length a:Int)≤(4096:Int)))))
 (((0:Int),()),())
def e46 (fu:Nat):Ent := ⟨46,(.cons (.hole (.sl T_api_Record)) .nil),.nil,(.hole .bool),p46 fu⟩
def d46 (fu:Nat):DC := (.seq (.region [opD 2 (.mov (.const vB))] [[]] false) (.seq (.seq (.region [mvD 5 0,opD 6 (.len false (tD 5)),opD 7 (.mov (cD 0))] [[],[0],[]] false) (.block 0 (.loop ⟨[7],(.cons (.hole (.int .i64)) .nil),[],.nil,[0,5,6],[]⟩
 (.seq (.region [opD 8 (.bin .lss (tD 7) (tD 6))] [[]] false) (.seq (.cond (.tmp 8) .skip (.exit 0)) (.seq (.block 1 (.seq (.region [mvD 9 7,opD 10 (.iaddr 5 (tD 5) (tD 7)),opD 11 (.load true 5 (tD 10)),opD 4 (.alloc 37 5 [vU,vT,vS,vU,vU]),mvD 3 9,onD (.store 5 (tD 4) (tD 11))] [[],[],[1],[],[0,0,1,2,3],[3,2,4,0,1,2,3,4]] false) (.seq (.region [opD 12 (.faddr 0 (tD 4)),opD 13 (.load false 1 (tD 12)),mvD 14 3,opD 15 (.conv .u64 (tD 14)),opD 16 (.bin .neq (tD 13) (tD 15)),mvD 17 16,ogD 18 17 false (.load true 5 (tD 4)),(⟨(some 19),(some (17,false)),(.call 89 [(tD 18)])⟩,(.ent (e89 fu))),ogD 20 17 false (.bin .neq (tD 19) (cD 0)),opD 21 (.pick (tD 17) (.const (.bool true)) (tD 20))] [[],[0],[],[2],[1,3],[4],[5],[6,5,5],[7,5],[5,8]] false) (.cond (.tmp 21) (.seq (.region [opD 2 (.mov (.const vB))] [[]] false) .ret) .skip)))) (.region [opD 22 (.bin .add (tD 7) (cD 1)),mvD 7 22] [[],[0]] false))))))) (.seq (.region [mvD 23 0,opD 24 (.len false (tD 23)),opD 25 (.bin .leq (tD 24) (cD 4096)),mvD 2 25] [[],[0],[1],[2,0,1,2]] false) .ret)))
theorem g46 (fu:Nat):(e46 fu).Good Try.prog := good_fn orders Try.func46 fu (d46 fu) rs46 26 (l := [e89 fu]) ⟨g89 fu,trivial⟩
def rs106:List RVx := [(.tmp 2)]
def p106 (_:Nat):(Int)×(Unit)→Option ((Unit)×(Bool)) := fun ⟨a,_⟩ =>
some ((),(a != a))
def e106 (fu:Nat):Ent := ⟨106,(.cons (.hole (.int .u64)) .nil),.nil,(.hole .bool),p106 fu⟩
def d106 (_:Nat):DC := (.seq (.region [opD 2 (.mov (.const vB))] [[]] false) (.seq (.region [mvD 3 0,mvD 4 0,opD 5 (.bin .neq (tD 3) (tD 4)),mvD 2 5] [[],[],[0,1],[2,0,1,2]] false) .ret))
theorem g106 (fu:Nat):(e106 fu).Good Try.prog := good_fn orders Try.func106 fu (d106 fu) rs106 6 (l := []) trivial
def rs93:List RVx := [(.tmp 4)]
def p93 (fu:Nat):(Int)×((Int)×(Unit))→Option ((Unit)×(Int)) := fun ⟨a,c,_⟩ =>
Option.bind (p106 fu (a,())) fun ⟨_,f⟩ =>
Option.bind (p106 fu (c,())) fun ⟨_,h⟩ =>
bif f then
 bif h then
 some ((),(0:Int))
 else
 some ((),((-1):Int))
else
 bif h then
 some ((),(1:Int))
 else
 bif decide (a<c) then
 some ((),((-1):Int))
 else
 bif decide (a>c) then
 some ((),(1:Int))
 else
 some ((),(0:Int))
def e93 (fu:Nat):Ent := ⟨93,(.cons (.hole (.int .u64)) (.cons (.hole (.int .u64)) .nil)),.nil,(.hole (.int .i64)),p93 fu⟩
def d93 (fu:Nat):DC := (.seq (.region [opD 4 (.mov (cD 0))] [[]] false) (.seq (.region [mvD 7 0,oqD 8 (.call 106 [(tD 7)]) (.ent (e106 fu)),mvD 5 8] [[],[0],[1,1,0,1]] false) (.seq (.region [mvD 9 1,oqD 10 (.call 106 [(tD 9)]) (.ent (e106 fu)),mvD 6 10] [[],[0],[1,1,0,1]] false) (.seq (.seq (.region [mvD 11 5] [[]] false) (.cond (.tmp 11) (.seq (.seq (.region [mvD 12 6] [[]] false) (.cond (.tmp 12) (.seq (.region [opD 4 (.mov (cD 0))] [[]] false) .ret) .skip)) (.seq (.region [opD 4 (.mov (.const (.int .i64 (-1))))] [[]] false) .ret)) .skip)) (.seq (.seq (.region [mvD 13 6] [[]] false) (.cond (.tmp 13) (.seq (.region [opD 4 (.mov (cD 1))] [[]] false) .ret) .skip)) (.seq (.seq (.region [mvD 14 0,mvD 15 1,opD 16 (.bin .lss (tD 14) (tD 15))] [[],[],[0,1]] false) (.cond (.tmp 16) (.seq (.region [opD 4 (.mov (.const (.int .i64 (-1))))] [[]] false) .ret) .skip)) (.seq (.seq (.region [mvD 17 0,mvD 18 1,opD 19 (.bin .gtr (tD 17) (tD 18))] [[],[],[0,1]] false) (.cond (.tmp 19) (.seq (.region [opD 4 (.mov (cD 1))] [[]] false) .ret) .skip)) (.seq (.region [opD 4 (.mov (cD 0))] [[]] false) .ret))))))))
theorem g93 (fu:Nat):(e93 fu).Good Try.prog := good_fn orders Try.func93 fu (d93 fu) rs93 20 (l := [e106 fu,e106 fu]) ⟨g106 fu,g106 fu,trivial⟩
def rs70:List RVx := [(.tmp 4)]
def p70 (fu:Nat):((Int)×((Int)×((Bool)×((Int)×(Unit)))))×(((Int)×((Int)×((Bool)×((Int)×(Unit)))))×(Unit))→Option ((Unit)×(Int)) := fun ⟨⟨a,_,_,_,_⟩,⟨c,_,_,_,_⟩,_⟩ =>
Option.bind (p93 fu (a,c,())) fun ⟨_,f⟩ =>
some ((),f)
def e70 (fu:Nat):Ent := ⟨70,(.cons (.agg 4 (.cons (.hole (.int .u64)) (.cons (.hole (.int .u64)) (.cons (.hole .bool) (.cons (.hole (.int .u64)) .nil))))) (.cons (.agg 4 (.cons (.hole (.int .u64)) (.cons (.hole (.int .u64)) (.cons (.hole .bool) (.cons (.hole (.int .u64)) .nil))))) .nil)),.nil,(.hole (.int .i64)),p70 fu⟩
def d70 (fu:Nat):DC := (.seq (.region [opD 2 (.box 39 4 (tD 0)),opD 3 (.box 39 4 (tD 1)),opD 4 (.mov (cD 0))] [[],[],[]] false) (.seq (.region [opD 5 (.faddr 0 (tD 2)),opD 6 (.load false 1 (tD 5)),opD 7 (.faddr 0 (tD 3)),opD 8 (.load false 1 (tD 7)),oqD 9 (.call 93 [(tD 6),(tD 8)]) (.ent (e93 fu)),mvD 4 9] [[],[0],[],[2],[1,3],[4,4,0,1,2,3,4]] false) .ret))
theorem g70 (fu:Nat):(e70 fu).Good Try.prog := good_fn orders Try.func70 fu (d70 fu) rs70 10 (l := [e93 fu]) ⟨g93 fu,trivial⟩
def rs52:List RVx := [(.tmp 2)]
def p52 (_:Nat):(Int)×(Unit)→Option ((Unit)×(Bool)) := fun ⟨a,_⟩ =>
bif decide (a≥(1:Int)) then
 some ((),decide (a≤(9223372036854775807:Int)))
else
 some ((),false)
def e52 (fu:Nat):Ent := ⟨52,(.cons (.hole (.int .u64)) .nil),.nil,(.hole .bool),p52 fu⟩
def d52 (_:Nat):DC := (.seq (.region [opD 2 (.mov (.const vB))] [[]] false) (.seq (.region [mvD 3 0,opD 4 (.bin .geq (tD 3) (.const (.int .u64 1))),mvD 5 4,ogD 6 5 true (.mov (tD 0)),ogD 7 5 true (.bin .leq (tD 6) (.const (.int .u64 9223372036854775807))),opD 8 (.pick (tD 5) (tD 7) (.const vB)),mvD 2 8] [[],[0],[1],[2],[3,2],[2,4],[5,2,0,1,2,3,4,5]] false) .ret))
theorem g52 (fu:Nat):(e52 fu).Good Try.prog := good_fn orders Try.func52 fu (d52 fu) rs52 9 (l := []) trivial
def rs47:List RVx := [(.tmp 2)]
def p47 (fu:Nat):(List (D_api_Producer))×(Unit)→Option ((Unit)×(Bool)) := fun ⟨a,_⟩ =>
loopO (S := ((Int)×(Unit))×(Unit)) fu (fun ⟨⟨c,_⟩,_⟩ =>
 bif decide (c<(List.length a:Int)) then
 bif decide ((0:Int)≤c∧c<(List.length a:Int)) then
 bif decide (Int.toNat c<List.length a) then
 orK (E := ((Bool)×(Unit))×(Unit))
 (bif (c==(0:Int)) then
 some (.inl ((true,()),()))
 else
 bif decide ((0:Int)≤IntKind.wrap .i64 (c-(1:Int))∧IntKind.wrap .i64 (c-(1:Int))<(List.length a:Int)) then
 bif decide (Int.toNat (IntKind.wrap .i64 (c-(1:Int)))<List.length a) then
 Option.bind (p70 fu (((List.getD a (Int.toNat (IntKind.wrap .i64 (c-(1:Int)))) (dflt T_api_Producer)).1,((List.getD a (Int.toNat (IntKind.wrap .i64 (c-(1:Int)))) (dflt T_api_Producer)).2).1,(((List.getD a (Int.toNat (IntKind.wrap .i64 (c-(1:Int)))) (dflt T_api_Producer)).2).2).1,(((List.getD a (Int.toNat (IntKind.wrap .i64 (c-(1:Int)))) (dflt T_api_Producer)).2).2).2,()),((List.getD a (Int.toNat c) (dflt T_api_Producer)).1,((List.getD a (Int.toNat c) (dflt T_api_Producer)).2).1,(((List.getD a (Int.toNat c) (dflt T_api_Producer)).2).2).1,(((List.getD a (Int.toNat c) (dflt T_api_Producer)).2).2).2,()),())) fun ⟨_,f⟩ =>
 some (.inl ((decide (f<(0:Int)),()),()))
 else none
 else none)
 fun ⟨⟨h,_⟩,_⟩ =>
 bif (((List.getD a (Int.toNat c) (dflt T_api_Producer)).1)==(0:Int)) then
 inrO (some ((),false))
 else
 Option.bind (p52 fu (((List.getD a (Int.toNat c) (dflt T_api_Producer)).2).1,())) fun ⟨_,i⟩ =>
 bif !i then
 inrO (some ((),false))
 else
 bif !h then
 inrO (some ((),false))
 else
 bif !((((List.getD a (Int.toNat c) (dflt T_api_Producer)).2).2).1) then
 bif (((((List.getD a (Int.toNat c) (dflt T_api_Producer)).2).2).2) != (0:Int)) then
 inrO (some ((),false))
 else
 some (.inl ((IntKind.wrap .i64 (c+(1:Int)),()),()))
 else
 some (.inl ((IntKind.wrap .i64 (c+(1:Int)),()),()))
 else none
 else none
 else
 inrO (some ((),decide ((List.length a:Int)≤(256:Int)))))
 (((0:Int),()),())
def e47 (fu:Nat):Ent := ⟨47,(.cons (.hole (.sl T_api_Producer)) .nil),.nil,(.hole .bool),p47 fu⟩
def d47 (fu:Nat):DC := (.seq (.region [opD 2 (.mov (.const vB))] [[]] false) (.seq (.seq (.region [mvD 6 0,opD 7 (.len false (tD 6)),opD 8 (.mov (cD 0))] [[],[0],[]] false) (.block 0 (.loop ⟨[8],(.cons (.hole (.int .i64)) .nil),[],.nil,[0,6,7],[]⟩
 (.seq (.region [opD 9 (.bin .lss (tD 8) (tD 7))] [[]] false) (.seq (.cond (.tmp 9) .skip (.exit 0)) (.seq (.block 1 (.seq (.region [mvD 10 8,opD 11 (.iaddr 4 (tD 6) (tD 8)),opD 12 (.load true 4 (tD 11)),opD 4 (.alloc 39 4 [vU,vU,vB,vU]),mvD 3 10,onD (.store 4 (tD 4) (tD 12))] [[],[],[1],[],[0,0,1,2,3],[3,2,4,0,1,2,3,4]] false) (.join ⟨[5],(.cons (.hole .bool) .nil),[],.nil,[0,4,6,7,8],[128]⟩
 (.region [mvD 13 3,opD 14 (.bin .eql (tD 13) (cD 0)),mvD 15 14,ogD 16 15 false (.mov (tD 0)),ogD 17 15 false (.mov (tD 3)),ogD 18 15 false (.bin .sub (tD 17) (cD 1)),ogD 19 15 false (.iaddr 4 (tD 16) (tD 18)),ogD 20 15 false (.load true 4 (tD 19)),ogD 21 15 false (.load true 4 (tD 4)),(⟨(some 22),(some (15,false)),(.call 70 [(tD 20),(tD 21)])⟩,(.ent (e70 fu))),ogD 23 15 false (.bin .lss (tD 22) (cD 0)),opD 24 (.pick (tD 15) (.const (.bool true)) (tD 23)),mvD 5 24] [[],[0],[1],[2],[2],[4,2],[3,5,2],[6,2],[2],[7,8,2,2],[9,2],[2,10],[11,9,0,1,2,3,4,5,6,7,8,9,10,11]] true)
 (.seq (.region [opD 25 (.faddr 0 (tD 4)),opD 26 (.load false 1 (tD 25)),opD 27 (.bin .eql (tD 26) (.const vU)),mvD 28 27,ogD 29 28 false (.faddr 1 (tD 4)),ogD 30 28 false (.load false 1 (tD 29)),(⟨(some 31),(some (28,false)),(.call 52 [(tD 30)])⟩,(.ent (e52 fu))),ogD 32 28 false (.not (tD 31)),opD 33 (.pick (tD 28) (.const (.bool true)) (tD 32)),mvD 34 33,ogD 35 34 false (.mov (tD 5)),ogD 36 34 false (.not (tD 35)),opD 37 (.pick (tD 34) (.const (.bool true)) (tD 36)),mvD 38 37,ogD 39 38 false (.faddr 2 (tD 4)),ogD 40 38 false (.load false 1 (tD 39)),ogD 41 38 false (.not (tD 40)),ogD 42 38 false (.mov (tD 41)),ogD 43 42 true (.faddr 3 (tD 4)),ogD 44 42 true (.load false 1 (tD 43)),ogD 45 42 true (.bin .neq (tD 44) (.const vU)),ogD 46 38 false (.pick (tD 42) (tD 45) (.const vB)),opD 47 (.pick (tD 38) (.const (.bool true)) (tD 46))] [[],[0],[1],[2],[3],[4,3],[5,3,3],[6,3],[3,7],[8,6],[9],[10,9],[9,11],[12,9],[13],[14,13],[15,13],[16,13,13],[17],[18,17],[19,17],[17,20,13],[13,21]] false) (.cond (.tmp 47) (.seq (.region [opD 2 (.mov (.const vB))] [[]] false) .ret) .skip))))) (.region [opD 48 (.bin .add (tD 8) (cD 1)),mvD 8 48] [[],[0]] false))))))) (.seq (.region [mvD 49 0,opD 50 (.len false (tD 49)),opD 51 (.bin .leq (tD 50) (cD 256)),mvD 2 51] [[],[0],[1],[2,0,1,2]] false) .ret)))
theorem g47 (fu:Nat):(e47 fu).Good Try.prog := good_fn orders Try.func47 fu (d47 fu) rs47 52 (l := [e70 fu,e52 fu]) ⟨g70 fu,g52 fu,trivial⟩
def rs90:List RVx := [(.tmp 2)]
def p90 (fu:Nat):(ByteArray)×(Unit)→Option ((Unit)×(Bool)) := fun ⟨a,_⟩ =>
loopO (S := ((Int)×(Unit))×(Unit)) fu (fun ⟨⟨c,_⟩,_⟩ =>
 bif decide (c<(List.length (numsOf a):Int)) then
 bif decide ((0:Int)≤c∧c<(List.length (numsOf a):Int)) then
 bif decide (Int.toNat c<List.length (numsOf a)) then
 bif decide ((List.getD (numsOf a) (Int.toNat c) (dflt (.int .u8)))<(97:Int)) then
 bif decide ((List.getD (numsOf a) (Int.toNat c) (dflt (.int .u8)))<(48:Int)) then
 bif ((List.getD (numsOf a) (Int.toNat c) (dflt (.int .u8))) != (45:Int)) then
 bif ((List.getD (numsOf a) (Int.toNat c) (dflt (.int .u8))) != (95:Int)) then
 bif ((List.getD (numsOf a) (Int.toNat c) (dflt (.int .u8))) != (46:Int)) then
 inrO (some ((),false))
 else
 some (.inl ((IntKind.wrap .i64 (c+(1:Int)),()),()))
 else
 some (.inl ((IntKind.wrap .i64 (c+(1:Int)),()),()))
 else
 some (.inl ((IntKind.wrap .i64 (c+(1:Int)),()),()))
 else
 bif decide ((List.getD (numsOf a) (Int.toNat c) (dflt (.int .u8)))>(57:Int)) then
 bif ((List.getD (numsOf a) (Int.toNat c) (dflt (.int .u8))) != (45:Int)) then
 bif ((List.getD (numsOf a) (Int.toNat c) (dflt (.int .u8))) != (95:Int)) then
 bif ((List.getD (numsOf a) (Int.toNat c) (dflt (.int .u8))) != (46:Int)) then
 inrO (some ((),false))
 else
 some (.inl ((IntKind.wrap .i64 (c+(1:Int)),()),()))
 else
 some (.inl ((IntKind.wrap .i64 (c+(1:Int)),()),()))
 else
 some (.inl ((IntKind.wrap .i64 (c+(1:Int)),()),()))
 else
 some (.inl ((IntKind.wrap .i64 (c+(1:Int)),()),()))
 else
 bif decide ((List.getD (numsOf a) (Int.toNat c) (dflt (.int .u8)))>(122:Int)) then
 bif decide ((List.getD (numsOf a) (Int.toNat c) (dflt (.int .u8)))<(48:Int)) then
 bif ((List.getD (numsOf a) (Int.toNat c) (dflt (.int .u8))) != (45:Int)) then
 bif ((List.getD (numsOf a) (Int.toNat c) (dflt (.int .u8))) != (95:Int)) then
 bif ((List.getD (numsOf a) (Int.toNat c) (dflt (.int .u8))) != (46:Int)) then
 inrO (some ((),false))
 else
 some (.inl ((IntKind.wrap .i64 (c+(1:Int)),()),()))
 else
 some (.inl ((IntKind.wrap .i64 (c+(1:Int)),()),()))
 else
 some (.inl ((IntKind.wrap .i64 (c+(1:Int)),()),()))
 else
 bif decide ((List.getD (numsOf a) (Int.toNat c) (dflt (.int .u8)))>(57:Int)) then
 bif ((List.getD (numsOf a) (Int.toNat c) (dflt (.int .u8))) != (45:Int)) then
 bif ((List.getD (numsOf a) (Int.toNat c) (dflt (.int .u8))) != (95:Int)) then
 bif ((List.getD (numsOf a) (Int.toNat c) (dflt (.int .u8))) != (46:Int)) then
 inrO (some ((),false))
 else
 some (.inl ((IntKind.wrap .i64 (c+(1:Int)),()),()))
 else
 some (.inl ((IntKind.wrap .i64 (c+(1:Int)),()),()))
 else
 some (.inl ((IntKind.wrap .i64 (c+(1:Int)),()),()))
 else
 some (.inl ((IntKind.wrap .i64 (c+(1:Int)),()),()))
 else
 some (.inl ((IntKind.wrap .i64 (c+(1:Int)),()),()))
 else none
 else none
 else
 inrO (bif decide ((ByteArray.size a:Int)≥(1:Int)) then
 some ((),decide ((ByteArray.size a:Int)≤(32:Int)))
 else
 some ((),false)))
 (((0:Int),()),())
def e90 (fu:Nat):Ent := ⟨90,(.cons (.hole .str) .nil),.nil,(.hole .bool),p90 fu⟩
def d90 (_:Nat):DC := (.seq (.region [opD 2 (.mov (.const vB))] [[]] false) (.seq (.seq (.region [mvD 5 0,opD 6 (.s2b 5 (tD 5)),opD 7 (.len false (tD 6)),opD 8 (.mov (cD 0))] [[],[0],[1],[]] false) (.block 0 (.loop ⟨[8],(.cons (.hole (.int .i64)) .nil),[],.nil,[0,6,7],[]⟩
 (.seq (.region [opD 9 (.bin .lss (tD 8) (tD 7))] [[]] false) (.seq (.cond (.tmp 9) .skip (.exit 0)) (.seq (.block 1 (.seq (.region [opD 10 (.iaddr 1 (tD 6) (tD 8)),opD 11 (.load false 1 (tD 10)),mvD 4 11] [[],[0],[1,0,1]] false) (.seq (.region [mvD 12 4,opD 13 (.bin .lss (tD 12) (.const (.int .u8 97))),mvD 14 13,ogD 15 14 false (.mov (tD 4)),ogD 16 14 false (.bin .gtr (tD 15) (.const (.int .u8 122))),opD 17 (.pick (tD 14) (.const (.bool true)) (tD 16)),mvD 18 17,ogD 19 18 true (.mov (tD 4)),ogD 20 18 true (.bin .lss (tD 19) (.const (.int .u8 48))),ogD 21 18 true (.mov (tD 20)),ogD 22 21 false (.mov (tD 4)),ogD 23 21 false (.bin .gtr (tD 22) (.const (.int .u8 57))),ogD 24 18 true (.pick (tD 21) (.const (.bool true)) (tD 23)),opD 25 (.pick (tD 18) (tD 24) (.const vB)),mvD 26 25,ogD 27 26 true (.mov (tD 4)),ogD 28 26 true (.bin .neq (tD 27) (.const (.int .u8 45))),opD 29 (.pick (tD 26) (tD 28) (.const vB)),mvD 30 29,ogD 31 30 true (.mov (tD 4)),ogD 32 30 true (.bin .neq (tD 31) (.const (.int .u8 95))),opD 33 (.pick (tD 30) (tD 32) (.const vB)),mvD 34 33,ogD 35 34 true (.mov (tD 4)),ogD 36 34 true (.bin .neq (tD 35) (.const (.int .u8 46))),opD 37 (.pick (tD 34) (tD 36) (.const vB))] [[],[0],[1],[2],[3,2],[2,4],[5,2],[6],[7,6],[8,6,6],[9],[10,9],[9,11,6],[6,12],[13,9],[14],[15,14],[14,16],[17,14],[18],[19,18],[18,20],[21,18],[22],[23,22],[22,24]] false) (.cond (.tmp 37) (.seq (.region [opD 2 (.mov (.const vB))] [[]] false) .ret) .skip)))) (.region [opD 38 (.bin .add (tD 8) (cD 1)),mvD 8 38] [[],[0]] false))))))) (.seq (.region [mvD 39 0,opD 40 (.len true (tD 39)),opD 41 (.bin .geq (tD 40) (cD 1)),mvD 42 41,ogD 43 42 true (.mov (tD 0)),ogD 44 42 true (.len true (tD 43)),ogD 45 42 true (.bin .leq (tD 44) (cD 32)),opD 46 (.pick (tD 42) (tD 45) (.const vB)),mvD 2 46] [[],[0],[1],[2],[3],[4,3],[5,3],[3,6],[7,3,0,1,2,3,4,5,6,7]] false) .ret)))
theorem g90 (fu:Nat):(e90 fu).Good Try.prog := good_fn orders Try.func90 fu (d90 fu) rs90 47 (l := []) trivial
def rs48:List RVx := [(.tmp 2)]
def p48 (fu:Nat):(List (D_runtime_errorAddressString))×(Unit)→Option ((Unit)×(Bool)) := fun ⟨a,_⟩ =>
loopO (S := ((Int)×(Unit))×(Unit)) fu (fun ⟨⟨c,_⟩,_⟩ =>
 bif decide (c<(List.length a:Int)) then
 bif decide ((0:Int)≤c∧c<(List.length a:Int)) then
 bif decide (Int.toNat c<List.length a) then
 Option.bind (p90 fu ((List.getD a (Int.toNat c) (dflt T_runtime_errorAddressString)).1,())) fun ⟨_,f⟩ =>
 bif !f then
 inrO (some ((),false))
 else
 bif decide (c>(0:Int)) then
 bif decide ((0:Int)≤IntKind.wrap .i64 (c-(1:Int))∧IntKind.wrap .i64 (c-(1:Int))<(List.length a:Int)) then
 bif decide (Int.toNat (IntKind.wrap .i64 (c-(1:Int)))<List.length a) then
 bif !Op.bytesLess (ByteArray.toList ((List.getD a (Int.toNat (IntKind.wrap .i64 (c-(1:Int)))) (dflt T_runtime_errorAddressString)).1)) (ByteArray.toList ((List.getD a (Int.toNat c) (dflt T_runtime_errorAddressString)).1)) then
 inrO (some ((),false))
 else
 some (.inl ((IntKind.wrap .i64 (c+(1:Int)),()),()))
 else none
 else none
 else
 some (.inl ((IntKind.wrap .i64 (c+(1:Int)),()),()))
 else none
 else none
 else
 inrO (some ((),decide ((List.length a:Int)≤(64:Int)))))
 (((0:Int),()),())
def e48 (fu:Nat):Ent := ⟨48,(.cons (.hole (.sl T_runtime_errorAddressString)) .nil),.nil,(.hole .bool),p48 fu⟩
def d48 (fu:Nat):DC := (.seq (.region [opD 2 (.mov (.const vB))] [[]] false) (.seq (.seq (.region [mvD 5 0,opD 6 (.len false (tD 5)),opD 7 (.mov (cD 0))] [[],[0],[]] false) (.block 0 (.loop ⟨[7],(.cons (.hole (.int .i64)) .nil),[],.nil,[0,5,6],[]⟩
 (.seq (.region [opD 8 (.bin .lss (tD 7) (tD 6))] [[]] false) (.seq (.cond (.tmp 8) .skip (.exit 0)) (.seq (.block 1 (.seq (.region [mvD 9 7,opD 10 (.iaddr 2 (tD 5) (tD 7)),opD 11 (.load true 2 (tD 10)),opD 4 (.alloc 41 2 [vT,vU]),mvD 3 9,onD (.store 2 (tD 4) (tD 11))] [[],[],[1],[],[0,0,1,2,3],[3,2,4,0,1,2,3,4]] false) (.seq (.region [opD 12 (.faddr 0 (tD 4)),opD 13 (.load false 1 (tD 12)),oqD 14 (.call 90 [(tD 13)]) (.ent (e90 fu)),opD 15 (.not (tD 14)),mvD 16 15,ogD 17 16 false (.mov (tD 3)),ogD 18 16 false (.bin .gtr (tD 17) (cD 0)),ogD 19 16 false (.mov (tD 18)),ogD 20 19 true (.mov (tD 0)),ogD 21 19 true (.mov (tD 3)),ogD 22 19 true (.bin .sub (tD 21) (cD 1)),ogD 23 19 true (.iaddr 2 (tD 20) (tD 22)),ogD 24 19 true (.faddr 0 (tD 23)),ogD 25 19 true (.load false 1 (tD 24)),ogD 26 19 true (.faddr 0 (tD 4)),ogD 27 19 true (.load false 1 (tD 26)),ogD 28 19 true (.bin .geq (tD 25) (tD 27)),ogD 29 16 false (.pick (tD 19) (tD 28) (.const vB)),opD 30 (.pick (tD 16) (.const (.bool true)) (tD 29))] [[],[0],[1],[2],[3,2],[4],[5,4],[6,4,4],[7],[7],[9,7],[8,10,7],[11,7],[12,7],[7],[14,7],[13,15,7],[7,16,4],[4,17]] true) (.cond (.tmp 30) (.seq (.region [opD 2 (.mov (.const vB))] [[]] false) .ret) .skip)))) (.region [opD 31 (.bin .add (tD 7) (cD 1)),mvD 7 31] [[],[0]] false))))))) (.seq (.region [mvD 32 0,opD 33 (.len false (tD 32)),opD 34 (.bin .leq (tD 33) (cD 64)),mvD 2 34] [[],[0],[1],[2,0,1,2]] false) .ret)))
theorem g48 (fu:Nat):(e48 fu).Good Try.prog := good_fn orders Try.func48 fu (d48 fu) rs48 35 (l := [e90 fu]) ⟨g90 fu,trivial⟩
def rs92:List RVx := [(.tmp 4)]
def p92 (fu:Nat):((Int)×((Int)×((Bool)×((Int)×(Unit)))))×((Int)×(Unit))→Option ((Unit)×(Int)) := fun ⟨⟨a,_,_,_,_⟩,c,_⟩ =>
Option.bind (p93 fu (a,c,())) fun ⟨_,f⟩ =>
some ((),f)
def e92 (fu:Nat):Ent := ⟨92,(.cons (.agg 4 (.cons (.hole (.int .u64)) (.cons (.hole (.int .u64)) (.cons (.hole .bool) (.cons (.hole (.int .u64)) .nil))))) (.cons (.hole (.int .u64)) .nil)),.nil,(.hole (.int .i64)),p92 fu⟩
def d92 (fu:Nat):DC := (.seq (.region [opD 2 (.box 39 4 (tD 0)),opD 4 (.mov (cD 0))] [[],[]] false) (.seq (.region [opD 5 (.faddr 0 (tD 2)),opD 6 (.load false 1 (tD 5)),mvD 7 1,oqD 8 (.call 93 [(tD 6),(tD 7)]) (.ent (e93 fu)),mvD 4 8] [[],[0],[],[1,2],[3,3,0,1,2,3]] false) .ret))
theorem g92 (fu:Nat):(e92 fu).Good Try.prog := good_fn orders Try.func92 fu (d92 fu) rs92 9 (l := [e93 fu]) ⟨g93 fu,trivial⟩
def rs91:List RVx := [(.tmp 6),(.tmp 7)]
def p91 (fu:Nat):(List (D_api_Producer))×((Int)×(((Unit)×(Unit))×(Unit)))→Option ((Unit)×((Int)×((Bool)×(Unit)))) := fun ⟨a,c,⟨_,_⟩,_⟩ =>
loopO (S := ((Int)×((Int)×(Unit)))×(Unit)) fu (fun ⟨⟨f,h,_⟩,_⟩ =>
 bif decide (f<h) then
 bif decide ((0:Int)≤IntKind.wrap .i64 (Int.fdiv (IntKind.wrap .u64 (IntKind.wrap .i64 (f+h))) (2 ^ (min (Int.toNat (1:Int)) (IntKind.bits .u64))))∧IntKind.wrap .i64 (Int.fdiv (IntKind.wrap .u64 (IntKind.wrap .i64 (f+h))) (2 ^ (min (Int.toNat (1:Int)) (IntKind.bits .u64))))<(List.length a:Int)) then
 bif decide (Int.toNat (IntKind.wrap .i64 (Int.fdiv (IntKind.wrap .u64 (IntKind.wrap .i64 (f+h))) (2 ^ (min (Int.toNat (1:Int)) (IntKind.bits .u64)))))<List.length a) then
 Option.bind (p92 fu (((List.getD a (Int.toNat (IntKind.wrap .i64 (Int.fdiv (IntKind.wrap .u64 (IntKind.wrap .i64 (f+h))) (2 ^ (min (Int.toNat (1:Int)) (IntKind.bits .u64)))))) (dflt T_api_Producer)).1,((List.getD a (Int.toNat (IntKind.wrap .i64 (Int.fdiv (IntKind.wrap .u64 (IntKind.wrap .i64 (f+h))) (2 ^ (min (Int.toNat (1:Int)) (IntKind.bits .u64)))))) (dflt T_api_Producer)).2).1,(((List.getD a (Int.toNat (IntKind.wrap .i64 (Int.fdiv (IntKind.wrap .u64 (IntKind.wrap .i64 (f+h))) (2 ^ (min (Int.toNat (1:Int)) (IntKind.bits .u64)))))) (dflt T_api_Producer)).2).2).1,(((List.getD a (Int.toNat (IntKind.wrap .i64 (Int.fdiv (IntKind.wrap .u64 (IntKind.wrap .i64 (f+h))) (2 ^ (min (Int.toNat (1:Int)) (IntKind.bits .u64)))))) (dflt T_api_Producer)).2).2).2,()),c,())) fun ⟨_,i⟩ =>
 bif decide (i<(0:Int)) then
 some (.inl ((IntKind.wrap .i64 ((IntKind.wrap .i64 (Int.fdiv (IntKind.wrap .u64 (IntKind.wrap .i64 (f+h))) (2 ^ (min (Int.toNat (1:Int)) (IntKind.bits .u64)))))+(1:Int)),h,()),()))
 else
 some (.inl ((f,IntKind.wrap .i64 (Int.fdiv (IntKind.wrap .u64 (IntKind.wrap .i64 (f+h))) (2 ^ (min (Int.toNat (1:Int)) (IntKind.bits .u64)))),()),()))
 else none
 else none
 else
 inrO (bif decide (f<(List.length a:Int)) then
 bif decide ((0:Int)≤f∧f<(List.length a:Int)) then
 bif decide (Int.toNat f<List.length a) then
 Option.bind (p92 fu (((List.getD a (Int.toNat f) (dflt T_api_Producer)).1,((List.getD a (Int.toNat f) (dflt T_api_Producer)).2).1,(((List.getD a (Int.toNat f) (dflt T_api_Producer)).2).2).1,(((List.getD a (Int.toNat f) (dflt T_api_Producer)).2).2).2,()),c,())) fun ⟨_,j⟩ =>
 some ((),(f,(j==(0:Int)),()))
 else none
 else none
 else
 some ((),(f,false,()))))
 (((0:Int),(List.length a:Int),()),())
def e91 (fu:Nat):Ent := ⟨91,(.cons (.hole (.sl T_api_Producer)) (.cons (.hole (.int .u64)) (.cons (.clo 92 0 .nil 0 .nil) .nil))),.nil,(.tup 2 (.cons (.hole (.int .i64)) (.cons (.hole .bool) .nil))),p91 fu⟩
def d91 (fu:Nat):DC := (.seq (.region [opD 6 (.mov (cD 0)),opD 7 (.mov (.const vB))] [[],[0]] false) (.seq (.region [mvD 12 0,opD 13 (.len false (tD 12)),mvD 8 13] [[],[0],[1,0,1]] false) (.seq (.region [mvD 14 8,opD 9 (.mov (cD 0)),mvD 10 14] [[],[],[0,1,0,1]] false) (.seq (.block 0 (.loop ⟨[9,10],(.cons (.hole (.int .i64)) (.cons (.hole (.int .i64)) .nil)),[],.nil,[0,1,2,8],[]⟩
 (.seq (.seq (.region [mvD 15 9,mvD 16 10,opD 17 (.bin .lss (tD 15) (tD 16))] [[],[],[0,1]] false) (.cond (.tmp 17) .skip (.exit 0))) (.block 1 (.seq (.region [mvD 18 9,mvD 19 10,opD 20 (.bin .add (tD 18) (tD 19)),opD 21 (.conv .u64 (tD 20)),opD 22 (.bin .shr (tD 21) (.const (.int .u64 1))),opD 23 (.conv .i64 (tD 22)),mvD 11 23] [[],[],[0,1],[2],[3],[4],[5,0,1,2,3,4,5]] false) (.seq (.region [mvD 24 2,mvD 25 0,mvD 26 11,opD 27 (.iaddr 4 (tD 25) (tD 26)),opD 28 (.load true 4 (tD 27)),mvD 29 1,oqD 30 (.callv (tD 24) [(tD 28),(tD 29)]) (.ent (e92 fu)),opD 31 (.bin .lss (tD 30) (cD 0))] [[],[],[],[1,2],[3],[],[0,4,5],[6]] false) (.cond (.tmp 31) (.region [mvD 32 11,opD 33 (.bin .add (tD 32) (cD 1)),mvD 9 33] [[],[0],[1,0,1]] false) (.region [mvD 34 11,mvD 10 34] [[],[0,0]] false)))))))) (.seq (.region [mvD 35 9,mvD 36 9,mvD 37 8,opD 38 (.bin .lss (tD 36) (tD 37)),mvD 39 38,ogD 40 39 true (.mov (tD 2)),ogD 41 39 true (.mov (tD 0)),ogD 42 39 true (.mov (tD 9)),ogD 43 39 true (.iaddr 4 (tD 41) (tD 42)),ogD 44 39 true (.load true 4 (tD 43)),ogD 45 39 true (.mov (tD 1)),(⟨(some 46),(some (39,true)),(.callv (tD 40) [(tD 44),(tD 45)])⟩,(.ent (e92 fu))),ogD 47 39 true (.bin .eql (tD 46) (cD 0)),opD 48 (.pick (tD 39) (tD 47) (.const vB)),mvD 6 35,mvD 7 48] [[],[],[],[1,2],[3],[4],[4],[4],[6,7,4],[8,4],[4],[5,9,10,4,4],[11,4],[4,12],[0,11,0],[13,14,0,1,2,3,4,5,6,7,8,9,10,11,12,13,14]] false) .ret)))))
theorem g91 (fu:Nat):(e91 fu).Good Try.prog := good_fn orders Try.func91 fu (d91 fu) rs91 49 (l := [e92 fu,e92 fu]) ⟨g92 fu,g92 fu,trivial⟩
def rs56:List RVx := [(.tmp 4)]
def p56 (fu:Nat):((ByteArray)×((ByteArray)×(Unit)))×((ByteArray)×(Unit))→Option ((Unit)×(Bool)) := fun ⟨⟨a,c,_⟩,f,_⟩ =>
Option.bind (p45 fu ((a,c,()),())) fun ⟨_,h⟩ =>
bif (h==(0:Int)) then
 Option.bind (p55 fu (f,())) fun ⟨_,i⟩ =>
 bif i then
 bif !Op.bytesLess (ByteArray.toList f) (ByteArray.toList a) then
 Option.bind (p63 fu ((a,c,()),())) fun ⟨_,⟨j,k,_⟩⟩ =>
 Option.bind (p88 fu ((j,k,()),f,())) fun ⟨_,l⟩ =>
 some ((),l)
 else
 some ((),false)
 else
 some ((),false)
else
 some ((),false)
def e56 (fu:Nat):Ent := ⟨56,(.cons (.agg 2 (.cons (.hole .str) (.cons (.hole .str) .nil))) (.cons (.hole .str) .nil)),.nil,(.hole .bool),p56 fu⟩
def d56 (fu:Nat):DC := (.seq (.region [opD 2 (.box 24 2 (tD 0)),opD 4 (.mov (.const vB))] [[],[]] false) (.seq (.region [opD 5 (.load true 2 (tD 2)),oqD 6 (.call 45 [(tD 5)]) (.ent (e45 fu)),opD 7 (.bin .eql (tD 6) (cD 0)),mvD 8 7,ogD 9 8 true (.mov (tD 1)),(⟨(some 10),(some (8,true)),(.call 55 [(tD 9)])⟩,(.ent (e55 fu))),opD 11 (.pick (tD 8) (tD 10) (.const vB)),mvD 12 11,ogD 13 12 true (.mov (tD 1)),ogD 14 12 true (.faddr 0 (tD 2)),ogD 15 12 true (.load false 1 (tD 14)),ogD 16 12 true (.bin .geq (tD 13) (tD 15)),opD 17 (.pick (tD 12) (tD 16) (.const vB)),mvD 18 17,ogD 19 18 true (.load true 2 (tD 2)),(⟨(some 20),(some (18,true)),(.call 63 [(tD 19)])⟩,(.ent (e63 fu))),ogD 21 18 true (.mov (tD 1)),(⟨(some 22),(some (18,true)),(.call 88 [(tD 20),(tD 21)])⟩,(.ent (e88 fu))),opD 23 (.pick (tD 18) (tD 22) (.const vB)),mvD 4 23] [[],[0],[1],[2,1],[3],[4,3,3],[3,5],[6,5],[7],[7],[9,7],[8,10,7],[7,11],[12,7],[13],[14,13,13],[13],[15,16,15,13],[13,17],[18,17,0,1,2,3,4,5,6,7,8,9,10,11,12,13,14,15,16,17,18]] false) .ret))
theorem g56 (fu:Nat):(e56 fu).Good Try.prog := good_fn orders Try.func56 fu (d56 fu) rs56 24 (l := [e45 fu,e55 fu,e63 fu,e88 fu]) ⟨g45 fu,g55 fu,g63 fu,g88 fu,trivial⟩
def rs49:List RVx := [(.tmp 2)]
def p49 (fu:Nat):(Z0)×(Unit)→Option ((Unit)×(Bool)) := fun ⟨⟨a,c,_,_,f,h,_,_⟩,_⟩ =>
bif decide ((0:Int)≤(List.length h:Int)∧((List.length h:Int):Int)≤(List.length h:Int)∧((List.length h:Int):Int)≤9223372036854775807∧(8:Int) * (List.length h:Int)≤140737488355328) then
 bif decide (Int.toNat (List.length h:Int)=List.length (List.replicate (Int.toNat (List.length h:Int)) (0:Int):List (Int))) then
 loopO (S := ((List (Int))×((Int)×(Unit)))×(Unit)) fu (fun ⟨⟨i,j,_⟩,_⟩ =>
 bif decide (j<(List.length f:Int)) then
 bif decide ((0:Int)≤j∧j<(List.length f:Int)) then
 bif decide (Int.toNat j<List.length f) then
 Option.bind (p91 fu (h,((((List.getD f (Int.toNat j) (dflt T_api_Record)).2).2).2).1,((),()),())) fun ⟨_,⟨k,l,_⟩⟩ =>
 bif !l then
 inrO (some ((),false))
 else
 Option.bind (p56 fu ((a,c,()),((List.getD f (Int.toNat j) (dflt T_api_Record)).2).1,())) fun ⟨_,m⟩ =>
 bif !m then
 inrO (some ((),false))
 else
 bif decide ((0:Int)≤k∧k<(List.length i:Int)) then
 bif decide (Int.toNat k<List.length i) then
 bif decide ((((((List.getD f (Int.toNat j) (dflt T_api_Record)).2).2).2).2)≤(List.getD i (Int.toNat k) (dflt (.int .u64)))) then
 inrO (some ((),false))
 else
 bif decide ((0:Int)≤k∧k<(List.length h:Int)) then
 bif decide (Int.toNat k<List.length h) then
 bif decide ((((((List.getD f (Int.toNat j) (dflt T_api_Record)).2).2).2).2)>(((List.getD h (Int.toNat k) (dflt T_api_Producer)).2).1)) then
 inrO (some ((),false))
 else
 bif decide ((0:Int)≤k∧k<(List.length i:Int)) then
 bif decide (Int.toNat k<List.length i) then
 bif decide (List.length i=List.length (List.set i (Int.toNat k) (((((List.getD f (Int.toNat j) (dflt T_api_Record)).2).2).2).2))) then
 some (.inl (((List.set i (Int.toNat k) (((((List.getD f (Int.toNat j) (dflt T_api_Record)).2).2).2).2)),IntKind.wrap .i64 (j+(1:Int)),()),()))
 else none
 else none
 else none
 else none
 else none
 else none
 else none
 else none
 else none
 else
 inrO (some ((),true)))
 (((List.replicate (Int.toNat (List.length h:Int)) (0:Int):List (Int)),(0:Int),()),())
 else none
else none
def e49 (fu:Nat):Ent := ⟨49,(.cons Y3 .nil),.nil,(.hole .bool),p49 fu⟩
def d49 (fu:Nat):DC := (.seq (.region [opD 1 (.box 30 7 (tD 0)),opD 2 (.mov (.const vB))] [[],[]] false) (.seq (.region [opD 8 (.faddr 5 (tD 1)),opD 9 (.load false 1 (tD 8)),opD 10 (.len false (tD 9)),oqD 11 (.make false 25 1 [vU] 8 (tD 10) (tD 10)) (.ty (.int .u64)),mvD 3 11] [[],[0],[1],[2,2],[3,0,1,2,3]] false) (.seq (.seq (.region [opD 12 (.faddr 4 (tD 1)),opD 13 (.load false 1 (tD 12)),opD 14 (.len false (tD 13)),opD 15 (.mov (cD 0))] [[],[0],[1],[]] false) (.block 0 (.loop ⟨[3,15],(.cons (.own .own 25 (.int .u64)) (.cons (.hole (.int .i64)) .nil)),[],.nil,[1,13,14],[0]⟩
 (.seq (.region [opD 16 (.bin .lss (tD 15) (tD 14))] [[]] false) (.seq (.cond (.tmp 16) .skip (.exit 0)) (.seq (.block 1 (.seq (.region [opD 17 (.iaddr 5 (tD 13) (tD 15)),opD 18 (.load true 5 (tD 17)),opD 5 (.alloc 37 5 [vU,vT,vS,vU,vU]),onD (.store 5 (tD 5) (tD 18))] [[],[0],[],[2,1,0,1,2]] false) (.seq (.region [opD 20 (.faddr 5 (tD 1)),opD 21 (.load false 1 (tD 20)),opD 22 (.faddr 3 (tD 5)),opD 23 (.load false 1 (tD 22)),oqD 24 (.call 91 [(tD 21),(tD 23),(.func 92)]) (.ent (e91 fu)),mvD 19 24,opD 25 (.ext (tD 19) 0),opD 26 (.ext (tD 19) 1),mvD 6 25,mvD 7 26] [[],[0],[],[2],[1,3],[4],[5],[5],[6,4,0,1,2,3,4,5,6],[7,8,0,1,2,3,4,5,6,7,8]] false) (.seq (.seq (.region [mvD 27 7,opD 28 (.not (tD 27)),mvD 29 28,ogD 30 29 false (.faddr 0 (tD 1)),ogD 31 29 false (.load true 2 (tD 30)),ogD 32 29 false (.faddr 1 (tD 5)),ogD 33 29 false (.load false 1 (tD 32)),(⟨(some 34),(some (29,false)),(.call 56 [(tD 31),(tD 33)])⟩,(.ent (e56 fu))),ogD 35 29 false (.not (tD 34)),opD 36 (.pick (tD 29) (.const (.bool true)) (tD 35)),mvD 37 36,ogD 38 37 false (.faddr 4 (tD 5)),ogD 39 37 false (.load false 1 (tD 38)),ogD 40 37 false (.mov (tD 3)),ogD 41 37 false (.mov (tD 6)),ogD 42 37 false (.iaddr 1 (tD 40) (tD 41)),ogD 43 37 false (.load false 1 (tD 42)),ogD 44 37 false (.bin .leq (tD 39) (tD 43)),opD 45 (.pick (tD 37) (.const (.bool true)) (tD 44)),mvD 46 45,ogD 47 46 false (.faddr 4 (tD 5)),ogD 48 46 false (.load false 1 (tD 47)),ogD 49 46 false (.faddr 5 (tD 1)),ogD 50 46 false (.load false 1 (tD 49)),ogD 51 46 false (.mov (tD 6)),ogD 52 46 false (.iaddr 4 (tD 50) (tD 51)),ogD 53 46 false (.faddr 1 (tD 52)),ogD 54 46 false (.load false 1 (tD 53)),ogD 55 46 false (.bin .gtr (tD 48) (tD 54)),opD 56 (.pick (tD 46) (.const (.bool true)) (tD 55))] [[],[0],[1],[2],[3,2],[2],[5,2],[4,6,2,2],[7,2],[2,8],[9,7],[10],[11,10],[10],[10],[13,14,10],[15,10],[12,16,10],[10,17],[18,10],[19],[20,19],[19],[22,19],[19],[23,24,19],[25,19],[26,19],[21,27,19],[19,28]] true) (.cond (.tmp 56) (.seq (.region [opD 2 (.mov (.const vB))] [[]] false) .ret) .skip)) (.region [mvD 57 3,mvD 58 6,opD 59 (.faddr 4 (tD 5)),opD 60 (.load false 1 (tD 59)),opD 61 (.iaddr 1 (tD 57) (tD 58)),onD (.store 1 (tD 61) (tD 60))] [[],[],[],[2],[0,1,0,1,2,3],[4,3,0,1,2,3]] false))))) (.region [opD 62 (.bin .add (tD 15) (cD 1)),mvD 15 62] [[],[0]] false))))))) (.seq (.region [opD 2 (.mov (.const (.bool true)))] [[]] false) .ret))))
theorem g49 (fu:Nat):(e49 fu).Good Try.prog := good_fn orders Try.func49 fu (d49 fu) rs49 63 (l := [e91 fu,e56 fu]) ⟨g91 fu,g56 fu,trivial⟩
def rs50:List RVx := [(.tmp 2)]
def p50 (fu:Nat):(Z0)×(Unit)→Option ((Unit)×(Bool)) := fun ⟨⟨_,_,_,_,a,c,_,_⟩,_⟩ =>
loopO (S := ((Int)×(Unit))×(Unit)) fu (fun ⟨⟨f,_⟩,_⟩ =>
 bif decide (f<(List.length c:Int)) then
 bif decide ((0:Int)≤f∧f<(List.length c:Int)) then
 bif decide (Int.toNat f<List.length c) then
 bif !((((List.getD c (Int.toNat f) (dflt T_api_Producer)).2).2).1) then
 some (.inl ((IntKind.wrap .i64 (f+(1:Int)),()),()))
 else
 bif decide (((((List.getD c (Int.toNat f) (dflt T_api_Producer)).2).2).2)≥(IntKind.wrap .u64 (List.length a:Int))) then
 inrO (some ((),false))
 else
 bif decide ((0:Int)≤(((List.getD c (Int.toNat f) (dflt T_api_Producer)).2).2).2∧(((List.getD c (Int.toNat f) (dflt T_api_Producer)).2).2).2<(List.length a:Int)) then
 bif decide (Int.toNat ((((List.getD c (Int.toNat f) (dflt T_api_Producer)).2).2).2)<List.length a) then
 bif ((((((List.getD a (Int.toNat ((((List.getD c (Int.toNat f) (dflt T_api_Producer)).2).2).2)) (dflt T_api_Record)).2).2).2).1) != ((List.getD c (Int.toNat f) (dflt T_api_Producer)).1)) then
 inrO (some ((),false))
 else
 bif ((((((List.getD a (Int.toNat ((((List.getD c (Int.toNat f) (dflt T_api_Producer)).2).2).2)) (dflt T_api_Record)).2).2).2).2) != (((List.getD c (Int.toNat f) (dflt T_api_Producer)).2).1)) then
 inrO (some ((),false))
 else
 some (.inl ((IntKind.wrap .i64 (f+(1:Int)),()),()))
 else none
 else none
 else none
 else none
 else
 inrO (some ((),true)))
 (((0:Int),()),())
def e50 (fu:Nat):Ent := ⟨50,(.cons Y3 .nil),.nil,(.hole .bool),p50 fu⟩
def d50 (_:Nat):DC := (.seq (.region [opD 1 (.box 30 7 (tD 0)),opD 2 (.mov (.const vB))] [[],[]] false) (.seq (.seq (.region [opD 6 (.faddr 5 (tD 1)),opD 7 (.load false 1 (tD 6)),opD 8 (.len false (tD 7)),opD 9 (.mov (cD 0))] [[],[0],[1],[]] false) (.block 0 (.loop ⟨[9],(.cons (.hole (.int .i64)) .nil),[],.nil,[1,7,8],[0]⟩
 (.seq (.region [opD 10 (.bin .lss (tD 9) (tD 8))] [[]] false) (.seq (.cond (.tmp 10) .skip (.exit 0)) (.seq (.block 1 (.seq (.region [opD 11 (.iaddr 4 (tD 7) (tD 9)),opD 12 (.load true 4 (tD 11)),opD 4 (.alloc 39 4 [vU,vU,vB,vU]),onD (.store 4 (tD 4) (tD 12))] [[],[0],[],[2,1,0,1,2]] false) (.seq (.seq (.region [opD 13 (.faddr 2 (tD 4)),opD 14 (.load false 1 (tD 13)),opD 15 (.not (tD 14))] [[],[0],[1]] false) (.cond (.tmp 15) (.exit 1) .skip)) (.seq (.seq (.region [opD 16 (.faddr 3 (tD 4)),opD 17 (.load false 1 (tD 16)),opD 18 (.faddr 4 (tD 1)),opD 19 (.load false 1 (tD 18)),opD 20 (.len false (tD 19)),opD 21 (.conv .u64 (tD 20)),opD 22 (.bin .geq (tD 17) (tD 21))] [[],[0],[],[2],[3],[4],[1,5]] false) (.cond (.tmp 22) (.seq (.region [opD 2 (.mov (.const vB))] [[]] false) .ret) .skip)) (.seq (.region [opD 23 (.faddr 4 (tD 1)),opD 24 (.load false 1 (tD 23)),opD 25 (.faddr 3 (tD 4)),opD 26 (.load false 1 (tD 25)),opD 27 (.iaddr 5 (tD 24) (tD 26)),opD 28 (.load true 5 (tD 27)),opD 5 (.alloc 37 5 [vU,vT,vS,vU,vU]),onD (.store 5 (tD 5) (tD 28))] [[],[0],[],[2],[1,3],[4],[],[6,5,0,1,2,3,4,5,6]] false) (.seq (.region [opD 29 (.faddr 3 (tD 5)),opD 30 (.load false 1 (tD 29)),opD 31 (.faddr 0 (tD 4)),opD 32 (.load false 1 (tD 31)),opD 33 (.bin .neq (tD 30) (tD 32)),mvD 34 33,ogD 35 34 false (.faddr 4 (tD 5)),ogD 36 34 false (.load false 1 (tD 35)),ogD 37 34 false (.faddr 1 (tD 4)),ogD 38 34 false (.load false 1 (tD 37)),ogD 39 34 false (.bin .neq (tD 36) (tD 38)),opD 40 (.pick (tD 34) (.const (.bool true)) (tD 39))] [[],[0],[],[2],[1,3],[4],[5],[6,5],[5],[8,5],[7,9,5],[5,10]] false) (.cond (.tmp 40) (.seq (.region [opD 2 (.mov (.const vB))] [[]] false) .ret) .skip))))))) (.region [opD 41 (.bin .add (tD 9) (cD 1)),mvD 9 41] [[],[0]] false))))))) (.seq (.region [opD 2 (.mov (.const (.bool true)))] [[]] false) .ret)))
theorem g50 (fu:Nat):(e50 fu).Good Try.prog := good_fn orders Try.func50 fu (d50 fu) rs50 42 (l := []) trivial
def rs51:List RVx := [(.tmp 2)]
def p51 (fu:Nat):(Z0)×(Unit)→Option ((Unit)×(Bool)) := fun ⟨⟨_,_,_,_,a,_,c,_⟩,_⟩ =>
loopO (S := ((Int)×(Unit))×(Unit)) fu (fun ⟨⟨f,_⟩,_⟩ =>
 bif decide (f<(List.length c:Int)) then
 bif decide ((0:Int)≤f∧f<(List.length c:Int)) then
 bif decide (Int.toNat f<List.length c) then
 bif decide (((List.getD c (Int.toNat f) (dflt T_runtime_errorAddressString)).2)>(IntKind.wrap .u64 (List.length a:Int))) then
 inrO (some ((),false))
 else
 some (.inl ((IntKind.wrap .i64 (f+(1:Int)),()),()))
 else none
 else none
 else
 inrO (some ((),true)))
 (((0:Int),()),())
def e51 (fu:Nat):Ent := ⟨51,(.cons Y3 .nil),.nil,(.hole .bool),p51 fu⟩
def d51 (_:Nat):DC := (.seq (.region [opD 1 (.box 30 7 (tD 0)),opD 2 (.mov (.const vB))] [[],[]] false) (.seq (.seq (.region [opD 5 (.faddr 6 (tD 1)),opD 6 (.load false 1 (tD 5)),opD 7 (.len false (tD 6)),opD 8 (.mov (cD 0))] [[],[0],[1],[]] false) (.block 0 (.loop ⟨[8],(.cons (.hole (.int .i64)) .nil),[],.nil,[1,6,7],[0]⟩
 (.seq (.region [opD 9 (.bin .lss (tD 8) (tD 7))] [[]] false) (.seq (.cond (.tmp 9) .skip (.exit 0)) (.seq (.block 1 (.seq (.region [opD 10 (.iaddr 2 (tD 6) (tD 8)),opD 11 (.load true 2 (tD 10)),opD 4 (.alloc 41 2 [vT,vU]),onD (.store 2 (tD 4) (tD 11))] [[],[0],[],[2,1,0,1,2]] false) (.seq (.region [opD 12 (.faddr 1 (tD 4)),opD 13 (.load false 1 (tD 12)),opD 14 (.faddr 4 (tD 1)),opD 15 (.load false 1 (tD 14)),opD 16 (.len false (tD 15)),opD 17 (.conv .u64 (tD 16)),opD 18 (.bin .gtr (tD 13) (tD 17))] [[],[0],[],[2],[3],[4],[1,5]] false) (.cond (.tmp 18) (.seq (.region [opD 2 (.mov (.const vB))] [[]] false) .ret) .skip)))) (.region [opD 19 (.bin .add (tD 8) (cD 1)),mvD 8 19] [[],[0]] false))))))) (.seq (.region [opD 2 (.mov (.const (.bool true)))] [[]] false) .ret)))
theorem g51 (fu:Nat):(e51 fu).Good Try.prog := good_fn orders Try.func51 fu (d51 fu) rs51 20 (l := []) trivial
def rs16:List RVx := [(.tmp 2)]
def p16 (fu:Nat):(Z0)×(Unit)→Option ((Unit)×(Int)) := fun ⟨⟨a,c,f,h,i,j,k,_⟩,_⟩ =>
orK (E := ((Bool)×(Unit))×(Unit))
 (Option.bind (p45 fu ((a,c,()),())) fun ⟨_,l⟩ =>
 bif (l==(0:Int)) then
 bif (f != (0:Int)) then
 Option.bind (p46 fu (i,())) fun ⟨_,m⟩ =>
 bif m then
 Option.bind (p47 fu (j,())) fun ⟨_,n⟩ =>
 bif n then
 Option.bind (p48 fu (k,())) fun ⟨_,o⟩ =>
 bif o then
 Option.bind (p49 fu ((a,c,f,h,i,j,k,()),())) fun ⟨_,q⟩ =>
 bif q then
 Option.bind (p50 fu ((a,c,f,h,i,j,k,()),())) fun ⟨_,s⟩ =>
 bif s then
 Option.bind (p51 fu ((a,c,f,h,i,j,k,()),())) fun ⟨_,t⟩ =>
 some (.inl ((t,()),()))
 else
 some (.inl ((false,()),()))
 else
 some (.inl ((false,()),()))
 else
 some (.inl ((false,()),()))
 else
 some (.inl ((false,()),()))
 else
 some (.inl ((false,()),()))
 else
 some (.inl ((false,()),()))
 else
 some (.inl ((false,()),())))
 fun ⟨⟨u,_⟩,_⟩ =>
bif !u then
 some ((),(165:Int))
else
 some ((),(0:Int))
def e16 (fu:Nat):Ent := ⟨16,(.cons Y3 .nil),.nil,(.hole (.int .i64)),p16 fu⟩
def d16 (fu:Nat):DC := (.seq (.region [opD 1 (.box 30 7 (tD 0)),opD 2 (.mov (cD 0))] [[],[]] false) (.join ⟨[3],(.cons (.hole .bool) .nil),[],.nil,[],[]⟩
 (.region [opD 4 (.faddr 0 (tD 1)),opD 5 (.load true 2 (tD 4)),oqD 6 (.call 45 [(tD 5)]) (.ent (e45 fu)),opD 7 (.bin .eql (tD 6) (cD 0)),mvD 8 7,ogD 9 8 true (.faddr 2 (tD 1)),ogD 10 8 true (.load false 1 (tD 9)),ogD 11 8 true (.bin .neq (tD 10) (.const vU)),opD 12 (.pick (tD 8) (tD 11) (.const vB)),mvD 13 12,ogD 14 13 true (.faddr 4 (tD 1)),ogD 15 13 true (.load false 1 (tD 14)),(⟨(some 16),(some (13,true)),(.call 46 [(tD 15)])⟩,(.ent (e46 fu))),opD 17 (.pick (tD 13) (tD 16) (.const vB)),mvD 18 17,ogD 19 18 true (.faddr 5 (tD 1)),ogD 20 18 true (.load false 1 (tD 19)),(⟨(some 21),(some (18,true)),(.call 47 [(tD 20)])⟩,(.ent (e47 fu))),opD 22 (.pick (tD 18) (tD 21) (.const vB)),mvD 23 22,ogD 24 23 true (.faddr 6 (tD 1)),ogD 25 23 true (.load false 1 (tD 24)),(⟨(some 26),(some (23,true)),(.call 48 [(tD 25)])⟩,(.ent (e48 fu))),opD 27 (.pick (tD 23) (tD 26) (.const vB)),mvD 28 27,ogD 29 28 true (.load true 7 (tD 1)),(⟨(some 30),(some (28,true)),(.call 49 [(tD 29)])⟩,(.ent (e49 fu))),opD 31 (.pick (tD 28) (tD 30) (.const vB)),mvD 32 31,ogD 33 32 true (.load true 7 (tD 1)),(⟨(some 34),(some (32,true)),(.call 50 [(tD 33)])⟩,(.ent (e50 fu))),opD 35 (.pick (tD 32) (tD 34) (.const vB)),mvD 36 35,ogD 37 36 true (.load true 7 (tD 1)),(⟨(some 38),(some (36,true)),(.call 51 [(tD 37)])⟩,(.ent (e51 fu))),opD 39 (.pick (tD 36) (tD 38) (.const vB)),mvD 3 39] [[],[0],[1],[2],[3,2],[4],[5,4],[6,4],[4,7],[8,4],[9],[10,9],[11,9,9],[9,12],[13,12],[14],[15,14],[16,14,14],[14,17],[18,17],[19],[20,19],[21,19,19],[19,22],[23,22],[24],[25,24,24],[24,26],[27,26],[28],[29,28,28],[28,30],[31,30],[32],[33,32,32],[32,34],[35,34,0,1,2,3,4,5,6,7,8,9,10,11,12,13,14,15,16,17,18,19,20,21,22,23,24,25,26,27,28,29,30,31,32,33,34,35]] false)
 (.seq (.seq (.region [mvD 40 3,opD 41 (.not (tD 40))] [[],[0]] false) (.cond (.tmp 41) (.seq (.region [opD 2 (.mov (cD 165))] [[]] false) .ret) .skip)) (.seq (.region [opD 2 (.mov (cD 0))] [[]] false) .ret))))
theorem g16 (fu:Nat):(e16 fu).Good Try.prog := good_fn orders Try.func16 fu (d16 fu) rs16 42 (l := [e45 fu,e46 fu,e47 fu,e48 fu,e49 fu,e50 fu,e51 fu]) ⟨g45 fu,g46 fu,g47 fu,g48 fu,g49 fu,g50 fu,g51 fu,trivial⟩
def rs19:List RVx := [(.tmp 2)]
def p19 (fu:Nat):(List (D_api_Part))×(Unit)→Option ((Unit)×(Int)) := fun ⟨a,_⟩ =>
loopO (S := ((Int)×(Unit))×(Unit)) fu (fun ⟨⟨c,_⟩,_⟩ =>
 bif decide (c<(List.length a:Int)) then
 bif decide ((0:Int)≤c∧c<(List.length a:Int)) then
 bif decide (Int.toNat c<List.length a) then
 Option.bind (p16 fu ((((List.getD a (Int.toNat c) (dflt T_api_Part)).1).1,((List.getD a (Int.toNat c) (dflt T_api_Part)).1).2,((List.getD a (Int.toNat c) (dflt T_api_Part)).2).1,(((List.getD a (Int.toNat c) (dflt T_api_Part)).2).2).1,((((List.getD a (Int.toNat c) (dflt T_api_Part)).2).2).2).1,(((((List.getD a (Int.toNat c) (dflt T_api_Part)).2).2).2).2).1,(((((List.getD a (Int.toNat c) (dflt T_api_Part)).2).2).2).2).2,()),())) fun ⟨_,f⟩ =>
 Option.bind (pIsN fu (f,(165:Int),())) fun ⟨_,h⟩ =>
 bif h then
 inrO (some ((),(172:Int)))
 else
 bif ((((List.getD a (Int.toNat c) (dflt T_api_Part)).2).1)==(18446744073709551615:Int)) then
 inrO (some ((),(172:Int)))
 else
 some (.inl ((IntKind.wrap .i64 (c+(1:Int)),()),()))
 else none
 else none
 else
 inrO (loopO (S := ((Int)×(Unit))×(Unit)) fu (fun ⟨⟨i,_⟩,_⟩ =>
 bif decide (i<(List.length a:Int)) then
 bif decide ((0:Int)≤i∧i<(List.length a:Int)) then
 bif decide (Int.toNat i<List.length a) then
 bif (((((List.getD a (Int.toNat i) (dflt T_api_Part)).2).2).1)==(0:Int)) then
 inrO (some ((),(171:Int)))
 else
 some (.inl ((IntKind.wrap .i64 (i+(1:Int)),()),()))
 else none
 else none
 else
 inrO (some ((),(0:Int))))
 (((0:Int),()),())))
 (((0:Int),()),())
def e19 (fu:Nat):Ent := ⟨19,(.cons (.hole (.sl T_api_Part)) .nil),.nil,(.hole (.int .i64)),p19 fu⟩
def d19 (fu:Nat):DC := (.seq (.region [opD 2 (.mov (cD 0))] [[]] false) (.seq (.seq (.region [mvD 7 0,opD 8 (.len false (tD 7)),opD 9 (.mov (cD 0))] [[],[0],[]] false) (.block 0 (.loop ⟨[9],(.cons (.hole (.int .i64)) .nil),[],.nil,[0,7,8],[]⟩
 (.seq (.region [opD 10 (.bin .lss (tD 9) (tD 8))] [[]] false) (.seq (.cond (.tmp 10) .skip (.exit 0)) (.seq (.block 1 (.seq (.region [opD 11 (.iaddr 7 (tD 7) (tD 9)),opD 12 (.load true 7 (tD 11)),opD 4 (.alloc 30 7 [vT,vT,vU,vU,vS,vS,vS]),onD (.store 7 (tD 4) (tD 12))] [[],[0],[],[2,1,0,1,2]] false) (.seq (.region [opD 13 (.load true 7 (tD 4)),oqD 14 (.call 16 [(tD 13)]) (.ent (e16 fu)),opD 15 (.ifc 31 (tD 14)),opD 16 (.ifc 31 (cD 165)),oqD 17 (.call 36 [(tD 15),(tD 16)]) (.ent (eIsN fu)),mvD 18 17,ogD 19 18 false (.faddr 2 (tD 4)),ogD 20 18 false (.load false 1 (tD 19)),ogD 21 18 false (.bin .eql (tD 20) (.const (.int .u64 18446744073709551615))),opD 22 (.pick (tD 18) (.const (.bool true)) (tD 21))] [[],[0],[1],[],[2,3,1],[4,4],[5],[6,5],[7,5],[5,8]] false) (.cond (.tmp 22) (.seq (.region [opD 2 (.mov (cD 172))] [[]] false) .ret) .skip)))) (.region [opD 23 (.bin .add (tD 9) (cD 1)),mvD 9 23] [[],[0]] false))))))) (.seq (.seq (.region [mvD 24 0,opD 25 (.len false (tD 24)),opD 26 (.mov (cD 0))] [[],[0],[]] false) (.block 2 (.loop ⟨[26],(.cons (.hole (.int .i64)) .nil),[],.nil,[24,25],[]⟩
 (.seq (.region [opD 27 (.bin .lss (tD 26) (tD 25))] [[]] false) (.seq (.cond (.tmp 27) .skip (.exit 2)) (.seq (.block 3 (.seq (.region [opD 28 (.iaddr 7 (tD 24) (tD 26)),opD 29 (.load true 7 (tD 28)),opD 6 (.alloc 30 7 [vT,vT,vU,vU,vS,vS,vS]),onD (.store 7 (tD 6) (tD 29))] [[],[0],[],[2,1,0,1,2]] false) (.seq (.region [opD 30 (.faddr 3 (tD 6)),opD 31 (.load false 1 (tD 30)),opD 32 (.bin .eql (tD 31) (.const vU))] [[],[0],[1]] false) (.cond (.tmp 32) (.seq (.region [opD 2 (.mov (cD 171))] [[]] false) .ret) .skip)))) (.region [opD 33 (.bin .add (tD 26) (cD 1)),mvD 26 33] [[],[0]] false))))))) (.seq (.region [opD 2 (.mov (cD 0))] [[]] false) .ret))))
theorem g19 (fu:Nat):(e19 fu).Good Try.prog := good_fn orders Try.func19 fu (d19 fu) rs19 34 (l := [e16 fu,eIsN fu]) ⟨g16 fu,gIsN fu,trivial⟩
def rs20:List RVx := [(.cell 4 true 2),(.cell 5 true 2),(.tmp 6)]
def p20 (fu:Nat):((ByteArray)×((ByteArray)×(Unit)))×((ByteArray)×(Unit))→Option ((Unit)×(((ByteArray)×((ByteArray)×(Unit)))×(((ByteArray)×((ByteArray)×(Unit)))×((Int)×(Unit))))) := fun ⟨⟨a,c,_⟩,f,_⟩ =>
Option.bind (p45 fu ((a,c,()),())) fun ⟨_,h⟩ =>
orK (E := ((Int)×(Unit))×(Unit))
 (bif (h != (0:Int)) then
 some (.inl ((h,()),()))
 else
 Option.bind (p55 fu (f,())) fun ⟨_,i⟩ =>
 bif !i then
 some (.inl (((131:Int),()),()))
 else
 bif (Op.bytesLess (ByteArray.toList f) (ByteArray.toList a)||ByteArray.toList f==ByteArray.toList a) then
 some (.inl (((132:Int),()),()))
 else
 Option.bind (p56 fu ((a,c,()),f,())) fun ⟨_,j⟩ =>
 bif !j then
 some (.inl (((132:Int),()),()))
 else
 some (.inl ((h,()),())))
 fun ⟨⟨k,_⟩,_⟩ =>
bif (k != (0:Int)) then
 some ((),(((⟨#[]⟩:ByteArray),(⟨#[]⟩:ByteArray),()),((⟨#[]⟩:ByteArray),(⟨#[]⟩:ByteArray),()),k,()))
else
 some ((),((a,f,()),(f,c,()),(0:Int),()))
def e20 (fu:Nat):Ent := ⟨20,(.cons (.agg 2 (.cons (.hole .str) (.cons (.hole .str) .nil))) (.cons (.hole .str) .nil)),.nil,Y4,p20 fu⟩
def d20 (fu:Nat):DC := (.seq (.region [opD 2 (.box 24 2 (tD 0)),opD 4 (.alloc 24 2 [vT,vT]),opD 5 (.alloc 24 2 [vT,vT]),opD 6 (.mov (cD 0))] [[],[],[],[]] false) (.seq (.region [opD 8 (.load true 2 (tD 2)),oqD 9 (.call 45 [(tD 8)]) (.ent (e45 fu)),mvD 7 9] [[],[0],[1,1,0,1]] false) (.join ⟨[7],(.cons (.hole (.int .i64)) .nil),[],.nil,[1,2,4,5],[0,16,32]⟩
 (.block 0 (.seq (.region [mvD 11 7,opD 12 (.bin .neq (tD 11) (cD 0)),mvD 10 12] [[],[0],[1]] false) (.cond (.tmp 10) .skip (.seq (.region [mvD 14 1,oqD 15 (.call 55 [(tD 14)]) (.ent (e55 fu)),opD 16 (.not (tD 15)),mvD 13 16] [[],[0],[1],[2,1]] false) (.cond (.tmp 13) (.region [opD 7 (.mov (cD 131))] [[]] false) (.seq (.region [mvD 18 1,opD 19 (.faddr 0 (tD 2)),opD 20 (.load false 1 (tD 19)),opD 21 (.bin .leq (tD 18) (tD 20)),mvD 22 21,ogD 23 22 false (.load true 2 (tD 2)),ogD 24 22 false (.mov (tD 1)),(⟨(some 25),(some (22,false)),(.call 56 [(tD 23),(tD 24)])⟩,(.ent (e56 fu))),ogD 26 22 false (.not (tD 25)),opD 27 (.pick (tD 22) (.const (.bool true)) (tD 26)),mvD 17 27] [[],[],[1],[0,2],[3],[4],[4],[5,6,4,4],[7,4],[4,8],[9,7]] false) (.cond (.tmp 17) (.region [opD 7 (.mov (cD 132))] [[]] false) .skip)))))))
 (.seq (.seq (.region [mvD 28 7,opD 29 (.bin .neq (tD 28) (cD 0))] [[],[0]] false) (.cond (.tmp 29) (.seq (.region [opD 30 (.build 2 [vT,vT] []),opD 31 (.build 2 [vT,vT] []),mvD 32 7,onD (.store 2 (tD 4) (tD 30)),onD (.store 2 (tD 5) (tD 31)),mvD 6 32] [[],[],[],[0,0],[1,3,0,1,3],[2,4,0,1,2,3,4]] false) .ret) .skip)) (.seq (.region [opD 33 (.faddr 0 (tD 2)),opD 34 (.load false 1 (tD 33)),mvD 35 1,opD 36 (.build 2 [vT,vT] [(0,(1,(tD 34))),(1,(1,(tD 35)))]),mvD 37 1,opD 38 (.faddr 1 (tD 2)),opD 39 (.load false 1 (tD 38)),opD 40 (.build 2 [vT,vT] [(0,(1,(tD 37))),(1,(1,(tD 39)))]),onD (.store 2 (tD 4) (tD 36)),onD (.store 2 (tD 5) (tD 40)),opD 6 (.mov (cD 0))] [[],[0],[],[1,2],[],[],[5],[4,6],[3,0,1,2,3],[7,8,0,1,2,3,4,5,6,7,8],[9,0,1,2,3,4,5,6,7,8,9]] true) .ret)))))
theorem g20 (fu:Nat):(e20 fu).Good Try.prog := good_fn orders Try.func20 fu (d20 fu) rs20 41 (l := [e45 fu,e55 fu,e56 fu]) ⟨g45 fu,g55 fu,g56 fu,trivial⟩
def rs107:List RVx := [(.tmp 2)]
def p107 (_:Nat):(List (Int))×(Unit)→Option ((Unit)×(List (Int))) := fun ⟨a,_⟩ =>
bif ((List.length a:Int)==(0:Int)) then
 some ((),[])
else
 bif decide ((0:Int)≤(List.length a:Int)∧((List.length a:Int):Int)≤(List.length a:Int)∧((List.length a:Int):Int)≤9223372036854775807∧(1:Int) * (List.length a:Int)≤140737488355328) then
 bif decide (Int.toNat (List.length a:Int)=List.length (List.replicate (Int.toNat (List.length a:Int)) (0:Int):List (Int))) then
 bif decide (Int.toNat (List.length a:Int)=List.length (copyL (List.replicate (Int.toNat (List.length a:Int)) (0:Int):List (Int)) 0 (Int.toNat (List.length a:Int)) a)) then
 some ((),(copyL (List.replicate (Int.toNat (List.length a:Int)) (0:Int):List (Int)) 0 (Int.toNat (List.length a:Int)) a))
 else none
 else none
 else none
def e107 (fu:Nat):Ent := ⟨107,(.cons (.hole (.sl (.int .u8))) .nil),.nil,(.own .own 5 (.int .u8)),p107 fu⟩
def d107 (_:Nat):DC := (.seq (.region [opD 2 (.mov (.const vS))] [[]] false) (.seq (.seq (.region [mvD 4 0,opD 5 (.len false (tD 4)),opD 6 (.bin .eql (tD 5) (cD 0))] [[],[0],[1]] false) (.cond (.tmp 6) (.seq (.region [opD 2 (.mov (.const vS))] [[]] false) .ret) .skip)) (.seq (.region [mvD 7 0,opD 8 (.len false (tD 7)),oqD 9 (.make false 5 1 [(.int .u8 0)] 1 (tD 8) (tD 8)) (.ty (.int .u8)),mvD 3 9] [[],[0],[1,1],[2,0,1,2]] false) (.seq (.region [mvD 10 3,mvD 11 0,opD 12 (.copy 1 (tD 10) (tD 11))] [[],[],[0,1]] false) (.seq (.region [mvD 13 3,mvD 2 13] [[],[0,0]] false) .ret)))))
theorem g107 (fu:Nat):(e107 fu).Good Try.prog := good_fn orders Try.func107 fu (d107 fu) rs107 14 (l := []) trivial
def rs94:List RVx := [(.cell 2 true 5)]
def p94 (fu:Nat):((Int)×((ByteArray)×((List (Int))×((Int)×((Int)×(Unit))))))×(Unit)→Option ((Unit)×((Int)×((ByteArray)×((List (Int))×((Int)×((Int)×(Unit))))))) := fun ⟨⟨a,c,f,h,i,_⟩,_⟩ =>
Option.bind (p107 fu (f,())) fun ⟨_,j⟩ =>
bif decide (List.length j=List.length j) then
 some ((),(a,c,j,h,i,()))
else none
def e94 (fu:Nat):Ent := ⟨94,(.cons Y2 .nil),.nil,Y5,p94 fu⟩
def d94 (fu:Nat):DC := (.seq (.region [opD 1 (.box 37 5 (tD 0)),opD 2 (.alloc 37 5 [vU,vT,vS,vU,vU])] [[],[]] false) (.seq (.region [opD 3 (.faddr 2 (tD 1)),opD 4 (.load false 1 (tD 3)),oqD 5 (.call 107 [(tD 4)]) (.ent (e107 fu)),opD 6 (.faddr 2 (tD 1)),onD (.store 1 (tD 6) (tD 5))] [[],[0],[1],[0,1,2],[3,2,2,0,1,2]] false) (.seq (.region [opD 7 (.load true 5 (tD 1)),onD (.store 5 (tD 2) (tD 7))] [[],[0,0]] false) .ret)))
theorem g94 (fu:Nat):(e94 fu).Good Try.prog := good_fn orders Try.func94 fu (d94 fu) rs94 8 (l := [e107 fu]) ⟨g107 fu,trivial⟩
def rs57:List RVx := [(.tmp 4)]
def p57_1 (fu:Nat):(List (D_api_Record))×(((Int)×((ByteArray)×((List (Int))×((Int)×((Int)×(Unit))))))×(Unit))→Option (((Unit)×(Unit))×(List (D_api_Record))) := fun ⟨a,⟨c,f,h,i,j,_⟩,_⟩ =>
Option.bind (p94 fu ((c,f,h,i,j,()),())) fun ⟨_,⟨_,k,l,m,n,_⟩⟩ =>
bif decide (List.length l=List.length l) then
 bif decide (List.length a=List.length a) then
 bif decide (List.length a+List.length ([(IntKind.wrap .u64 ((List.length a):Int),k,l,m,n)])≤maxLen∧(List.length a+List.length ([(IntKind.wrap .u64 ((List.length a):Int),k,l,m,n)])) * 64≤140737488355328) then
 bif decide (List.length (a ++ [(IntKind.wrap .u64 ((List.length a):Int),k,l,m,n)])=List.length (a ++ [(IntKind.wrap .u64 ((List.length a):Int),k,l,m,n)])) then
 some (((),()),(a ++ [(IntKind.wrap .u64 ((List.length a):Int),k,l,m,n)]))
 else none
 else none
 else none
else none
def e57_1 (fu:Nat):Ent := ⟨57,(.cons (.own .own 37 T_api_Record) (.cons Y2 .nil)),(.cons .dead .nil),(.own .own 37 T_api_Record),p57_1 fu⟩
def d57_1 (fu:Nat):DC := (.seq (.region [opD 3 (.box 37 5 (tD 1)),opD 4 (.mov (.const vS))] [[],[]] false) (.seq (.region [opD 5 (.load true 5 (tD 3)),oqD 6 (.call 94 [(tD 5)]) (.ent (e94 fu)),onD (.store 5 (tD 3) (tD 6))] [[],[0],[1,1,0,1]] false) (.seq (.region [mvD 7 0,opD 8 (.len false (tD 7)),opD 9 (.conv .u64 (tD 8)),opD 10 (.faddr 0 (tD 3)),onD (.store 1 (tD 10) (tD 9))] [[],[0],[1],[0,1,2],[3,2,0,1,2]] false) (.seq (.region [mvD 11 0,opD 12 (.load true 5 (tD 3)),oqD 13 (.bslice 37 5 1 [vU,vT,vS,vU,vU] [(0,(tD 12))]) (.ty T_api_Record),oqD 14 (.app 37 5 [vU,vT,vS,vU,vU] 64 (tD 11) (tD 13)) (.ty T_api_Record),mvD 4 14] [[],[],[1],[0,2],[3,3,0,1,2,3]] false) .ret))))
theorem g57_1 (fu:Nat):(e57_1 fu).Good Try.prog := good_fn orders Try.func57 fu (d57_1 fu) rs57 15 (l := [e94 fu]) ⟨g94 fu,trivial⟩
def rs22:List RVx := [(.tmp 4),(.tmp 5)]
def p22 (fu:Nat):(List (D_api_Record))×(((ByteArray)×((ByteArray)×(Unit)))×(Unit))→Option ((Unit)×((List (D_api_Record))×((List (Int))×(Unit)))) := fun ⟨a,⟨c,f,_⟩,_⟩ =>
Option.bind (p46 fu (a,())) fun ⟨_,h⟩ =>
bif !h then
 some ((),([],[],()))
else
 Option.bind (p45 fu ((c,f,()),())) fun ⟨_,i⟩ =>
 bif (i != (0:Int)) then
 some ((),([],[],()))
 else
 loopO (S := ((List (D_api_Record))×((List (Int))×((Int)×(Unit))))×(Unit)) fu (fun ⟨⟨j,k,l,_⟩,_⟩ =>
 bif decide (l<(List.length a:Int)) then
 bif decide ((0:Int)≤l∧l<(List.length a:Int)) then
 bif decide (Int.toNat l<List.length a) then
 bif decide (List.length k=List.length k) then
 bif decide (List.length k+List.length ([IntKind.wrap .u64 ((List.length j):Int)])≤maxLen∧(List.length k+List.length ([IntKind.wrap .u64 ((List.length j):Int)])) * 8≤140737488355328) then
 Option.bind (p56 fu ((c,f,()),((List.getD a (Int.toNat l) (dflt T_api_Record)).2).1,())) fun ⟨_,m⟩ =>
 bif m then
 bif decide (List.length j=List.length j) then
 Option.bind (p57_1 fu (j,((List.getD a (Int.toNat l) (dflt T_api_Record)).1,((List.getD a (Int.toNat l) (dflt T_api_Record)).2).1,(((List.getD a (Int.toNat l) (dflt T_api_Record)).2).2).1,((((List.getD a (Int.toNat l) (dflt T_api_Record)).2).2).2).1,((((List.getD a (Int.toNat l) (dflt T_api_Record)).2).2).2).2,()),())) fun ⟨⟨_,_⟩,n⟩ =>
 bif decide (List.length n=List.length n) then
 bif decide (List.length (k ++ [IntKind.wrap .u64 ((List.length j):Int)])=List.length (k ++ [IntKind.wrap .u64 ((List.length j):Int)])) then
 some (.inl ((n,(k ++ [IntKind.wrap .u64 ((List.length j):Int)]),IntKind.wrap .i64 (l+(1:Int)),()),()))
 else none
 else none
 else none
 else
 bif decide (List.length j=List.length j) then
 bif decide (List.length (k ++ [IntKind.wrap .u64 ((List.length j):Int)])=List.length (k ++ [IntKind.wrap .u64 ((List.length j):Int)])) then
 some (.inl ((j,(k ++ [IntKind.wrap .u64 ((List.length j):Int)]),IntKind.wrap .i64 (l+(1:Int)),()),()))
 else none
 else none
 else none
 else none
 else none
 else none
 else
 inrO (bif decide (List.length k=List.length k) then
 bif decide (List.length k+List.length ([IntKind.wrap .u64 ((List.length j):Int)])≤maxLen∧(List.length k+List.length ([IntKind.wrap .u64 ((List.length j):Int)])) * 8≤140737488355328) then
 bif decide (List.length j=List.length j) then
 bif decide (List.length (k ++ [IntKind.wrap .u64 ((List.length j):Int)])=List.length (k ++ [IntKind.wrap .u64 ((List.length j):Int)])) then
 some ((),(j,(k ++ [IntKind.wrap .u64 ((List.length j):Int)]),()))
 else none
 else none
 else none
 else none))
 (([],[],(0:Int),()),())
def e22 (fu:Nat):Ent := ⟨22,(.cons (.hole (.sl T_api_Record)) (.cons (.agg 2 (.cons (.hole .str) (.cons (.hole .str) .nil))) .nil)),.nil,(.tup 2 (.cons (.own .own 37 T_api_Record) (.cons (.own .own 25 (.int .u64)) .nil))),p22 fu⟩
def d22 (fu:Nat):DC := (.seq (.region [opD 3 (.box 24 2 (tD 1)),opD 4 (.mov (.const vS)),opD 5 (.mov (.const vS))] [[],[],[1]] false) (.seq (.seq (.region [mvD 10 0,oqD 11 (.call 46 [(tD 10)]) (.ent (e46 fu)),opD 12 (.not (tD 11)),mvD 13 12,ogD 14 13 false (.load true 2 (tD 3)),(⟨(some 15),(some (13,false)),(.call 45 [(tD 14)])⟩,(.ent (e45 fu))),ogD 16 13 false (.bin .neq (tD 15) (cD 0)),opD 17 (.pick (tD 13) (.const (.bool true)) (tD 16))] [[],[0],[1],[2,1],[3],[4,3,3],[5,3],[3,6]] false) (.cond (.tmp 17) (.seq (.region [opD 4 (.mov (.const vS)),opD 5 (.mov (.const vS))] [[],[0,0]] false) .ret) .skip)) (.seq (.region [opD 6 (.mov (.const vS))] [[]] false) (.seq (.region [opD 7 (.mov (.const vS))] [[]] false) (.seq (.seq (.region [mvD 18 0,opD 19 (.len false (tD 18)),opD 20 (.mov (cD 0))] [[],[0],[]] false) (.block 0 (.loop ⟨[6,7,20],(.cons (.own .own 37 T_api_Record) (.cons (.own .own 25 (.int .u64)) (.cons (.hole (.int .i64)) .nil))),[],.nil,[3,18,19],[0]⟩
 (.seq (.region [opD 21 (.bin .lss (tD 20) (tD 19))] [[]] false) (.seq (.cond (.tmp 21) .skip (.exit 0)) (.seq (.block 1 (.seq (.region [opD 22 (.iaddr 5 (tD 18) (tD 20)),opD 23 (.load true 5 (tD 22)),opD 9 (.alloc 37 5 [vU,vT,vS,vU,vU]),onD (.store 5 (tD 9) (tD 23))] [[],[0],[],[2,1,0,1,2]] false) (.seq (.region [mvD 24 7,mvD 25 6,opD 26 (.len false (tD 25)),opD 27 (.conv .u64 (tD 26)),oqD 28 (.bslice 25 1 1 [vU] [(0,(tD 27))]) (.ty (.int .u64)),oqD 29 (.app 25 1 [vU] 8 (tD 24) (tD 28)) (.ty (.int .u64)),mvD 7 29] [[],[],[1],[2],[3],[0,4],[5,5,0,1,2,3,4,5]] false) (.seq (.region [opD 30 (.load true 2 (tD 3)),opD 31 (.faddr 1 (tD 9)),opD 32 (.load false 1 (tD 31)),oqD 33 (.call 56 [(tD 30),(tD 32)]) (.ent (e56 fu))] [[],[],[1],[0,2]] false) (.cond (.tmp 33) (.region [mvD 34 6,opD 35 (.load true 5 (tD 9)),oqD 36 (.call 57 [(tD 34),(tD 35)]) (.ent (e57_1 fu)),mvD 6 36] [[],[],[0,1],[2,2,0,1,2]] false) .skip))))) (.region [opD 37 (.bin .add (tD 20) (cD 1)),mvD 20 37] [[],[0]] false))))))) (.seq (.region [mvD 38 6,mvD 39 7,mvD 40 6,opD 41 (.len false (tD 40)),opD 42 (.conv .u64 (tD 41)),oqD 43 (.bslice 25 1 1 [vU] [(0,(tD 42))]) (.ty (.int .u64)),oqD 44 (.app 25 1 [vU] 8 (tD 39) (tD 43)) (.ty (.int .u64)),mvD 4 38,mvD 5 44] [[],[],[],[2],[3],[4],[1,5],[0,6,0],[6,7,0,1,2,3,4,5,6,7]] false) .ret))))))
theorem g22 (fu:Nat):(e22 fu).Good Try.prog := good_fn orders Try.func22 fu (d22 fu) rs22 45 (l := [e46 fu,e45 fu,e56 fu,e57_1 fu]) ⟨g46 fu,g45 fu,g56 fu,g57_1 fu,trivial⟩
def rs60:List RVx := [(.tmp 4)]
def p60 (_:Nat):(Int)×((List (Int))×(Unit))→Option ((Unit)×(Bool)) := fun ⟨a,c,_⟩ =>
bif decide (a<(IntKind.wrap .u64 (List.length c:Int))) then
 bif decide ((IntKind.wrap .u64 (a+(1:Int)))<(IntKind.wrap .u64 (List.length c:Int))) then
 bif decide ((0:Int)≤a∧a<(List.length c:Int)) then
 bif decide (Int.toNat a<List.length c) then
 bif decide ((0:Int)≤IntKind.wrap .u64 (a+(1:Int))∧IntKind.wrap .u64 (a+(1:Int))<(List.length c:Int)) then
 bif decide (Int.toNat (IntKind.wrap .u64 (a+(1:Int)))<List.length c) then
 some ((),decide ((List.getD c (Int.toNat a) (dflt (.int .u64)))<(List.getD c (Int.toNat (IntKind.wrap .u64 (a+(1:Int)))) (dflt (.int .u64)))))
 else none
 else none
 else none
 else none
 else
 some ((),false)
else
 some ((),false)
def e60 (fu:Nat):Ent := ⟨60,(.cons (.hole (.int .u64)) (.cons (.hole (.sl (.int .u64))) .nil)),.nil,(.hole .bool),p60 fu⟩
def d60 (_:Nat):DC := (.seq (.region [opD 4 (.mov (.const vB))] [[]] false) (.seq (.region [mvD 6 1,opD 7 (.len false (tD 6)),opD 8 (.conv .u64 (tD 7)),mvD 5 8] [[],[0],[1],[2,0,1,2]] false) (.seq (.region [mvD 9 0,mvD 10 5,opD 11 (.bin .lss (tD 9) (tD 10)),mvD 12 11,ogD 13 12 true (.mov (tD 0)),ogD 14 12 true (.bin .add (tD 13) (.const (.int .u64 1))),ogD 15 12 true (.mov (tD 5)),ogD 16 12 true (.bin .lss (tD 14) (tD 15)),opD 17 (.pick (tD 12) (tD 16) (.const vB)),mvD 18 17,ogD 19 18 true (.mov (tD 1)),ogD 20 18 true (.mov (tD 0)),ogD 21 18 true (.iaddr 1 (tD 19) (tD 20)),ogD 22 18 true (.load false 1 (tD 21)),ogD 23 18 true (.mov (tD 1)),ogD 24 18 true (.mov (tD 0)),ogD 25 18 true (.bin .add (tD 24) (.const (.int .u64 1))),ogD 26 18 true (.iaddr 1 (tD 23) (tD 25)),ogD 27 18 true (.load false 1 (tD 26)),ogD 28 18 true (.bin .lss (tD 22) (tD 27)),opD 29 (.pick (tD 18) (tD 28) (.const vB)),mvD 4 29] [[],[],[0,1],[2],[3],[4,3],[3],[5,6,3],[3,7],[8,3],[9],[9],[10,11,9],[12,9],[9],[9],[15,9],[14,16,9],[17,9],[13,18,9],[9,19],[20,9,0,1,2,3,4,5,6,7,8,9,10,11,12,13,14,15,16,17,18,19,20]] true) .ret)))
theorem g60 (fu:Nat):(e60 fu).Good Try.prog := good_fn orders Try.func60 fu (d60 fu) rs60 30 (l := []) trivial
def rs59:List RVx := [(.cell 3 true 4)]
def p59 (fu:Nat):((Int)×((Int)×((Bool)×((Int)×(Unit)))))×(((List (Int))×(Unit))×(Unit))→Option ((Unit)×((Int)×((Int)×((Bool)×((Int)×(Unit)))))) := fun ⟨⟨a,c,f,h,_⟩,⟨i,_⟩,_⟩ =>
orK (E := ((Bool)×(Unit))×(Unit))
 (bif f then
 Option.bind (p60 fu (h,i,())) fun ⟨_,j⟩ =>
 some (.inl ((j,()),()))
 else
 some (.inl ((false,()),())))
 fun ⟨⟨k,_⟩,_⟩ =>
bif k then
 bif decide ((0:Int)≤h∧h<(List.length i:Int)) then
 bif decide (Int.toNat h<List.length i) then
 some ((),(a,c,true,(List.getD i (Int.toNat h) (dflt (.int .u64))),()))
 else none
 else none
else
 some ((),(a,c,false,(0:Int),()))
def e59 (fu:Nat):Ent := ⟨59,(.cons (.agg 4 (.cons (.hole (.int .u64)) (.cons (.hole (.int .u64)) (.cons (.hole .bool) (.cons (.hole (.int .u64)) .nil))))) (.cons (.look (.cons (.hole (.sl (.int .u64))) .nil)) .nil)),.nil,(.agg 4 (.cons (.hole (.int .u64)) (.cons (.hole (.int .u64)) (.cons (.hole .bool) (.cons (.hole (.int .u64)) .nil))))),p59 fu⟩
def d59 (fu:Nat):DC := (.seq (.region [opD 2 (.box 39 4 (tD 0)),opD 3 (.alloc 39 4 [vU,vU,vB,vU])] [[],[]] false) (.seq (.region [opD 5 (.faddr 0 (tD 2)),opD 6 (.load false 1 (tD 5)),opD 7 (.faddr 1 (tD 2)),opD 8 (.load false 1 (tD 7)),opD 9 (.build 4 [vU,vU,vB,vU] [(0,(1,(tD 6))),(1,(1,(tD 8)))]),opD 4 (.alloc 39 4 [vU,vU,vB,vU]),onD (.store 4 (tD 4) (tD 9))] [[],[0],[],[2],[1,3],[],[5,4,0,1,2,3,4,5]] false) (.seq (.join ⟨[17],(.cons (.hole .bool) .nil),[],.nil,[1,2,3,4],[0,16,112]⟩
 (.region [opD 10 (.faddr 2 (tD 2)),opD 11 (.load false 1 (tD 10)),mvD 12 11,ogD 13 12 true (.faddr 3 (tD 2)),ogD 14 12 true (.load false 1 (tD 13)),ogD 15 12 true (.load false 1 (tD 1)),(⟨(some 16),(some (12,true)),(.call 60 [(tD 14),(tD 15)])⟩,(.ent (e60 fu))),opD 17 (.pick (tD 12) (tD 16) (.const vB))] [[],[0],[1],[2],[3,2],[2],[4,5,2,2],[2,6]] false)
 (.cond (.tmp 17) (.region [opD 18 (.load false 1 (tD 1)),opD 19 (.faddr 3 (tD 2)),opD 20 (.load false 1 (tD 19)),opD 21 (.iaddr 1 (tD 18) (tD 20)),opD 22 (.load false 1 (tD 21)),opD 23 (.faddr 2 (tD 4)),onD (.store 1 (tD 23) (.const (.bool true))),opD 24 (.faddr 3 (tD 4)),onD (.store 1 (tD 24) (tD 22))] [[],[],[1],[0,2],[3],[],[5],[0,1,2,3,4,5,6],[7,4,6,0,1,2,3,4,5,6]] true) .skip)) (.seq (.region [opD 25 (.load true 4 (tD 4)),onD (.store 4 (tD 3) (tD 25))] [[],[0,0]] false) .ret))))
theorem g59 (fu:Nat):(e59 fu).Good Try.prog := good_fn orders Try.func59 fu (d59 fu) rs59 26 (l := [e60 fu]) ⟨g60 fu,trivial⟩
def rs58:List RVx := [(.tmp 4)]
def p58 (fu:Nat):(List (D_api_Producer))×(((Unit)×(((List (Int))×(Unit))×(Unit)))×(Unit))→Option ((((List (Int))×(Unit))×(Unit))×(List (D_api_Producer))) := fun ⟨a,⟨_,⟨⟨c,_⟩,_⟩⟩,_⟩ =>
bif ((List.length a:Int)==(0:Int)) then
 some (((c,()),()),[])
else
 bif decide ((0:Int)≤(List.length a:Int)∧((List.length a:Int):Int)≤(List.length a:Int)∧((List.length a:Int):Int)≤9223372036854775807∧(32:Int) * (List.length a:Int)≤140737488355328) then
 bif decide (Int.toNat (List.length a:Int)=List.length (List.replicate (Int.toNat (List.length a:Int)) ((0:Int),(0:Int),false,(0:Int)):List (D_api_Producer))) then
 loopO (S := ((List (D_api_Producer))×((Int)×(Unit)))×(Unit)) fu (fun ⟨⟨f,h,_⟩,_⟩ =>
 bif decide (h<(List.length a:Int)) then
 bif decide ((0:Int)≤h∧h<(List.length a:Int)) then
 bif decide (Int.toNat h<List.length a) then
 Option.bind (p59 fu (((List.getD a (Int.toNat h) (dflt T_api_Producer)).1,((List.getD a (Int.toNat h) (dflt T_api_Producer)).2).1,(((List.getD a (Int.toNat h) (dflt T_api_Producer)).2).2).1,(((List.getD a (Int.toNat h) (dflt T_api_Producer)).2).2).2,()),(c,()),())) fun ⟨_,⟨i,j,k,l,_⟩⟩ =>
 bif decide ((0:Int)≤h∧h<(List.length f:Int)) then
 bif decide (Int.toNat h<List.length f) then
 bif decide (List.length f=List.length (List.set f (Int.toNat h) (i,j,k,l))) then
 some (.inl (((List.set f (Int.toNat h) (i,j,k,l)),IntKind.wrap .i64 (h+(1:Int)),()),()))
 else none
 else none
 else none
 else none
 else none
 else
 inrO (bif decide (List.length f=List.length f) then
 some (((c,()),()),f)
 else none))
 (((List.replicate (Int.toNat (List.length a:Int)) ((0:Int),(0:Int),false,(0:Int)):List (D_api_Producer)),(0:Int),()),())
 else none
 else none
def e58 (fu:Nat):Ent := ⟨58,(.cons (.hole (.sl T_api_Producer)) (.cons (.clo 59 0 .nil 1 (.cons (.box 57 1 (.cons (.hole (.sl (.int .u64))) .nil)) .nil)) .nil)),(.cons (.agg 1 (.cons (.hole (.sl (.int .u64))) .nil)) .nil),(.own .own 39 T_api_Producer),p58 fu⟩
def d58 (fu:Nat):DC := (.seq (.region [opD 4 (.mov (.const vS))] [[]] false) (.seq (.seq (.region [mvD 8 0,opD 9 (.len false (tD 8)),opD 10 (.bin .eql (tD 9) (cD 0))] [[],[0],[1]] false) (.cond (.tmp 10) (.seq (.region [opD 4 (.mov (.const vS))] [[]] false) .ret) .skip)) (.seq (.region [mvD 11 0,opD 12 (.len false (tD 11)),oqD 13 (.make false 39 4 [vU,vU,vB,vU] 32 (tD 12) (tD 12)) (.ty T_api_Producer),mvD 5 13] [[],[0],[1,1],[2,0,1,2]] false) (.seq (.seq (.region [mvD 14 0,opD 15 (.len false (tD 14)),opD 16 (.mov (cD 0))] [[],[0],[]] false) (.block 0 (.loop ⟨[5,16],(.cons (.own .own 39 T_api_Producer) (.cons (.hole (.int .i64)) .nil)),[],.nil,[1,14,15],[0]⟩
 (.seq (.region [opD 17 (.bin .lss (tD 16) (tD 15))] [[]] false) (.seq (.cond (.tmp 17) .skip (.exit 0)) (.seq (.block 1 (.seq (.region [mvD 18 16,opD 19 (.iaddr 4 (tD 14) (tD 16)),opD 20 (.load true 4 (tD 19)),opD 7 (.alloc 39 4 [vU,vU,vB,vU]),mvD 6 18,onD (.store 4 (tD 7) (tD 20))] [[],[],[1],[],[0,0,1,2,3],[3,2,4,0,1,2,3,4]] false) (.region [mvD 21 5,mvD 22 6,mvD 23 1,opD 24 (.load true 4 (tD 7)),oqD 25 (.callv (tD 23) [(tD 24)]) (.ent (e59 fu)),opD 26 (.iaddr 4 (tD 21) (tD 22)),onD (.store 4 (tD 26) (tD 25))] [[],[],[],[],[2,3],[0,1,0,1,2,3,4],[5,4,4,0,1,2,3,4]] false))) (.region [opD 27 (.bin .add (tD 16) (cD 1)),mvD 16 27] [[],[0]] false))))))) (.seq (.region [mvD 28 5,mvD 4 28] [[],[0,0]] false) .ret)))))
theorem g58 (fu:Nat):(e58 fu).Good Try.prog := good_fn orders Try.func58 fu (d58 fu) rs58 29 (l := [e59 fu]) ⟨g59 fu,trivial⟩
def rs23:List RVx := [(.tmp 4)]
def p23 (fu:Nat):(List (D_api_Producer))×((List (Int))×(Unit))→Option ((Unit)×(List (D_api_Producer))) := fun ⟨a,c,_⟩ =>
Option.bind (p58 fu (a,((),((c,()),())),())) fun ⟨⟨⟨_,_⟩,_⟩,f⟩ =>
bif decide (List.length f=List.length f) then
 some ((),f)
else none
def e23 (fu:Nat):Ent := ⟨23,(.cons (.hole (.sl T_api_Producer)) (.cons (.hole (.sl (.int .u64))) .nil)),.nil,(.own .own 39 T_api_Producer),p23 fu⟩
def d23 (fu:Nat):DC := (.seq (.region [opD 3 (.box 57 1 (tD 1)),opD 4 (.mov (.const vS))] [[],[]] false) (.seq (.region [mvD 5 0,opD 6 (.fn 59 [] [(tD 3)]),oqD 7 (.call 58 [(tD 5),(tD 6)]) (.ent (e58 fu)),mvD 4 7] [[],[],[0,1],[2,2,0,1,2]] false) .ret))
theorem g23 (fu:Nat):(e23 fu).Good Try.prog := good_fn orders Try.func23 fu (d23 fu) rs23 8 (l := [e58 fu]) ⟨g58 fu,trivial⟩
def rs62:List RVx := [(.tmp 4)]
def p62 (_:Nat):(List (Int))×((Int)×(Unit))→Option ((Unit)×(Int)) := fun ⟨a,c,_⟩ =>
bif decide ((0:Int)≤(if IntKind.wrap .u64 (IntKind.wrap .i64 ((List.length a:Int)-(1:Int)))<c then IntKind.wrap .u64 (IntKind.wrap .i64 ((List.length a:Int)-(1:Int))) else c)∧(if IntKind.wrap .u64 (IntKind.wrap .i64 ((List.length a:Int)-(1:Int)))<c then IntKind.wrap .u64 (IntKind.wrap .i64 ((List.length a:Int)-(1:Int))) else c)<(List.length a:Int)) then
 bif decide (Int.toNat (if IntKind.wrap .u64 (IntKind.wrap .i64 ((List.length a:Int)-(1:Int)))<c then IntKind.wrap .u64 (IntKind.wrap .i64 ((List.length a:Int)-(1:Int))) else c)<List.length a) then
 some ((),(List.getD a (Int.toNat (if IntKind.wrap .u64 (IntKind.wrap .i64 ((List.length a:Int)-(1:Int)))<c then IntKind.wrap .u64 (IntKind.wrap .i64 ((List.length a:Int)-(1:Int))) else c)) (dflt (.int .u64))))
 else none
else none
def e62 (fu:Nat):Ent := ⟨62,(.cons (.hole (.sl (.int .u64))) (.cons (.hole (.int .u64)) .nil)),.nil,(.hole (.int .u64)),p62 fu⟩
def d62 (_:Nat):DC := (.seq (.region [opD 4 (.mov (.const vU))] [[]] false) (.seq (.region [mvD 5 0,mvD 6 1,mvD 7 0,opD 8 (.len false (tD 7)),opD 9 (.bin .sub (tD 8) (cD 1)),opD 10 (.conv .u64 (tD 9)),opD 11 (.mm false (tD 6) (tD 10)),opD 12 (.iaddr 1 (tD 5) (tD 11)),opD 13 (.load false 1 (tD 12)),mvD 4 13] [[],[],[],[2],[3],[4],[1,5],[0,6],[7],[8,0,1,2,3,4,5,6,7,8]] false) .ret))
theorem g62 (fu:Nat):(e62 fu).Good Try.prog := good_fn orders Try.func62 fu (d62 fu) rs62 14 (l := []) trivial
def rs96:List RVx := [(.cell 3 true 2)]
def p96 (fu:Nat):((ByteArray)×((Int)×(Unit)))×(((((List (Int))×(Unit))×(Unit))×(Unit))×(Unit))→Option ((((((List (Int))×(Unit))×(Unit))×(Unit))×(Unit))×((ByteArray)×((Int)×(Unit)))) := fun ⟨⟨a,c,_⟩,⟨⟨⟨f,_⟩,_⟩,_⟩,_⟩ =>
Option.bind (p62 fu (f,c,())) fun ⟨_,h⟩ =>
some (((((f,()),()),()),()),(a,h,()))
def e96 (fu:Nat):Ent := ⟨96,(.cons (.agg 2 (.cons (.hole .str) (.cons (.hole (.int .u64)) .nil))) (.cons (.box 98 1 (.cons (.clo 62 1 (.cons (.hole (.sl (.int .u64))) .nil) 0 .nil) .nil)) .nil)),(.cons (.agg 1 (.cons (.clo 62 1 (.cons (.hole (.sl (.int .u64))) .nil) 0 .nil) .nil)) .nil),(.agg 2 (.cons (.hole .str) (.cons (.hole (.int .u64)) .nil))),p96 fu⟩
def d96 (fu:Nat):DC := (.seq (.region [opD 2 (.box 41 2 (tD 0)),opD 3 (.alloc 41 2 [vT,vU])] [[],[]] false) (.seq (.region [opD 4 (.faddr 0 (tD 2)),opD 5 (.load false 1 (tD 4)),opD 6 (.load false 1 (tD 1)),opD 7 (.faddr 1 (tD 2)),opD 8 (.load false 1 (tD 7)),oqD 9 (.callv (tD 6) [(tD 8)]) (.ent (e62 fu)),opD 10 (.build 2 [vT,vU] [(0,(1,(tD 5))),(1,(1,(tD 9)))]),onD (.store 2 (tD 3) (tD 10))] [[],[0],[],[],[3],[2,4],[1,5],[6,5,0,1,2,3,4,5,6]] true) .ret))
theorem g96 (fu:Nat):(e96 fu).Good Try.prog := good_fn orders Try.func96 fu (d96 fu) rs96 11 (l := [e62 fu]) ⟨g62 fu,trivial⟩
def rs95:List RVx := [(.tmp 4)]
def p95 (fu:Nat):(List (D_runtime_errorAddressString))×(((Unit)×(((((List (Int))×(Unit))×(Unit))×(Unit))×(Unit)))×(Unit))→Option ((((((List (Int))×(Unit))×(Unit))×(Unit))×(Unit))×(List (D_runtime_errorAddressString))) := fun ⟨a,⟨_,⟨⟨⟨⟨c,_⟩,_⟩,_⟩,_⟩⟩,_⟩ =>
bif ((List.length a:Int)==(0:Int)) then
 some (((((c,()),()),()),()),[])
else
 bif decide ((0:Int)≤(List.length a:Int)∧((List.length a:Int):Int)≤(List.length a:Int)∧((List.length a:Int):Int)≤9223372036854775807∧(24:Int) * (List.length a:Int)≤140737488355328) then
 bif decide (Int.toNat (List.length a:Int)=List.length (List.replicate (Int.toNat (List.length a:Int)) ((⟨#[]⟩:ByteArray),(0:Int)):List (D_runtime_errorAddressString))) then
 loopO (S := ((List (D_runtime_errorAddressString))×((Int)×(Unit)))×(((((List (Int))×(Unit))×(Unit))×(Unit))×(Unit))) fu (fun ⟨⟨f,h,_⟩,⟨⟨⟨⟨i,_⟩,_⟩,_⟩,_⟩⟩ =>
 bif decide (h<(List.length a:Int)) then
 bif decide ((0:Int)≤h∧h<(List.length a:Int)) then
 bif decide (Int.toNat h<List.length a) then
 Option.bind (p96 fu (((List.getD a (Int.toNat h) (dflt T_runtime_errorAddressString)).1,(List.getD a (Int.toNat h) (dflt T_runtime_errorAddressString)).2,()),(((i,()),()),()),())) fun ⟨⟨⟨⟨⟨j,_⟩,_⟩,_⟩,_⟩,⟨k,l,_⟩⟩ =>
 bif decide ((0:Int)≤h∧h<(List.length f:Int)) then
 bif decide (Int.toNat h<List.length f) then
 bif decide (List.length f=List.length (List.set f (Int.toNat h) (k,l))) then
 some (.inl (((List.set f (Int.toNat h) (k,l)),IntKind.wrap .i64 (h+(1:Int)),()),((((j,()),()),()),())))
 else none
 else none
 else none
 else none
 else none
 else
 inrO (bif decide (List.length f=List.length f) then
 some (((((i,()),()),()),()),f)
 else none))
 (((List.replicate (Int.toNat (List.length a:Int)) ((⟨#[]⟩:ByteArray),(0:Int)):List (D_runtime_errorAddressString)),(0:Int),()),((((c,()),()),()),()))
 else none
 else none
def e95 (fu:Nat):Ent := ⟨95,(.cons (.hole (.sl T_runtime_errorAddressString)) (.cons (.clo 96 0 .nil 1 (.cons (.box 98 1 (.cons (.clo 62 1 (.cons (.hole (.sl (.int .u64))) .nil) 0 .nil) .nil)) .nil)) .nil)),(.cons (.agg 1 (.cons (.clo 62 1 (.cons (.hole (.sl (.int .u64))) .nil) 0 .nil) .nil)) .nil),(.own .own 41 T_runtime_errorAddressString),p95 fu⟩
def d95 (fu:Nat):DC := (.seq (.region [opD 4 (.mov (.const vS))] [[]] false) (.seq (.seq (.region [mvD 8 0,opD 9 (.len false (tD 8)),opD 10 (.bin .eql (tD 9) (cD 0))] [[],[0],[1]] false) (.cond (.tmp 10) (.seq (.region [opD 4 (.mov (.const vS))] [[]] false) .ret) .skip)) (.seq (.region [mvD 11 0,opD 12 (.len false (tD 11)),oqD 13 (.make false 41 2 [vT,vU] 24 (tD 12) (tD 12)) (.ty T_runtime_errorAddressString),mvD 5 13] [[],[0],[1,1],[2,0,1,2]] false) (.seq (.seq (.region [mvD 14 0,opD 15 (.len false (tD 14)),opD 16 (.mov (cD 0))] [[],[0],[]] false) (.block 0 (.loop ⟨[5,16],(.cons (.own .own 41 T_runtime_errorAddressString) (.cons (.hole (.int .i64)) .nil)),[(0,98,1)],(.cons (.agg 1 (.cons (.clo 62 1 (.cons (.hole (.sl (.int .u64))) .nil) 0 .nil) .nil)) .nil),[1,14,15],[]⟩
 (.seq (.region [opD 17 (.bin .lss (tD 16) (tD 15))] [[]] false) (.seq (.cond (.tmp 17) .skip (.exit 0)) (.seq (.block 1 (.seq (.region [mvD 18 16,opD 19 (.iaddr 2 (tD 14) (tD 16)),opD 20 (.load true 2 (tD 19)),opD 7 (.alloc 41 2 [vT,vU]),mvD 6 18,onD (.store 2 (tD 7) (tD 20))] [[],[],[1],[],[0,0,1,2,3],[3,2,4,0,1,2,3,4]] false) (.region [mvD 21 5,mvD 22 6,mvD 23 1,opD 24 (.load true 2 (tD 7)),oqD 25 (.callv (tD 23) [(tD 24)]) (.ent (e96 fu)),opD 26 (.iaddr 2 (tD 21) (tD 22)),onD (.store 2 (tD 26) (tD 25))] [[],[],[],[],[2,3],[0,1,0,1,2,3,4],[5,4,4,0,1,2,3,4]] false))) (.region [opD 27 (.bin .add (tD 16) (cD 1)),mvD 16 27] [[],[0]] false))))))) (.seq (.region [mvD 28 5,mvD 4 28] [[],[0,0]] false) .ret)))))
theorem g95 (fu:Nat):(e95 fu).Good Try.prog := good_fn orders Try.func95 fu (d95 fu) rs95 29 (l := [e96 fu]) ⟨g96 fu,trivial⟩
def rs61:List RVx := [(.tmp 4)]
def p61 (fu:Nat):(List (D_runtime_errorAddressString))×((((List (Int))×(Unit))×(Unit))×(Unit))→Option ((Unit)×(List (D_runtime_errorAddressString))) := fun ⟨a,⟨⟨c,_⟩,_⟩,_⟩ =>
Option.bind (p95 fu (a,((),((((c,()),()),()),())),())) fun ⟨⟨⟨⟨⟨_,_⟩,_⟩,_⟩,_⟩,f⟩ =>
bif decide (List.length f=List.length f) then
 some ((),f)
else none
def e61 (fu:Nat):Ent := ⟨61,(.cons (.hole (.sl T_runtime_errorAddressString)) (.cons (.clo 62 1 (.cons (.hole (.sl (.int .u64))) .nil) 0 .nil) .nil)),.nil,(.own .own 41 T_runtime_errorAddressString),p61 fu⟩
def d61 (fu:Nat):DC := (.seq (.region [opD 3 (.box 98 1 (tD 1)),opD 4 (.mov (.const vS))] [[],[]] false) (.seq (.region [mvD 5 0,opD 6 (.fn 96 [] [(tD 3)]),oqD 7 (.call 95 [(tD 5),(tD 6)]) (.ent (e95 fu)),mvD 4 7] [[],[],[0,1],[2,2,0,1,2]] false) .ret))
theorem g61 (fu:Nat):(e61 fu).Good Try.prog := good_fn orders Try.func61 fu (d61 fu) rs61 8 (l := [e95 fu]) ⟨g95 fu,trivial⟩
def rs24:List RVx := [(.tmp 4)]
def p24 (fu:Nat):(List (D_runtime_errorAddressString))×((List (Int))×(Unit))→Option ((Unit)×(List (D_runtime_errorAddressString))) := fun ⟨a,c,_⟩ =>
bif ((List.length c:Int)==(0:Int)) then
 some ((),[])
else
 Option.bind (p61 fu (a,((c,()),()),())) fun ⟨_,f⟩ =>
 bif decide (List.length f=List.length f) then
 some ((),f)
 else none
def e24 (fu:Nat):Ent := ⟨24,(.cons (.hole (.sl T_runtime_errorAddressString)) (.cons (.hole (.sl (.int .u64))) .nil)),.nil,(.own .own 41 T_runtime_errorAddressString),p24 fu⟩
def d24 (fu:Nat):DC := (.seq (.region [opD 4 (.mov (.const vS))] [[]] false) (.seq (.seq (.region [mvD 5 1,opD 6 (.len false (tD 5)),opD 7 (.bin .eql (tD 6) (cD 0))] [[],[0],[1]] false) (.cond (.tmp 7) (.seq (.region [opD 4 (.mov (.const vS))] [[]] false) .ret) .skip)) (.seq (.region [mvD 8 0,mvD 9 1,opD 10 (.fn 62 [(tD 9)] []),oqD 11 (.call 61 [(tD 8),(tD 10)]) (.ent (e61 fu)),mvD 4 11] [[],[],[1],[0,2],[3,3,0,1,2,3]] false) .ret)))
theorem g24 (fu:Nat):(e24 fu).Good Try.prog := good_fn orders Try.func24 fu (d24 fu) rs24 12 (l := [e61 fu]) ⟨g61 fu,trivial⟩
def rs21:List RVx := [(.cell 3 true 7)]
def p21_1 (fu:Nat):((ByteArray)×((ByteArray)×(Unit)))×((Z0)×(Unit))→Option (((Z0)×(Unit))×((ByteArray)×((ByteArray)×((Int)×((Int)×((List (D_api_Record))×((List (D_api_Producer))×((List (D_runtime_errorAddressString))×(Unit))))))))) := fun ⟨⟨a,c,_⟩,⟨f,h,i,j,k,l,m,_⟩,_⟩ =>
Option.bind (p22 fu (k,(a,c,()),())) fun ⟨_,⟨n,o,_⟩⟩ =>
bif decide (List.length o=List.length o) then
 Option.bind (p23 fu (l,o,())) fun ⟨_,q⟩ =>
 bif decide (List.length o=List.length o) then
 Option.bind (p24 fu (m,o,())) fun ⟨_,s⟩ =>
 bif decide (List.length n=List.length n) then
 bif decide (List.length q=List.length q) then
 bif decide (List.length s=List.length s) then
 some (((f,h,i,j,k,l,m,()),()),(a,c,IntKind.wrap .u64 (i+(1:Int)),(0:Int),n,q,s,()))
 else none
 else none
 else none
 else none
else none
def e21_1 (fu:Nat):Ent := ⟨21,(.cons (.agg 2 (.cons (.hole .str) (.cons (.hole .str) .nil))) (.cons Y6 .nil)),(.cons Y3 .nil),Y1,p21_1 fu⟩
def d21_1 (fu:Nat):DC := (.seq (.region [opD 2 (.box 24 2 (tD 0)),opD 3 (.alloc 30 7 [vT,vT,vU,vU,vS,vS,vS])] [[],[]] false) (.seq (.region [opD 7 (.faddr 4 (tD 1)),opD 8 (.load false 1 (tD 7)),opD 9 (.load true 2 (tD 2)),oqD 10 (.call 22 [(tD 8),(tD 9)]) (.ent (e22 fu)),mvD 6 10,opD 11 (.ext (tD 6) 0),opD 12 (.ext (tD 6) 1),mvD 4 11,mvD 5 12] [[],[0],[],[1,2],[3],[4],[4],[5,3,0,1,2,3,4,5],[6,7,0,1,2,3,4,5,6,7]] false) (.seq (.region [opD 13 (.load true 2 (tD 2)),opD 14 (.faddr 2 (tD 1)),opD 15 (.load false 1 (tD 14)),opD 16 (.bin .add (tD 15) (.const (.int .u64 1))),mvD 17 4,opD 18 (.faddr 5 (tD 1)),opD 19 (.load false 1 (tD 18)),mvD 20 5,oqD 21 (.call 23 [(tD 19),(tD 20)]) (.ent (e23 fu)),opD 22 (.faddr 6 (tD 1)),opD 23 (.load false 1 (tD 22)),mvD 24 5,oqD 25 (.call 24 [(tD 23),(tD 24)]) (.ent (e24 fu)),opD 26 (.build 7 [vT,vT,vU,vU,vS,vS,vS] [(0,(2,(tD 13))),(2,(1,(tD 16))),(4,(1,(tD 17))),(5,(1,(tD 21))),(6,(1,(tD 25)))]),onD (.store 7 (tD 3) (tD 26))] [[],[],[1],[2],[],[],[5],[],[6,7],[],[9],[],[10,11,8],[0,3,4,8,12],[13,12,0,1,2,3,4,5,6,7,8,9,10,11,12,13]] true) .ret)))
theorem g21_1 (fu:Nat):(e21_1 fu).Good Try.prog := good_fn orders Try.func21 fu (d21_1 fu) rs21 27 (l := [e22 fu,e23 fu,e24 fu]) ⟨g22 fu,g23 fu,g24 fu,trivial⟩
def rs10:List RVx := [(.cell 4 true 7),(.cell 5 true 7),(.tmp 6)]
def p10 (fu:Nat):(Z0)×((ByteArray)×(Unit))→Option ((Unit)×((Z0)×((Z0)×((Int)×(Unit))))) := fun ⟨⟨a,c,f,h,i,j,k,_⟩,l,_⟩ =>
Option.bind (p19 fu ([((a,c),f,h,i,j,k)],())) fun ⟨_,m⟩ =>
bif (m != (0:Int)) then
 some ((),(((⟨#[]⟩:ByteArray),(⟨#[]⟩:ByteArray),(0:Int),(0:Int),[],[],[],()),((⟨#[]⟩:ByteArray),(⟨#[]⟩:ByteArray),(0:Int),(0:Int),[],[],[],()),m,()))
else
 Option.bind (p20 fu ((a,c,()),l,())) fun ⟨_,⟨⟨n,o,_⟩,⟨q,s,_⟩,t,_⟩⟩ =>
 bif (t != (0:Int)) then
 some ((),(((⟨#[]⟩:ByteArray),(⟨#[]⟩:ByteArray),(0:Int),(0:Int),[],[],[],()),((⟨#[]⟩:ByteArray),(⟨#[]⟩:ByteArray),(0:Int),(0:Int),[],[],[],()),t,()))
 else
 Option.bind (p21_1 fu ((n,o,()),(a,c,f,h,i,j,k,()),())) fun ⟨⟨⟨u,w,x,y,z,a0,c0,_⟩,_⟩,⟨f0,h0,i0,j0,k0,l0,m0,_⟩⟩ =>
 Option.bind (p21_1 fu ((q,s,()),(u,w,x,y,z,a0,c0,()),())) fun ⟨⟨⟨_,_,_,_,_,_,_,_⟩,_⟩,⟨n0,o0,q0,s0,t0,u0,w0,_⟩⟩ =>
 bif decide (List.length k0=List.length k0) then
 bif decide (List.length l0=List.length l0) then
 bif decide (List.length m0=List.length m0) then
 bif decide (List.length t0=List.length t0) then
 bif decide (List.length u0=List.length u0) then
 bif decide (List.length w0=List.length w0) then
 some ((),((f0,h0,i0,j0,k0,l0,m0,()),(n0,o0,q0,s0,t0,u0,w0,()),(0:Int),()))
 else none
 else none
 else none
 else none
 else none
 else none
def e10 (fu:Nat):Ent := ⟨10,(.cons Y3 (.cons (.hole .str) .nil)),.nil,(.tup 3 (.cons Y1 (.cons Y1 (.cons (.hole (.int .i64)) .nil)))),p10 fu⟩
def d10 (fu:Nat):DC := (.seq (.region [opD 2 (.box 30 7 (tD 0)),opD 4 (.alloc 30 7 [vT,vT,vU,vU,vS,vS,vS]),opD 5 (.alloc 30 7 [vT,vT,vU,vU,vS,vS,vS]),opD 6 (.mov (cD 0))] [[],[],[],[]] false) (.seq (.seq (.region [opD 12 (.load true 7 (tD 2)),oqD 13 (.bslice 30 7 1 [vT,vT,vU,vU,vS,vS,vS] [(0,(tD 12))]) (.ty T_api_Part),oqD 14 (.call 19 [(tD 13)]) (.ent (e19 fu)),mvD 7 14] [[],[0],[1],[2,2,0,1,2]] false) (.seq (.region [mvD 15 7,opD 16 (.bin .neq (tD 15) (cD 0))] [[],[0]] false) (.cond (.tmp 16) (.seq (.region [opD 17 (.build 7 [vT,vT,vU,vU,vS,vS,vS] []),opD 18 (.build 7 [vT,vT,vU,vU,vS,vS,vS] []),mvD 19 7,onD (.store 7 (tD 4) (tD 17)),onD (.store 7 (tD 5) (tD 18)),mvD 6 19] [[],[],[],[0,0],[1,3,0,1,3],[2,4,0,1,2,3,4]] false) .ret) .skip))) (.seq (.region [opD 21 (.faddr 0 (tD 2)),opD 22 (.load true 2 (tD 21)),mvD 23 1,oqD 24 (.call 20 [(tD 22),(tD 23)]) (.ent (e20 fu)),mvD 20 24,opD 25 (.ext (tD 20) 0),opD 26 (.ext (tD 20) 1),opD 27 (.ext (tD 20) 2),opD 8 (.alloc 24 2 [vT,vT]),opD 9 (.alloc 24 2 [vT,vT]),onD (.store 2 (tD 8) (tD 25)),onD (.store 2 (tD 9) (tD 26)),mvD 10 27] [[],[0],[],[1,2],[3],[4],[4],[4],[],[],[8,5,3,0,1,2,3,4,5,8,9],[9,6,10,0,1,2,3,4,5,6,8,9,10],[7,11,0,1,2,3,4,5,6,7,8,9,10,11]] false) (.seq (.seq (.region [mvD 28 10,opD 29 (.bin .neq (tD 28) (cD 0))] [[],[0]] false) (.cond (.tmp 29) (.seq (.region [opD 30 (.build 7 [vT,vT,vU,vU,vS,vS,vS] []),opD 31 (.build 7 [vT,vT,vU,vU,vS,vS,vS] []),mvD 32 10,onD (.store 7 (tD 4) (tD 30)),onD (.store 7 (tD 5) (tD 31)),mvD 6 32] [[],[],[],[0,0],[1,3,0,1,3],[2,4,0,1,2,3,4]] false) .ret) .skip)) (.seq (.region [opD 33 (.fn 21 [] [(tD 2)]),mvD 11 33] [[],[0,0]] false) (.seq (.region [mvD 34 11,opD 35 (.load true 2 (tD 8)),oqD 36 (.callv (tD 34) [(tD 35)]) (.ent (e21_1 fu)),mvD 37 11,opD 38 (.load true 2 (tD 9)),oqD 39 (.callv (tD 37) [(tD 38)]) (.ent (e21_1 fu)),onD (.store 7 (tD 4) (tD 36)),onD (.store 7 (tD 5) (tD 39)),opD 6 (.mov (cD 0))] [[],[],[0,1],[],[],[3,4,2],[2,5,0,1,2],[5,6,0,1,2,3,4,5,6],[7,0,1,2,3,4,5,6,7]] true) .ret))))))
theorem g10 (fu:Nat):(e10 fu).Good Try.prog := good_fn orders Try.func10 fu (d10 fu) rs10 40 (l := [e19 fu,e20 fu,e21_1 fu,e21_1 fu]) ⟨g19 fu,g20 fu,g21_1 fu,g21_1 fu,trivial⟩
def rs9:List RVx := [(.tmp 0)]
def p9 (fu:Nat):Unit→Option ((Unit)×(Bool)) := fun _ =>
Option.bind (p11 fu ()) fun ⟨_,⟨a,c,f,h,i,j,k,_⟩⟩ =>
bif decide (List.length i=List.length i) then
 bif decide (List.length j=List.length j) then
 bif decide (List.length k=List.length k) then
 Option.bind (p10 fu ((a,c,f,h,i,j,k,()),(⟨#[99]⟩:ByteArray),())) fun ⟨_,⟨⟨_,_,l,_,m,_,_,_⟩,⟨_,_,_,_,n,_,_,_⟩,o,_⟩⟩ =>
 bif (o==(0:Int)) then
 bif (((List.length m):Int)==(2:Int)) then
 bif (((List.length n):Int)==(1:Int)) then
 some ((),(l==(4:Int)))
 else
 some ((),false)
 else
 some ((),false)
 else
 some ((),false)
 else none
 else none
else none
def e9 (fu:Nat):Ent := ⟨9,.nil,.nil,(.hole .bool),p9 fu⟩
def d9 (fu:Nat):DC := (.seq (.region [opD 0 (.mov (.const vB))] [[]] false) (.seq (.region [oqD 5 (.call 11 []) (.ent (e11 fu)),oqD 6 (.call 10 [(tD 5),(.const (.string ⟨#[99]⟩))]) (.ent (e10 fu)),mvD 4 6,opD 7 (.ext (tD 4) 0),opD 8 (.ext (tD 4) 1),opD 9 (.ext (tD 4) 2),opD 1 (.alloc 30 7 [vT,vT,vU,vU,vS,vS,vS]),opD 2 (.alloc 30 7 [vT,vT,vU,vU,vS,vS,vS]),onD (.store 7 (tD 1) (tD 7)),onD (.store 7 (tD 2) (tD 8)),mvD 3 9] [[],[0,0],[1],[2],[2],[2],[],[],[6,3,1,0,1,2,3,6,7],[7,4,8,0,1,2,3,4,6,7,8],[5,9,0,1,2,3,4,5,6,7,8,9]] false) (.seq (.region [mvD 10 3,opD 11 (.bin .eql (tD 10) (cD 0)),mvD 12 11,ogD 13 12 true (.faddr 4 (tD 1)),ogD 14 12 true (.load false 1 (tD 13)),ogD 15 12 true (.len false (tD 14)),ogD 16 12 true (.bin .eql (tD 15) (cD 2)),opD 17 (.pick (tD 12) (tD 16) (.const vB)),mvD 18 17,ogD 19 18 true (.faddr 4 (tD 2)),ogD 20 18 true (.load false 1 (tD 19)),ogD 21 18 true (.len false (tD 20)),ogD 22 18 true (.bin .eql (tD 21) (cD 1)),opD 23 (.pick (tD 18) (tD 22) (.const vB)),mvD 24 23,ogD 25 24 true (.faddr 2 (tD 1)),ogD 26 24 true (.load false 1 (tD 25)),ogD 27 24 true (.bin .eql (tD 26) (.const (.int .u64 4))),opD 28 (.pick (tD 24) (tD 27) (.const vB)),mvD 0 28] [[],[0],[1],[2],[3,2],[4,2],[5,2],[2,6],[7,2],[8],[9,8],[10,8],[11,8],[8,12],[13,8],[14],[15,14],[16,14],[14,17],[18,14,0,1,2,3,4,5,6,7,8,9,10,11,12,13,14,15,16,17,18]] false) .ret)))
theorem g9 (fu:Nat):(e9 fu).Good Try.prog := good_fn orders Try.func9 fu (d9 fu) rs9 29 (l := [e11 fu,e10 fu]) ⟨g11 fu,g10 fu,trivial⟩
def rs29:List RVx := [(.cell 4 true 2),(.tmp 5)]
def p29 (fu:Nat):((ByteArray)×((ByteArray)×(Unit)))×(((ByteArray)×((ByteArray)×(Unit)))×(Unit))→Option ((Unit)×(((ByteArray)×((ByteArray)×(Unit)))×((Int)×(Unit)))) := fun ⟨⟨a,c,_⟩,⟨f,h,_⟩,_⟩ =>
loopO (S := ((Int)×(Unit))×(Unit)) fu (fun ⟨⟨i,_⟩,_⟩ =>
 bif decide (i<(2:Int)) then
 bif decide ((0:Int)≤i∧i<(2:Int)) then
 bif (i==(0:Int)) then
 Option.bind (p45 fu ((a,c,()),())) fun ⟨_,j⟩ =>
 bif (j != (0:Int)) then
 inrO (some ((),(((⟨#[]⟩:ByteArray),(⟨#[]⟩:ByteArray),()),j,())))
 else
 some (.inl ((IntKind.wrap .i64 (i+(1:Int)),()),()))
 else
 bif (i==(1:Int)) then
 Option.bind (p45 fu ((f,h,()),())) fun ⟨_,k⟩ =>
 bif (k != (0:Int)) then
 inrO (some ((),(((⟨#[]⟩:ByteArray),(⟨#[]⟩:ByteArray),()),k,())))
 else
 some (.inl ((IntKind.wrap .i64 (i+(1:Int)),()),()))
 else none
 else none
 else
 inrO (Option.bind (p63 fu ((a,c,()),())) fun ⟨_,⟨l,m,_⟩⟩ =>
 bif !(l==f && (m==false && true)) then
 some ((),(((⟨#[]⟩:ByteArray),(⟨#[]⟩:ByteArray),()),(133:Int),()))
 else
 some ((),((a,h,()),(0:Int),()))))
 (((0:Int),()),())
def e29 (fu:Nat):Ent := ⟨29,(.cons (.agg 2 (.cons (.hole .str) (.cons (.hole .str) .nil))) (.cons (.agg 2 (.cons (.hole .str) (.cons (.hole .str) .nil))) .nil)),.nil,(.tup 2 (.cons (.agg 2 (.cons (.hole .str) (.cons (.hole .str) .nil))) (.cons (.hole (.int .i64)) .nil))),p29 fu⟩
def d29 (fu:Nat):DC := (.seq (.region [opD 2 (.box 24 2 (tD 0)),opD 3 (.box 24 2 (tD 1)),opD 4 (.alloc 24 2 [vT,vT]),opD 5 (.mov (cD 0))] [[],[],[],[]] false) (.seq (.seq (.region [opD 9 (.load true 2 (tD 2)),opD 10 (.load true 2 (tD 3)),opD 11 (.build 4 [vT,vT,vT,vT] [(0,(2,(tD 9))),(2,(2,(tD 10)))]),opD 12 (.mov (cD 0))] [[],[],[0,1],[]] false) (.block 0 (.loop ⟨[12],(.cons (.hole (.int .i64)) .nil),[],.nil,[2,3,4,11],[0,16,32]⟩
 (.seq (.region [opD 13 (.bin .lss (tD 12) (cD 2))] [[]] false) (.seq (.cond (.tmp 13) .skip (.exit 0)) (.seq (.block 1 (.seq (.region [opD 14 (.pure (.aidx true 2 2) [(tD 11),(tD 12)]),opD 7 (.alloc 24 2 [vT,vT]),onD (.store 2 (tD 7) (tD 14))] [[],[],[1,0,0,1]] false) (.seq (.region [opD 15 (.load true 2 (tD 7)),oqD 16 (.call 45 [(tD 15)]) (.ent (e45 fu)),mvD 8 16] [[],[0],[1,1,0,1]] false) (.seq (.region [mvD 17 8,opD 18 (.bin .neq (tD 17) (cD 0))] [[],[0]] false) (.cond (.tmp 18) (.seq (.region [opD 19 (.build 2 [vT,vT] []),mvD 20 8,onD (.store 2 (tD 4) (tD 19)),mvD 5 20] [[],[],[0,0],[1,2,0,1,2]] false) .ret) .skip))))) (.region [opD 21 (.bin .add (tD 12) (cD 1)),mvD 12 21] [[],[0]] false))))))) (.seq (.seq (.region [opD 22 (.load true 2 (tD 2)),oqD 23 (.call 63 [(tD 22)]) (.ent (e63 fu)),opD 24 (.faddr 0 (tD 3)),opD 25 (.load false 1 (tD 24)),opD 26 (.build 2 [vT,vB] [(0,(1,(tD 25)))]),opD 27 (.seq true [.str,.bool] (tD 23) (tD 26))] [[],[0],[],[2],[3],[1,4]] true) (.cond (.tmp 27) (.seq (.region [opD 28 (.build 2 [vT,vT] []),onD (.store 2 (tD 4) (tD 28)),opD 5 (.mov (cD 133))] [[],[0,0],[1,0,1]] false) .ret) .skip)) (.seq (.region [opD 29 (.faddr 0 (tD 2)),opD 30 (.load false 1 (tD 29)),opD 31 (.faddr 1 (tD 3)),opD 32 (.load false 1 (tD 31)),opD 33 (.build 2 [vT,vT] [(0,(1,(tD 30))),(1,(1,(tD 32)))]),onD (.store 2 (tD 4) (tD 33)),opD 5 (.mov (cD 0))] [[],[0],[],[2],[1,3],[4,0,1,2,3,4],[5,0,1,2,3,4,5]] false) .ret))))
theorem g29 (fu:Nat):(e29 fu).Good Try.prog := good_fn orders Try.func29 fu (d29 fu) rs29 34 (l := [e45 fu,e63 fu]) ⟨g45 fu,g63 fu,trivial⟩
def rs65:List RVx := [(.tmp 2)]
def p65_1 (_:Nat):((List (D_api_Record))×((List (Int))×((List ((Int)×(List (Int))))×(Unit))))×(Unit)→Option ((((List (D_api_Record))×((List (Int))×((List ((Int)×(List (Int))))×(Unit))))×((Unit)×((Unit)×(Unit))))×(Bool)) := fun ⟨⟨a,c,f,_⟩,_⟩ =>
bif decide (List.length c=List.length c) then
 some (((a,c,f,()),(),(),()),decide ((List.length a:Int)>(0:Int)))
else none
def e65_1 (fu:Nat):Ent := ⟨65,(.cons Y7 .nil),(.cons Y8 (.cons .dead (.cons .dead .nil))),(.hole .bool),p65_1 fu⟩
def d65_1 (_:Nat):DC := (.seq (.region [opD 2 (.mov (.const vB))] [[]] false) (.seq (.region [mvD 3 0,opD 4 (.pure .nilc [(tD 3)]),opD 5 (.faddr 0 (tD 4)),opD 6 (.load false 1 (tD 5)),opD 7 (.len false (tD 6)),opD 8 (.bin .gtr (tD 7) (cD 0)),mvD 2 8] [[],[0],[1],[2],[3],[4],[5,0,1,2,3,4,5]] false) .ret))
theorem g65_1 (fu:Nat):(e65_1 fu).Good Try.prog := good_fn orders Try.func65 fu (d65_1 fu) rs65 9 (l := []) trivial
def rs66:List RVx := [(.tmp 4)]
def p66_1 (fu:Nat):((List (D_api_Record))×((List (Int))×((List ((Int)×(List (Int))))×(Unit))))×(((List (D_api_Record))×((List (Int))×((List ((Int)×(List (Int))))×(Unit))))×(Unit))→Option ((((List (D_api_Record))×((List (Int))×((List ((Int)×(List (Int))))×(Unit))))×((Unit)×((Unit)×(((List (D_api_Record))×((List (Int))×((List ((Int)×(List (Int))))×(Unit))))×((Unit)×((Unit)×(Unit)))))))×(Bool)) := fun ⟨⟨a,c,f,_⟩,⟨h,i,j,_⟩,_⟩ =>
bif decide (List.length c=List.length c) then
 Option.bind (p65_1 fu ((a,c,f,()),())) fun ⟨⟨⟨k,l,m,_⟩,_,_,_⟩,n⟩ =>
 bif !n then
 bif decide (List.length l=List.length l) then
 bif decide (List.length i=List.length i) then
 some (((k,l,m,()),(),(),(h,i,j,()),(),(),()),false)
 else none
 else none
 else
 bif decide ((0:Int)≤0∧0<(List.length k:Int)) then
 bif decide (0<List.length k) then
 bif ((List.length (Option.getD (lookM (.int .u64) j (((((List.getD k 0 (dflt T_api_Record)).2).2).2).1)) ([])):Int)==(0:Int)) then
 bif decide (List.length l=List.length l) then
 bif decide (List.length i=List.length i) then
 some (((k,l,m,()),(),(),(h,i,j,()),(),(),()),true)
 else none
 else none
 else
 bif decide ((0:Int)≤0∧0<(List.length (Option.getD (lookM (.int .u64) j (((((List.getD k 0 (dflt T_api_Record)).2).2).2).1)) ([])):Int)) then
 bif decide (0<List.length (Option.getD (lookM (.int .u64) j (((((List.getD k 0 (dflt T_api_Record)).2).2).2).1)) ([]))) then
 bif decide (List.length l=List.length l) then
 bif decide (List.length i=List.length i) then
 some (((k,l,m,()),(),(),(h,i,j,()),(),(),()),decide ((List.getD (Option.getD (lookM (.int .u64) j (((((List.getD k 0 (dflt T_api_Record)).2).2).2).1)) ([])) 0 (dflt (.int .u64)))≥(((((List.getD k 0 (dflt T_api_Record)).2).2).2).2)))
 else none
 else none
 else none
 else none
 else none
 else none
else none
def e66_1 (fu:Nat):Ent := ⟨66,(.cons Y7 (.cons Y7 .nil)),(.cons Y8 (.cons .dead (.cons .dead (.cons Y8 (.cons .dead (.cons .dead .nil)))))),(.hole .bool),p66_1 fu⟩
def d66_1 (fu:Nat):DC := (.seq (.region [opD 4 (.mov (.const vB))] [[]] false) (.seq (.seq (.region [mvD 7 0,oqD 8 (.call 65 [(tD 7)]) (.ent (e65_1 fu)),opD 9 (.not (tD 8))] [[],[0],[1]] false) (.cond (.tmp 9) (.seq (.region [opD 4 (.mov (.const vB))] [[]] false) .ret) .skip)) (.seq (.region [mvD 10 0,opD 11 (.pure .nilc [(tD 10)]),opD 12 (.faddr 0 (tD 11)),opD 13 (.load false 1 (tD 12)),opD 14 (.iaddr 5 (tD 13) (cD 0)),opD 15 (.load true 5 (tD 14)),opD 5 (.alloc 37 5 [vU,vT,vS,vU,vU]),onD (.store 5 (tD 5) (tD 15))] [[],[0],[1],[2],[3],[4],[],[6,5,0,1,2,3,4,5,6]] false) (.seq (.region [mvD 16 1,opD 17 (.pure .nilc [(tD 16)]),opD 18 (.faddr 2 (tD 17)),opD 19 (.load false 1 (tD 18)),opD 20 (.faddr 3 (tD 5)),opD 21 (.load false 1 (tD 20)),opD 22 (.mlook (.int .u64) false false 1 [vS] (tD 19) (tD 21)),mvD 6 22] [[],[0],[1],[2],[],[4],[3,5],[6,0,1,2,3,4,5,6]] true) (.seq (.region [mvD 23 6,opD 24 (.len false (tD 23)),opD 25 (.bin .eql (tD 24) (cD 0)),mvD 26 25,ogD 27 26 false (.mov (tD 6)),ogD 28 26 false (.iaddr 1 (tD 27) (cD 0)),ogD 29 26 false (.load false 1 (tD 28)),ogD 30 26 false (.faddr 4 (tD 5)),ogD 31 26 false (.load false 1 (tD 30)),ogD 32 26 false (.bin .geq (tD 29) (tD 31)),opD 33 (.pick (tD 26) (.const (.bool true)) (tD 32)),mvD 4 33] [[],[0],[1],[2],[3],[4,3],[5,3],[3],[7,3],[6,8,3],[3,9],[10,3,0,1,2,3,4,5,6,7,8,9,10]] true) .ret)))))
theorem g66_1 (fu:Nat):(e66_1 fu).Good Try.prog := good_fn orders Try.func66 fu (d66_1 fu) rs66 34 (l := [e65_1 fu]) ⟨g65_1 fu,trivial⟩
def rs67:List RVx := [(.cell 4 true 5)]
def p67_1 (_:Nat):((List (D_api_Record))×((List (Int))×((List ((Int)×(List (Int))))×(Unit))))×((Int)×(Unit))→Option ((((List (D_api_Record))×((List (Int))×((List ((Int)×(List (Int))))×(Unit))))×((Unit)×((Unit)×(Unit))))×((Int)×((ByteArray)×((List (Int))×((Int)×((Int)×(Unit))))))) := fun ⟨⟨a,c,f,_⟩,h,_⟩ =>
bif decide ((0:Int)≤0∧0<(List.length a:Int)) then
 bif decide (0<List.length a) then
 bif decide (1≤List.length a) then
 bif decide (List.length c=List.length c) then
 bif decide (List.length c+List.length ([h])≤maxLen∧(List.length c+List.length ([h])) * 8≤140737488355328) then
 bif decide (1≤List.length (Option.getD (lookM (.int .u64) f (((((List.getD a 0 (dflt T_api_Record)).2).2).2).1)) ([]))) then
 bif decide (List.length (c ++ [h])=List.length (c ++ [h])) then
 some (((List.drop 1 a,(c ++ [h]),(setM (.int .u64) f (((((List.getD a 0 (dflt T_api_Record)).2).2).2).1) (List.drop 1 (Option.getD (lookM (.int .u64) f (((((List.getD a 0 (dflt T_api_Record)).2).2).2).1)) ([])))),()),(),(),()),((List.getD a 0 (dflt T_api_Record)).1,((List.getD a 0 (dflt T_api_Record)).2).1,(((List.getD a 0 (dflt T_api_Record)).2).2).1,((((List.getD a 0 (dflt T_api_Record)).2).2).2).1,((((List.getD a 0 (dflt T_api_Record)).2).2).2).2,()))
 else none
 else none
 else none
 else none
 else none
 else none
else none
def e67_1 (fu:Nat):Ent := ⟨67,(.cons Y7 (.cons (.hole (.int .u64)) .nil)),(.cons Y8 (.cons .dead (.cons .dead .nil))),Y2,p67_1 fu⟩
def d67_1 (_:Nat):DC := (.seq (.region [opD 4 (.alloc 37 5 [vU,vT,vS,vU,vU])] [[]] false) (.seq (.region [mvD 6 0,opD 7 (.pure .nilc [(tD 6)]),opD 8 (.faddr 0 (tD 7)),opD 9 (.load false 1 (tD 8)),opD 10 (.iaddr 5 (tD 9) (cD 0)),opD 11 (.load true 5 (tD 10)),opD 5 (.alloc 37 5 [vU,vT,vS,vU,vU]),onD (.store 5 (tD 5) (tD 11))] [[],[0],[1],[2],[3],[4],[],[6,5,0,1,2,3,4,5,6]] false) (.seq (.region [mvD 12 0,mvD 13 0,opD 14 (.pure .nilc [(tD 13)]),opD 15 (.faddr 0 (tD 14)),opD 16 (.load false 1 (tD 15)),opD 17 (.slc 5 (tD 16) (some (cD 1)) none),opD 18 (.pure .nilc [(tD 12)]),opD 19 (.faddr 0 (tD 18)),onD (.store 1 (tD 19) (tD 17))] [[],[],[1],[2],[3],[4],[0,0,1,2,3,4,5],[6,0,1,2,3,4,5],[7,5,0,1,2,3,4,5]] false) (.seq (.region [mvD 20 0,mvD 21 0,opD 22 (.pure .nilc [(tD 21)]),opD 23 (.faddr 1 (tD 22)),opD 24 (.load false 1 (tD 23)),mvD 25 1,oqD 26 (.bslice 25 1 1 [vU] [(0,(tD 25))]) (.ty (.int .u64)),oqD 27 (.app 25 1 [vU] 8 (tD 24) (tD 26)) (.ty (.int .u64)),opD 28 (.pure .nilc [(tD 20)]),opD 29 (.faddr 1 (tD 28)),onD (.store 1 (tD 29) (tD 27))] [[],[],[1],[2],[3],[],[5],[4,6],[0,0,1,2,3,4,5,6,7],[8,0,1,2,3,4,5,6,7],[9,7,7,0,1,2,3,4,5,6,7]] false) (.seq (.region [mvD 30 0,opD 31 (.pure .nilc [(tD 30)]),opD 32 (.faddr 2 (tD 31)),opD 33 (.load false 1 (tD 32)),opD 34 (.faddr 3 (tD 5)),opD 35 (.load false 1 (tD 34)),mvD 36 0,opD 37 (.pure .nilc [(tD 36)]),opD 38 (.faddr 2 (tD 37)),opD 39 (.load false 1 (tD 38)),opD 40 (.faddr 3 (tD 5)),opD 41 (.load false 1 (tD 40)),opD 42 (.mlook (.int .u64) false false 1 [vS] (tD 39) (tD 41)),opD 43 (.slc 1 (tD 42) (some (cD 1)) none),onD (.mset (.int .u64) false 1 (tD 33) (tD 35) (tD 43))] [[],[0],[1],[2],[],[4],[],[6],[7],[8],[],[10],[9,11],[12],[3,5,13,0,1,2,3,4,5,6,7,8,9,10,11,12,13]] true) (.seq (.region [opD 44 (.load true 5 (tD 5)),onD (.store 5 (tD 4) (tD 44))] [[],[0,0]] false) .ret))))))
theorem g67_1 (fu:Nat):(e67_1 fu).Good Try.prog := good_fn orders Try.func67 fu (d67_1 fu) rs67 45 (l := []) trivial
def rs31:List RVx := [(.tmp 4),(.tmp 5),(.tmp 6),(.tmp 7)]
def p31 (fu:Nat):(List (D_api_Record))×((List (D_api_Record))×(Unit))→Option ((Unit)×((List (D_api_Record))×((List (Int))×((List (Int))×((Int)×(Unit)))))) := fun ⟨a,c,_⟩ =>
orK (E := ((Bool)×(Unit))×(Unit))
 (Option.bind (p46 fu (a,())) fun ⟨_,f⟩ =>
 bif !f then
 some (.inl ((true,()),()))
 else
 Option.bind (p46 fu (c,())) fun ⟨_,h⟩ =>
 some (.inl ((!h,()),())))
 fun ⟨⟨i,_⟩,_⟩ =>
bif i then
 some ((),([],[],[],(1:Int),()))
else
 bif decide ((IntKind.wrap .i64 ((List.length a:Int)+(List.length c:Int)))>(4096:Int)) then
 some ((),([],[],[],(143:Int),()))
 else
 Option.bind (pNewSrc fu (a,())) fun ⟨_,⟨j,_,k,_⟩⟩ =>
 Option.bind (pNewSrc fu (c,())) fun ⟨_,⟨l,_,m,_⟩⟩ =>
 loopO (S := ((List (D_api_Record))×(Unit))×(((List (D_api_Record))×((List (Int))×((List ((Int)×(List (Int))))×(Unit))))×(((List (D_api_Record))×((List (Int))×((List ((Int)×(List (Int))))×(Unit))))×(Unit)))) fu (fun ⟨⟨n,_⟩,⟨⟨o,q,s,_⟩,⟨t,u,w,_⟩,_⟩⟩ =>
 orK (E := (Unit)×(((List (D_api_Record))×((List (Int))×((List ((Int)×(List (Int))))×(Unit))))×(((List (D_api_Record))×((List (Int))×((List ((Int)×(List (Int))))×(Unit))))×(Unit))))
 (bif decide (List.length q=List.length q) then
 Option.bind (p65_1 fu ((o,q,s,()),())) fun ⟨⟨⟨x,y,z,_⟩,_,_,_⟩,a0⟩ =>
 bif a0 then
 bif decide (List.length y=List.length y) then
 bif decide (List.length u=List.length u) then
 some (.inl ((),((x,y,z,()),(t,u,w,()),())))
 else none
 else none
 else
 bif decide (List.length u=List.length u) then
 Option.bind (p65_1 fu ((t,u,w,()),())) fun ⟨⟨⟨c0,f0,h0,_⟩,_,_,_⟩,i0⟩ =>
 bif i0 then
 bif decide (List.length y=List.length y) then
 bif decide (List.length f0=List.length f0) then
 some (.inl ((),((x,y,z,()),(c0,f0,h0,()),())))
 else none
 else none
 else
 inrO (inrO (bif decide (List.length y=List.length y) then
 bif decide (List.length y+List.length ([IntKind.wrap .u64 ((List.length n):Int)])≤maxLen∧(List.length y+List.length ([IntKind.wrap .u64 ((List.length n):Int)])) * 8≤140737488355328) then
 bif decide (List.length f0=List.length f0) then
 bif decide (List.length f0+List.length ([IntKind.wrap .u64 ((List.length n):Int)])≤maxLen∧(List.length f0+List.length ([IntKind.wrap .u64 ((List.length n):Int)])) * 8≤140737488355328) then
 bif decide (List.length n=List.length n) then
 bif decide (List.length (y ++ [IntKind.wrap .u64 ((List.length n):Int)])=List.length (y ++ [IntKind.wrap .u64 ((List.length n):Int)])) then
 bif decide (List.length (f0 ++ [IntKind.wrap .u64 ((List.length n):Int)])=List.length (f0 ++ [IntKind.wrap .u64 ((List.length n):Int)])) then
 some ((),(n,(y ++ [IntKind.wrap .u64 ((List.length n):Int)]),(f0 ++ [IntKind.wrap .u64 ((List.length n):Int)]),(0:Int),()))
 else none
 else none
 else none
 else none
 else none
 else none
 else none))
 else none
 else none)
 fun ⟨_,⟨⟨o,q,s,_⟩,⟨t,u,w,_⟩,_⟩⟩ =>
 bif decide (List.length q=List.length q) then
 bif decide (List.length u=List.length u) then
 Option.bind (p66_1 fu ((o,q,s,()),(t,u,w,()),())) fun ⟨⟨⟨j0,k0,l0,_⟩,_,_,⟨m0,n0,o0,_⟩,_,_,_⟩,q0⟩ =>
 bif q0 then
 bif decide (List.length k0=List.length k0) then
 Option.bind (p67_1 fu ((j0,k0,l0,()),IntKind.wrap .u64 ((List.length n):Int),())) fun ⟨⟨⟨s0,t0,u0,_⟩,_,_,_⟩,⟨w0,x0,y0,z0,a1,_⟩⟩ =>
 bif decide (List.length n=List.length n) then
 Option.bind (p57_1 fu (n,(w0,x0,y0,z0,a1,()),())) fun ⟨⟨_,_⟩,c1⟩ =>
 bif decide (List.length c1=List.length c1) then
 bif decide (List.length t0=List.length t0) then
 bif decide (List.length n0=List.length n0) then
 some (.inl ((c1,()),((s0,t0,u0,()),(m0,n0,o0,()),())))
 else none
 else none
 else none
 else none
 else none
 else
 bif decide (List.length n0=List.length n0) then
 bif decide (List.length k0=List.length k0) then
 Option.bind (p66_1 fu ((m0,n0,o0,()),(j0,k0,l0,()),())) fun ⟨⟨⟨f1,h1,i1,_⟩,_,_,⟨j1,k1,l1,_⟩,_,_,_⟩,m1⟩ =>
 bif m1 then
 bif decide (List.length h1=List.length h1) then
 Option.bind (p67_1 fu ((f1,h1,i1,()),IntKind.wrap .u64 ((List.length n):Int),())) fun ⟨⟨⟨n1,o1,q1,_⟩,_,_,_⟩,⟨s1,t1,u1,w1,x1,_⟩⟩ =>
 bif decide (List.length n=List.length n) then
 Option.bind (p57_1 fu (n,(s1,t1,u1,w1,x1,()),())) fun ⟨⟨_,_⟩,y1⟩ =>
 bif decide (List.length y1=List.length y1) then
 bif decide (List.length k1=List.length k1) then
 bif decide (List.length o1=List.length o1) then
 some (.inl ((y1,()),((j1,k1,l1,()),(n1,o1,q1,()),())))
 else none
 else none
 else none
 else none
 else none
 else
 inrO (some ((),([],[],[],(145:Int),())))
 else none
 else none
 else none
 else none)
 (([],()),((j,[],k,()),(l,[],m,()),()))
def e31 (fu:Nat):Ent := ⟨31,(.cons (.hole (.sl T_api_Record)) (.cons (.hole (.sl T_api_Record)) .nil)),.nil,Y9,p31 fu⟩
def d31 (fu:Nat):DC := (.seq (.region [opD 4 (.mov (.const vS)),opD 5 (.mov (.const vS)),opD 6 (.mov (.const vS)),opD 7 (.mov (cD 0))] [[],[0],[1],[2]] false) (.seq (.join ⟨[20],(.cons (.hole .bool) .nil),[],.nil,[0,1],[]⟩
 (.region [mvD 13 0,oqD 14 (.call 46 [(tD 13)]) (.ent (e46 fu)),opD 15 (.not (tD 14)),mvD 16 15,ogD 17 16 false (.mov (tD 1)),(⟨(some 18),(some (16,false)),(.call 46 [(tD 17)])⟩,(.ent (e46 fu))),ogD 19 16 false (.not (tD 18)),opD 20 (.pick (tD 16) (.const (.bool true)) (tD 19))] [[],[0],[1],[2,1],[3],[4,3,3],[5,3],[3,6]] false)
 (.cond (.tmp 20) (.seq (.region [opD 4 (.mov (.const vS)),opD 5 (.mov (.const vS)),opD 6 (.mov (.const vS)),opD 7 (.mov (cD 1))] [[],[0,0],[1,0,1],[2,0,1,2]] false) .ret) .skip)) (.seq (.seq (.region [mvD 21 0,opD 22 (.len false (tD 21)),mvD 23 1,opD 24 (.len false (tD 23)),opD 25 (.bin .add (tD 22) (tD 24)),opD 26 (.bin .gtr (tD 25) (cD 4096))] [[],[0],[],[2],[1,3],[4]] false) (.cond (.tmp 26) (.seq (.region [opD 4 (.mov (.const vS)),opD 5 (.mov (.const vS)),opD 6 (.mov (.const vS)),opD 7 (.mov (cD 143))] [[],[0,0],[1,0,1],[2,0,1,2]] false) .ret) .skip)) (.seq (.region [opD 8 (.mov (.const vS))] [[]] false) (.seq (.region [mvD 27 0,oqD 28 (.call 64 [(tD 27)]) (.ent (eNewSrc fu)),mvD 29 1,oqD 30 (.call 64 [(tD 29)]) (.ent (eNewSrc fu)),mvD 9 28,mvD 10 30] [[],[0],[],[2,1],[1,3,0,1],[3,4,0,1,2,3,4]] false) (.seq (.block 0 (.loop ⟨[8],(.cons (.own .own 37 T_api_Record) .nil),[(192,110,3),(224,110,3)],(.cons Y8 (.cons Y8 .nil)),[9,10],[]⟩
 (.join ⟨[],.nil,[(192,110,3),(224,110,3)],(.cons Y8 (.cons Y8 .nil)),[8,9,10],[272]⟩
 (.seq (.region [mvD 31 9,oqD 32 (.call 65 [(tD 31)]) (.ent (e65_1 fu)),mvD 33 32,ogD 34 33 false (.mov (tD 10)),(⟨(some 35),(some (33,false)),(.call 65 [(tD 34)])⟩,(.ent (e65_1 fu))),opD 36 (.pick (tD 33) (.const (.bool true)) (tD 35))] [[],[0],[1,1],[2],[3,2,2],[2,4]] false) (.cond (.tmp 36) .skip (.exit 0)))
 (.block 1 (.seq (.region [opD 11 (.mov (.const (.pointer none)))] [[]] false) (.seq (.block 2 (.seq (.region [mvD 38 9,mvD 39 10,oqD 40 (.call 66 [(tD 38),(tD 39)]) (.ent (e66_1 fu)),mvD 37 40] [[],[],[0,1],[2,2]] false) (.cond (.tmp 37) (.region [mvD 41 9,mvD 11 41] [[],[0,0]] false) (.seq (.region [mvD 43 10,mvD 44 9,oqD 45 (.call 66 [(tD 43),(tD 44)]) (.ent (e66_1 fu)),mvD 42 45] [[],[],[0,1],[2,2]] false) (.cond (.tmp 42) (.region [mvD 46 10,mvD 11 46] [[],[0,0]] false) (.seq (.region [opD 4 (.mov (.const vS)),opD 5 (.mov (.const vS)),opD 6 (.mov (.const vS)),opD 7 (.mov (cD 145))] [[],[0,0],[1,0,1],[2,0,1,2]] false) .ret)))))) (.region [mvD 47 8,mvD 48 11,mvD 49 8,opD 50 (.len false (tD 49)),opD 51 (.conv .u64 (tD 50)),oqD 52 (.call 67 [(tD 48),(tD 51)]) (.ent (e67_1 fu)),oqD 53 (.call 57 [(tD 47),(tD 52)]) (.ent (e57_1 fu)),mvD 8 53] [[],[],[],[2],[3],[1,4],[0,5,5],[6,6,0,1,2,3,4,5,6]] false))))))) (.seq (.region [mvD 54 8,opD 55 (.len false (tD 54)),opD 56 (.conv .u64 (tD 55)),mvD 12 56] [[],[0],[1],[2,0,1,2]] false) (.seq (.region [mvD 57 8,mvD 58 9,opD 59 (.pure .nilc [(tD 58)]),opD 60 (.faddr 1 (tD 59)),opD 61 (.load false 1 (tD 60)),mvD 62 12,oqD 63 (.bslice 25 1 1 [vU] [(0,(tD 62))]) (.ty (.int .u64)),oqD 64 (.app 25 1 [vU] 8 (tD 61) (tD 63)) (.ty (.int .u64)),mvD 65 10,opD 66 (.pure .nilc [(tD 65)]),opD 67 (.faddr 1 (tD 66)),opD 68 (.load false 1 (tD 67)),mvD 69 12,oqD 70 (.bslice 25 1 1 [vU] [(0,(tD 69))]) (.ty (.int .u64)),oqD 71 (.app 25 1 [vU] 8 (tD 68) (tD 70)) (.ty (.int .u64)),mvD 4 57,mvD 5 64,mvD 6 71,opD 7 (.mov (cD 0))] [[],[],[1],[2],[3],[],[5],[4,6],[],[8],[9],[10],[],[12],[11,13,7],[0,14,0],[7,15,0,1,2,3,4,5,6,7,15],[14,16,0,1,2,3,4,5,6,7,8,9,10,11,12,13,14,15,16],[17,0,1,2,3,4,5,6,7,8,9,10,11,12,13,14,15,16,17]] true) .ret))))))))
theorem g31 (fu:Nat):(e31 fu).Good Try.prog := good_fn orders Try.func31 fu (d31 fu) rs31 72 (l := [e46 fu,e46 fu,eNewSrc fu,eNewSrc fu,e65_1 fu,e65_1 fu,e66_1 fu,e66_1 fu,e67_1 fu,e57_1 fu]) ⟨g46 fu,g46 fu,gNewSrc fu,gNewSrc fu,g65_1 fu,g65_1 fu,g66_1 fu,g66_1 fu,g67_1 fu,g57_1 fu,trivial⟩
def rs71:List RVx := [(.cell 4 true 4)]
def p71 (_:Nat):((Int)×((Int)×((Bool)×((Int)×(Unit)))))×(((Int)×((Int)×((Bool)×((Int)×(Unit)))))×(Unit))→Option ((Unit)×((Int)×((Int)×((Bool)×((Int)×(Unit)))))) := fun ⟨⟨a,c,f,h,_⟩,⟨i,j,k,l,_⟩,_⟩ =>
bif decide (j>c) then
 some ((),(i,j,k,l,()))
else
 bif (j==c) then
 bif k then
 bif !f then
 some ((),(i,j,k,l,()))
 else
 some ((),(a,c,f,h,()))
 else
 some ((),(a,c,f,h,()))
 else
 some ((),(a,c,f,h,()))
def e71 (fu:Nat):Ent := ⟨71,(.cons (.agg 4 (.cons (.hole (.int .u64)) (.cons (.hole (.int .u64)) (.cons (.hole .bool) (.cons (.hole (.int .u64)) .nil))))) (.cons (.agg 4 (.cons (.hole (.int .u64)) (.cons (.hole (.int .u64)) (.cons (.hole .bool) (.cons (.hole (.int .u64)) .nil))))) .nil)),.nil,(.agg 4 (.cons (.hole (.int .u64)) (.cons (.hole (.int .u64)) (.cons (.hole .bool) (.cons (.hole (.int .u64)) .nil))))),p71 fu⟩
def d71 (_:Nat):DC := (.seq (.region [opD 2 (.box 39 4 (tD 0)),opD 3 (.box 39 4 (tD 1)),opD 4 (.alloc 39 4 [vU,vU,vB,vU])] [[],[],[]] false) (.seq (.seq (.region [opD 5 (.faddr 1 (tD 3)),opD 6 (.load false 1 (tD 5)),opD 7 (.faddr 1 (tD 2)),opD 8 (.load false 1 (tD 7)),opD 9 (.bin .gtr (tD 6) (tD 8)),mvD 10 9,ogD 11 10 false (.faddr 1 (tD 3)),ogD 12 10 false (.load false 1 (tD 11)),ogD 13 10 false (.faddr 1 (tD 2)),ogD 14 10 false (.load false 1 (tD 13)),ogD 15 10 false (.bin .eql (tD 12) (tD 14)),ogD 16 10 false (.mov (tD 15)),ogD 17 16 true (.faddr 2 (tD 3)),ogD 18 16 true (.load false 1 (tD 17)),ogD 19 10 false (.pick (tD 16) (tD 18) (.const vB)),ogD 20 10 false (.mov (tD 19)),ogD 21 20 true (.faddr 2 (tD 2)),ogD 22 20 true (.load false 1 (tD 21)),ogD 23 20 true (.not (tD 22)),ogD 24 10 false (.pick (tD 20) (tD 23) (.const vB)),opD 25 (.pick (tD 10) (.const (.bool true)) (tD 24))] [[],[0],[],[2],[1,3],[4],[5],[6,5],[5],[8,5],[7,9,5],[10,5,5],[11],[12,11],[11,13,5],[14,11,5],[15],[16,15],[17,15],[15,18,5],[5,19]] false) (.cond (.tmp 25) (.seq (.region [opD 26 (.load true 4 (tD 3)),onD (.store 4 (tD 4) (tD 26))] [[],[0,0]] false) .ret) .skip)) (.seq (.region [opD 27 (.load true 4 (tD 2)),onD (.store 4 (tD 4) (tD 27))] [[],[0,0]] false) .ret)))
theorem g71 (fu:Nat):(e71 fu).Good Try.prog := good_fn orders Try.func71 fu (d71 fu) rs71 28 (l := []) trivial
def rs69:List RVx := [(.tmp 8)]
def p69 (fu:Nat):(List (D_api_Producer))×((List (D_api_Producer))×(((Unit)×(Unit))×(((Unit)×(Unit))×(Unit))))→Option ((Unit)×(List (D_api_Producer))) := fun ⟨a,c,⟨_,_⟩,⟨_,_⟩,_⟩ =>
orK (E := ((List (D_api_Producer))×((List (D_api_Producer))×((List (D_api_Producer))×(Unit))))×(Unit))
 (loopO (S := ((List (D_api_Producer))×((List (D_api_Producer))×((List (D_api_Producer))×(Unit))))×(Unit)) fu (fun ⟨⟨f,h,i,_⟩,_⟩ =>
 bif decide ((List.length f:Int)>(0:Int)) then
 bif decide ((List.length h:Int)>(0:Int)) then
 bif decide ((0:Int)≤0∧0<(List.length f:Int)) then
 bif decide (0<List.length f) then
 bif decide ((0:Int)≤0∧0<(List.length h:Int)) then
 bif decide (0<List.length h) then
 Option.bind (p70 fu (((List.getD f 0 (dflt T_api_Producer)).1,((List.getD f 0 (dflt T_api_Producer)).2).1,(((List.getD f 0 (dflt T_api_Producer)).2).2).1,(((List.getD f 0 (dflt T_api_Producer)).2).2).2,()),((List.getD h 0 (dflt T_api_Producer)).1,((List.getD h 0 (dflt T_api_Producer)).2).1,(((List.getD h 0 (dflt T_api_Producer)).2).2).1,(((List.getD h 0 (dflt T_api_Producer)).2).2).2,()),())) fun ⟨_,j⟩ =>
 bif decide (j<(0:Int)) then
 bif decide ((0:Int)≤0∧0<(List.length f:Int)) then
 bif decide (0<List.length f) then
 bif decide (List.length i=List.length i) then
 bif decide (List.length i+List.length ([((List.getD f 0 (dflt T_api_Producer)).1,((List.getD f 0 (dflt T_api_Producer)).2).1,(((List.getD f 0 (dflt T_api_Producer)).2).2).1,(((List.getD f 0 (dflt T_api_Producer)).2).2).2)])≤maxLen∧(List.length i+List.length ([((List.getD f 0 (dflt T_api_Producer)).1,((List.getD f 0 (dflt T_api_Producer)).2).1,(((List.getD f 0 (dflt T_api_Producer)).2).2).1,(((List.getD f 0 (dflt T_api_Producer)).2).2).2)])) * 32≤140737488355328) then
 bif decide (1≤List.length f) then
 bif decide (List.length (i ++ [((List.getD f 0 (dflt T_api_Producer)).1,((List.getD f 0 (dflt T_api_Producer)).2).1,(((List.getD f 0 (dflt T_api_Producer)).2).2).1,(((List.getD f 0 (dflt T_api_Producer)).2).2).2)])=List.length (i ++ [((List.getD f 0 (dflt T_api_Producer)).1,((List.getD f 0 (dflt T_api_Producer)).2).1,(((List.getD f 0 (dflt T_api_Producer)).2).2).1,(((List.getD f 0 (dflt T_api_Producer)).2).2).2)])) then
 some (.inl ((List.drop 1 f,h,(i ++ [((List.getD f 0 (dflt T_api_Producer)).1,((List.getD f 0 (dflt T_api_Producer)).2).1,(((List.getD f 0 (dflt T_api_Producer)).2).2).1,(((List.getD f 0 (dflt T_api_Producer)).2).2).2)]),()),()))
 else none
 else none
 else none
 else none
 else none
 else none
 else
 bif decide (j>(0:Int)) then
 bif decide ((0:Int)≤0∧0<(List.length h:Int)) then
 bif decide (0<List.length h) then
 bif decide (List.length i=List.length i) then
 bif decide (List.length i+List.length ([((List.getD h 0 (dflt T_api_Producer)).1,((List.getD h 0 (dflt T_api_Producer)).2).1,(((List.getD h 0 (dflt T_api_Producer)).2).2).1,(((List.getD h 0 (dflt T_api_Producer)).2).2).2)])≤maxLen∧(List.length i+List.length ([((List.getD h 0 (dflt T_api_Producer)).1,((List.getD h 0 (dflt T_api_Producer)).2).1,(((List.getD h 0 (dflt T_api_Producer)).2).2).1,(((List.getD h 0 (dflt T_api_Producer)).2).2).2)])) * 32≤140737488355328) then
 bif decide (1≤List.length h) then
 bif decide (List.length (i ++ [((List.getD h 0 (dflt T_api_Producer)).1,((List.getD h 0 (dflt T_api_Producer)).2).1,(((List.getD h 0 (dflt T_api_Producer)).2).2).1,(((List.getD h 0 (dflt T_api_Producer)).2).2).2)])=List.length (i ++ [((List.getD h 0 (dflt T_api_Producer)).1,((List.getD h 0 (dflt T_api_Producer)).2).1,(((List.getD h 0 (dflt T_api_Producer)).2).2).1,(((List.getD h 0 (dflt T_api_Producer)).2).2).2)])) then
 some (.inl ((f,List.drop 1 h,(i ++ [((List.getD h 0 (dflt T_api_Producer)).1,((List.getD h 0 (dflt T_api_Producer)).2).1,(((List.getD h 0 (dflt T_api_Producer)).2).2).1,(((List.getD h 0 (dflt T_api_Producer)).2).2).2)]),()),()))
 else none
 else none
 else none
 else none
 else none
 else none
 else
 bif decide ((0:Int)≤0∧0<(List.length f:Int)) then
 bif decide (0<List.length f) then
 bif decide ((0:Int)≤0∧0<(List.length h:Int)) then
 bif decide (0<List.length h) then
 Option.bind (p71 fu (((List.getD f 0 (dflt T_api_Producer)).1,((List.getD f 0 (dflt T_api_Producer)).2).1,(((List.getD f 0 (dflt T_api_Producer)).2).2).1,(((List.getD f 0 (dflt T_api_Producer)).2).2).2,()),((List.getD h 0 (dflt T_api_Producer)).1,((List.getD h 0 (dflt T_api_Producer)).2).1,(((List.getD h 0 (dflt T_api_Producer)).2).2).1,(((List.getD h 0 (dflt T_api_Producer)).2).2).2,()),())) fun ⟨_,⟨k,l,m,n,_⟩⟩ =>
 bif decide (List.length i=List.length i) then
 bif decide (List.length i+List.length ([(k,l,m,n)])≤maxLen∧(List.length i+List.length ([(k,l,m,n)])) * 32≤140737488355328) then
 bif decide (1≤List.length f) then
 bif decide (1≤List.length h) then
 bif decide (List.length (i ++ [(k,l,m,n)])=List.length (i ++ [(k,l,m,n)])) then
 some (.inl ((List.drop 1 f,List.drop 1 h,(i ++ [(k,l,m,n)]),()),()))
 else none
 else none
 else none
 else none
 else none
 else none
 else none
 else none
 else none
 else none
 else none
 else none
 else none
 else
 inrO (bif decide (List.length i=List.length i) then
 some (.inl ((f,h,i,()),()))
 else none)
 else
 inrO (bif decide (List.length i=List.length i) then
 some (.inl ((f,h,i,()),()))
 else none))
 ((a,c,[],()),()))
 fun ⟨⟨f,h,i,_⟩,_⟩ =>
bif decide (List.length i=List.length i) then
 bif decide (List.length i+List.length f≤maxLen∧(List.length i+List.length f) * 32≤140737488355328) then
 bif decide (List.length (i ++ f)=List.length (i ++ f)) then
 bif decide (List.length (i ++ f)+List.length h≤maxLen∧(List.length (i ++ f)+List.length h) * 32≤140737488355328) then
 bif decide (List.length ((i ++ f) ++ h)=List.length ((i ++ f) ++ h)) then
 some ((),((i ++ f) ++ h))
 else none
 else none
 else none
 else none
else none
def e69 (fu:Nat):Ent := ⟨69,(.cons (.hole (.sl T_api_Producer)) (.cons (.hole (.sl T_api_Producer)) (.cons (.clo 70 0 .nil 0 .nil) (.cons (.clo 71 0 .nil 0 .nil) .nil)))),.nil,(.own .own 39 T_api_Producer),p69 fu⟩
def d69 (fu:Nat):DC := (.seq (.region [opD 8 (.mov (.const vS))] [[]] false) (.seq (.region [opD 9 (.mov (.const vS))] [[]] false) (.join ⟨[0,1,9],(.cons (.hole (.sl T_api_Producer)) (.cons (.hole (.sl T_api_Producer)) (.cons (.own .own 39 T_api_Producer) .nil))),[],.nil,[],[]⟩
 (.block 0 (.loop ⟨[0,1,9],(.cons (.hole (.sl T_api_Producer)) (.cons (.hole (.sl T_api_Producer)) (.cons (.own .own 39 T_api_Producer) .nil))),[],.nil,[2,3],[]⟩
 (.seq (.seq (.region [mvD 11 0,opD 12 (.len false (tD 11)),opD 13 (.bin .gtr (tD 12) (cD 0)),mvD 14 13,ogD 15 14 true (.mov (tD 1)),ogD 16 14 true (.len false (tD 15)),ogD 17 14 true (.bin .gtr (tD 16) (cD 0)),opD 18 (.pick (tD 14) (tD 17) (.const vB))] [[],[0],[1],[2],[3],[4,3],[5,3],[3,6]] false) (.cond (.tmp 18) .skip (.exit 0))) (.block 1 (.seq (.region [mvD 19 2,mvD 20 0,opD 21 (.iaddr 4 (tD 20) (cD 0)),opD 22 (.load true 4 (tD 21)),mvD 23 1,opD 24 (.iaddr 4 (tD 23) (cD 0)),opD 25 (.load true 4 (tD 24)),oqD 26 (.callv (tD 19) [(tD 22),(tD 25)]) (.ent (e70 fu)),mvD 10 26] [[],[],[1],[2],[],[4],[5],[0,3,6],[7,7,0,1,2,3,4,5,6,7]] true) (.block 2 (.seq (.region [mvD 43 10,opD 44 (.bin .lss (tD 43) (cD 0)),mvD 42 44] [[],[0],[1]] false) (.cond (.tmp 42) (.region [mvD 45 9,mvD 46 0,opD 47 (.iaddr 4 (tD 46) (cD 0)),opD 48 (.load true 4 (tD 47)),oqD 49 (.bslice 39 4 1 [vU,vU,vB,vU] [(0,(tD 48))]) (.ty T_api_Producer),oqD 50 (.app 39 4 [vU,vU,vB,vU] 32 (tD 45) (tD 49)) (.ty T_api_Producer),mvD 51 0,opD 52 (.slc 4 (tD 51) (some (cD 1)) none),mvD 9 50,mvD 0 52] [[],[],[1],[2],[3],[0,4],[],[6],[5,5,0,1,2,3,4,5],[7,8,0,1,2,3,4,5,6,7,8]] true) (.seq (.region [mvD 54 10,opD 55 (.bin .gtr (tD 54) (cD 0)),mvD 53 55] [[],[0],[1]] false) (.cond (.tmp 53) (.region [mvD 56 9,mvD 57 1,opD 58 (.iaddr 4 (tD 57) (cD 0)),opD 59 (.load true 4 (tD 58)),oqD 60 (.bslice 39 4 1 [vU,vU,vB,vU] [(0,(tD 59))]) (.ty T_api_Producer),oqD 61 (.app 39 4 [vU,vU,vB,vU] 32 (tD 56) (tD 60)) (.ty T_api_Producer),mvD 62 1,opD 63 (.slc 4 (tD 62) (some (cD 1)) none),mvD 9 61,mvD 1 63] [[],[],[1],[2],[3],[0,4],[],[6],[5,5,0,1,2,3,4,5],[7,8,0,1,2,3,4,5,6,7,8]] true) (.region [mvD 27 9,mvD 28 3,mvD 29 0,opD 30 (.iaddr 4 (tD 29) (cD 0)),opD 31 (.load true 4 (tD 30)),mvD 32 1,opD 33 (.iaddr 4 (tD 32) (cD 0)),opD 34 (.load true 4 (tD 33)),oqD 35 (.callv (tD 28) [(tD 31),(tD 34)]) (.ent (e71 fu)),oqD 36 (.bslice 39 4 1 [vU,vU,vB,vU] [(0,(tD 35))]) (.ty T_api_Producer),oqD 37 (.app 39 4 [vU,vU,vB,vU] 32 (tD 27) (tD 36)) (.ty T_api_Producer),mvD 38 0,opD 39 (.slc 4 (tD 38) (some (cD 1)) none),mvD 40 1,opD 41 (.slc 4 (tD 40) (some (cD 1)) none),mvD 9 37,mvD 0 39,mvD 1 41] [[],[],[],[2],[3],[],[5],[6],[1,4,7],[8],[0,9,8],[],[11],[],[13],[10,10,0,1,2,3,4,5,6,7,8,9,10],[12,15,0,1,2,3,4,5,6,7,8,9,10,11,12,15],[14,16,0,1,2,3,4,5,6,7,8,9,10,11,12,13,14,15,16]] true)))))))))))
 (.seq (.region [mvD 64 9,mvD 65 0,oqD 66 (.app 39 4 [vU,vU,vB,vU] 32 (tD 64) (tD 65)) (.ty T_api_Producer),mvD 67 1,oqD 68 (.app 39 4 [vU,vU,vB,vU] 32 (tD 66) (tD 67)) (.ty T_api_Producer),mvD 8 68] [[],[],[0,1],[],[2,3,2],[4,4,0,1,2,3,4]] false) .ret))))
theorem g69 (fu:Nat):(e69 fu).Good Try.prog := good_fn orders Try.func69 fu (d69 fu) rs69 69 (l := [e70 fu,e71 fu]) ⟨g70 fu,g71 fu,trivial⟩
def rs68:List RVx := [(.tmp 2),(.tmp 3)]
def p68_1 (_:Nat):(List (D_api_Producer))×(Unit)→Option (((Unit)×(Unit))×((List (D_api_Producer))×((Int)×(Unit)))) := fun ⟨a,_⟩ =>
bif decide (((List.length a):Int)>(256:Int)) then
 some (((),()),([],(153:Int),()))
else
 bif decide (List.length a=List.length a) then
 some (((),()),(a,(0:Int),()))
 else none
def e68_1 (fu:Nat):Ent := ⟨68,(.cons (.own .own 39 T_api_Producer) .nil),(.cons .dead .nil),(.tup 2 (.cons (.own .own 39 T_api_Producer) (.cons (.hole (.int .i64)) .nil))),p68_1 fu⟩
def d68_1 (_:Nat):DC := (.seq (.region [opD 2 (.mov (.const vS)),opD 3 (.mov (cD 0))] [[],[0]] false) (.seq (.seq (.region [mvD 4 0,opD 5 (.len false (tD 4)),opD 6 (.bin .gtr (tD 5) (cD 256))] [[],[0],[1]] false) (.cond (.tmp 6) (.seq (.region [opD 2 (.mov (.const vS)),opD 3 (.mov (cD 153))] [[],[0,0]] false) .ret) .skip)) (.seq (.region [mvD 7 0,mvD 2 7,opD 3 (.mov (cD 0))] [[],[0,0],[1,0,1]] false) .ret)))
theorem g68_1 (fu:Nat):(e68_1 fu).Good Try.prog := good_fn orders Try.func68 fu (d68_1 fu) rs68 8 (l := []) trivial
def rs33:List RVx := [(.tmp 8),(.tmp 9)]
def p33 (fu:Nat):(List (D_api_Producer))×((List (D_api_Producer))×((List (Int))×((List (Int))×(Unit))))→Option ((Unit)×((List (D_api_Producer))×((Int)×(Unit)))) := fun ⟨a,c,f,h,_⟩ =>
Option.bind (p47 fu (a,())) fun ⟨_,i⟩ =>
bif !i then
 some ((),([],(1:Int),()))
else
 Option.bind (p47 fu (c,())) fun ⟨_,j⟩ =>
 bif !j then
 some ((),([],(1:Int),()))
 else
 Option.bind (p23 fu (a,f,())) fun ⟨_,k⟩ =>
 Option.bind (p23 fu (c,h,())) fun ⟨_,l⟩ =>
 bif decide (List.length k=List.length k) then
 bif decide (List.length l=List.length l) then
 Option.bind (p69 fu (k,l,((),()),((),()),())) fun ⟨_,m⟩ =>
 bif decide (List.length m=List.length m) then
 Option.bind (p68_1 fu (m,())) fun ⟨⟨_,_⟩,⟨n,o,_⟩⟩ =>
 bif decide (List.length n=List.length n) then
 some ((),(n,o,()))
 else none
 else none
 else none
 else none
def e33 (fu:Nat):Ent := ⟨33,(.cons (.hole (.sl T_api_Producer)) (.cons (.hole (.sl T_api_Producer)) (.cons (.hole (.sl (.int .u64))) (.cons (.hole (.sl (.int .u64))) .nil)))),.nil,(.tup 2 (.cons (.own .own 39 T_api_Producer) (.cons (.hole (.int .i64)) .nil))),p33 fu⟩
def d33 (fu:Nat):DC := (.seq (.region [opD 8 (.mov (.const vS)),opD 9 (.mov (cD 0))] [[],[0]] false) (.seq (.seq (.region [mvD 10 0,oqD 11 (.call 47 [(tD 10)]) (.ent (e47 fu)),opD 12 (.not (tD 11)),mvD 13 12,ogD 14 13 false (.mov (tD 1)),(⟨(some 15),(some (13,false)),(.call 47 [(tD 14)])⟩,(.ent (e47 fu))),ogD 16 13 false (.not (tD 15)),opD 17 (.pick (tD 13) (.const (.bool true)) (tD 16))] [[],[0],[1],[2,1],[3],[4,3,3],[5,3],[3,6]] false) (.cond (.tmp 17) (.seq (.region [opD 8 (.mov (.const vS)),opD 9 (.mov (cD 1))] [[],[0,0]] false) .ret) .skip)) (.seq (.region [mvD 18 0,mvD 19 2,oqD 20 (.call 23 [(tD 18),(tD 19)]) (.ent (e23 fu)),mvD 21 1,mvD 22 3,oqD 23 (.call 23 [(tD 21),(tD 22)]) (.ent (e23 fu)),oqD 24 (.call 69 [(tD 20),(tD 23),(.func 70),(.func 71)]) (.ent (e69 fu)),oqD 25 (.call 68 [(tD 24)]) (.ent (e68_1 fu)),opD 26 (.ext (tD 25) 0),opD 27 (.ext (tD 25) 1),mvD 8 26,mvD 9 27] [[],[],[0,1],[],[],[3,4,2],[2,5,5],[6,6],[7],[7],[8,7,0,1,2,3,4,5,6,7,8,9],[9,10,0,1,2,3,4,5,6,7,8,9,10]] false) .ret)))
theorem g33 (fu:Nat):(e33 fu).Good Try.prog := good_fn orders Try.func33 fu (d33 fu) rs33 28 (l := [e47 fu,e47 fu,e23 fu,e23 fu,e69 fu,e68_1 fu]) ⟨g47 fu,g47 fu,g23 fu,g23 fu,g69 fu,g68_1 fu,trivial⟩
def rs97:List RVx := [(.tmp 4)]
def p97 (_:Nat):(Unit)×((Int)×(Unit))→Option ((Unit)×(List (D_runtime_errorAddressString))) := fun ⟨_,a,_⟩ =>
bif decide (a<(0:Int)) then
 none
else
 bif decide ((IntKind.wrap .i64 (a-(0:Int)))>(0:Int)) then
 bif decide ((0:Int)<IntKind.wrap .i64 (a-(0:Int))∧(IntKind.wrap .i64 (a-(0:Int)):Int) * 24≤140737488355328∧(IntKind.wrap .i64 (a-(0:Int)):Int)≤9223372036854775807) then
 bif decide (0≤0∧0≤List.length (List.replicate (Int.toNat (IntKind.wrap .i64 (a-(0:Int)))) ((⟨#[]⟩:ByteArray),(0:Int)):List (D_runtime_errorAddressString))) then
 bif decide (0=List.length (List.take 0 (List.replicate (Int.toNat (IntKind.wrap .i64 (a-(0:Int)))) ((⟨#[]⟩:ByteArray),(0:Int)):List (D_runtime_errorAddressString)))) then
 some ((),List.take 0 (List.replicate (Int.toNat (IntKind.wrap .i64 (a-(0:Int)))) ((⟨#[]⟩:ByteArray),(0:Int)):List (D_runtime_errorAddressString)))
 else none
 else none
 else none
 else
 some ((),[])
def e97 (fu:Nat):Ent := ⟨97,(.cons .nils (.cons (.hole (.int .i64)) .nil)),.nil,(.own .own 41 T_runtime_errorAddressString),p97 fu⟩
def d97 (_:Nat):DC := (.seq (.region [opD 4 (.mov (.const vS))] [[]] false) (.seq (.seq (.region [mvD 5 1,opD 6 (.bin .lss (tD 5) (cD 0))] [[],[0]] false) (.cond (.tmp 6) (.region [opD 7 (.ifc 9 (.const (.string ⟨#[99,97,110,110,111,116,32,98,101,32,110,101,103,97,116,105,118,101]⟩))),onD .bad] [[],[0]] false) .skip)) (.seq (.seq (.region [mvD 8 1,mvD 9 0,opD 10 (.pure .capn [(tD 9)]),mvD 11 0,opD 12 (.len false (tD 11)),opD 13 (.bin .sub (tD 10) (tD 12)),opD 14 (.bin .sub (tD 8) (tD 13)),mvD 1 14] [[],[],[1],[],[3],[2,4],[0,5],[6,0,1,2,3,4,5,6]] false) (.seq (.region [mvD 15 1,opD 16 (.bin .gtr (tD 15) (cD 0))] [[],[0]] false) (.cond (.tmp 16) (.region [mvD 17 0,mvD 18 0,opD 19 (.pure .capn [(tD 18)]),opD 20 (.slc 2 (tD 17) none (some (tD 19))),mvD 21 1,oqD 22 (.appz 41 2 [vT,vU] 24 (tD 20) (tD 21)) (.ty T_runtime_errorAddressString),mvD 23 0,opD 24 (.len false (tD 23)),opD 25 (.slc 2 (tD 22) none (some (tD 24))),mvD 0 25] [[],[],[1],[0,2],[],[3,4],[],[6],[5,7],[8,5,0,1,2,3,4,5,6,7,8]] false) .skip))) (.seq (.region [mvD 26 0,mvD 4 26] [[],[0,0]] false) .ret))))
theorem g97 (fu:Nat):(e97 fu).Good Try.prog := good_fn orders Try.func97 fu (d97 fu) rs97 27 (l := []) trivial
def rs72:List RVx := [(.tmp 2)]
def p72 (fu:Nat):(List (List (D_runtime_errorAddressString)))×(Unit)→Option ((Unit)×(List (D_runtime_errorAddressString))) := fun ⟨a,_⟩ =>
loopO (S := ((Int)×((Int)×(Unit)))×(Unit)) fu (fun ⟨⟨c,f,_⟩,_⟩ =>
 bif decide (f<(List.length a:Int)) then
 bif decide ((0:Int)≤f∧f<(List.length a:Int)) then
 bif decide (Int.toNat f<List.length a) then
 bif decide ((IntKind.wrap .i64 (c+(List.length (List.getD a (Int.toNat f) (dflt (.sl T_runtime_errorAddressString))):Int)))<(0:Int)) then
 none
 else
 some (.inl ((IntKind.wrap .i64 (c+(List.length (List.getD a (Int.toNat f) (dflt (.sl T_runtime_errorAddressString))):Int)),IntKind.wrap .i64 (f+(1:Int)),()),()))
 else none
 else none
 else
 inrO (Option.bind (p97 fu ((),c,())) fun ⟨_,h⟩ =>
 bif decide (List.length h=List.length h) then
 loopO (S := ((List (D_runtime_errorAddressString))×((Int)×(Unit)))×(Unit)) fu (fun ⟨⟨i,j,_⟩,_⟩ =>
 bif decide (j<(List.length a:Int)) then
 bif decide ((0:Int)≤j∧j<(List.length a:Int)) then
 bif decide (Int.toNat j<List.length a) then
 bif decide (List.length i=List.length i) then
 bif decide (List.length i+List.length (List.getD a (Int.toNat j) (dflt (.sl T_runtime_errorAddressString)))≤maxLen∧(List.length i+List.length (List.getD a (Int.toNat j) (dflt (.sl T_runtime_errorAddressString)))) * 24≤140737488355328) then
 bif decide (List.length (i ++ (List.getD a (Int.toNat j) (dflt (.sl T_runtime_errorAddressString))))=List.length (i ++ (List.getD a (Int.toNat j) (dflt (.sl T_runtime_errorAddressString))))) then
 some (.inl (((i ++ (List.getD a (Int.toNat j) (dflt (.sl T_runtime_errorAddressString)))),IntKind.wrap .i64 (j+(1:Int)),()),()))
 else none
 else none
 else none
 else none
 else none
 else
 inrO (bif decide (List.length i=List.length i) then
 some ((),i)
 else none))
 ((h,(0:Int),()),())
 else none))
 (((0:Int),(0:Int),()),())
def e72 (fu:Nat):Ent := ⟨72,(.cons (.hole (.sl (.sl T_runtime_errorAddressString))) .nil),.nil,(.own .own 41 T_runtime_errorAddressString),p72 fu⟩
def d72 (fu:Nat):DC := (.seq (.region [opD 2 (.mov (.const vS))] [[]] false) (.seq (.region [opD 3 (.mov (cD 0))] [[]] false) (.seq (.seq (.region [mvD 9 0,opD 10 (.len false (tD 9)),opD 11 (.mov (cD 0))] [[],[0],[]] false) (.block 0 (.loop ⟨[3,11],(.cons (.hole (.int .i64)) (.cons (.hole (.int .i64)) .nil)),[],.nil,[0,9,10],[]⟩
 (.seq (.region [opD 12 (.bin .lss (tD 11) (tD 10))] [[]] false) (.seq (.cond (.tmp 12) .skip (.exit 0)) (.seq (.block 1 (.seq (.region [opD 13 (.iaddr 1 (tD 9) (tD 11)),opD 14 (.load false 1 (tD 13)),mvD 5 14] [[],[0],[1,0,1]] false) (.seq (.region [mvD 15 3,mvD 16 5,opD 17 (.len false (tD 16)),opD 18 (.bin .add (tD 15) (tD 17)),mvD 3 18] [[],[],[1],[0,2],[3,0,1,2,3]] false) (.seq (.region [mvD 19 3,opD 20 (.bin .lss (tD 19) (cD 0))] [[],[0]] false) (.cond (.tmp 20) (.region [opD 21 (.ifc 9 (.const (.string ⟨#[108,101,110,32,111,117,116,32,111,102,32,114,97,110,103,101]⟩))),onD .bad] [[],[0]] false) .skip))))) (.region [opD 22 (.bin .add (tD 11) (cD 1)),mvD 11 22] [[],[0]] false))))))) (.seq (.region [mvD 23 3,oqD 24 (.call 97 [(.const vS),(tD 23)]) (.ent (e97 fu)),mvD 6 24] [[],[0],[1,1,0,1]] false) (.seq (.seq (.region [mvD 25 0,opD 26 (.len false (tD 25)),opD 27 (.mov (cD 0))] [[],[0],[]] false) (.block 2 (.loop ⟨[6,27],(.cons (.own .own 41 T_runtime_errorAddressString) (.cons (.hole (.int .i64)) .nil)),[],.nil,[25,26],[]⟩
 (.seq (.region [opD 28 (.bin .lss (tD 27) (tD 26))] [[]] false) (.seq (.cond (.tmp 28) .skip (.exit 2)) (.seq (.block 3 (.seq (.region [opD 29 (.iaddr 1 (tD 25) (tD 27)),opD 30 (.load false 1 (tD 29)),mvD 8 30] [[],[0],[1,0,1]] false) (.region [mvD 31 6,mvD 32 8,oqD 33 (.app 41 2 [vT,vU] 24 (tD 31) (tD 32)) (.ty T_runtime_errorAddressString),mvD 6 33] [[],[],[0,1],[2,2,0,1,2]] false))) (.region [opD 34 (.bin .add (tD 27) (cD 1)),mvD 27 34] [[],[0]] false))))))) (.seq (.region [mvD 35 6,mvD 2 35] [[],[0,0]] false) .ret))))))
theorem g72 (fu:Nat):(e72 fu).Good Try.prog := good_fn orders Try.func72 fu (d72 fu) rs72 36 (l := [e97 fu]) ⟨g97 fu,trivial⟩
def rs73:List RVx := [(.tmp 4),(.tmp 5)]
def p73 (fu:Nat):(List (D_runtime_errorAddressString))×((ByteArray)×(Unit))→Option ((Unit)×((Int)×((Bool)×(Unit)))) := fun ⟨a,c,_⟩ =>
loopO (S := ((Int)×(Unit))×(Unit)) fu (fun ⟨⟨f,_⟩,_⟩ =>
 bif decide (f<(List.length a:Int)) then
 bif decide ((0:Int)≤f∧f<(List.length a:Int)) then
 bif decide (Int.toNat f<List.length a) then
 bif ByteArray.toList ((List.getD a (Int.toNat f) (dflt T_runtime_errorAddressString)).1)==ByteArray.toList c then
 inrO (some ((),((List.getD a (Int.toNat f) (dflt T_runtime_errorAddressString)).2,true,())))
 else
 some (.inl ((IntKind.wrap .i64 (f+(1:Int)),()),()))
 else none
 else none
 else
 inrO (some ((),((0:Int),false,()))))
 (((0:Int),()),())
def e73 (fu:Nat):Ent := ⟨73,(.cons (.hole (.sl T_runtime_errorAddressString)) (.cons (.hole .str) .nil)),.nil,(.tup 2 (.cons (.hole (.int .u64)) (.cons (.hole .bool) .nil))),p73 fu⟩
def d73 (_:Nat):DC := (.seq (.region [opD 4 (.mov (.const vU)),opD 5 (.mov (.const vB))] [[],[0]] false) (.seq (.seq (.region [mvD 8 0,opD 9 (.len false (tD 8)),opD 10 (.mov (cD 0))] [[],[0],[]] false) (.block 0 (.loop ⟨[10],(.cons (.hole (.int .i64)) .nil),[],.nil,[1,8,9],[]⟩
 (.seq (.region [opD 11 (.bin .lss (tD 10) (tD 9))] [[]] false) (.seq (.cond (.tmp 11) .skip (.exit 0)) (.seq (.block 1 (.seq (.region [opD 12 (.iaddr 2 (tD 8) (tD 10)),opD 13 (.load true 2 (tD 12)),opD 7 (.alloc 41 2 [vT,vU]),onD (.store 2 (tD 7) (tD 13))] [[],[0],[],[2,1,0,1,2]] false) (.seq (.region [opD 14 (.faddr 0 (tD 7)),opD 15 (.load false 1 (tD 14)),mvD 16 1,opD 17 (.bin .eql (tD 15) (tD 16))] [[],[0],[],[1,2]] false) (.cond (.tmp 17) (.seq (.region [opD 18 (.faddr 1 (tD 7)),opD 19 (.load false 1 (tD 18)),mvD 4 19,opD 5 (.mov (.const (.bool true)))] [[],[0],[1,0,1],[2,0,1,2]] false) .ret) .skip)))) (.region [opD 20 (.bin .add (tD 10) (cD 1)),mvD 10 20] [[],[0]] false))))))) (.seq (.region [opD 4 (.mov (.const vU)),opD 5 (.mov (.const vB))] [[],[0,0]] false) .ret)))
theorem g73 (fu:Nat):(e73 fu).Good Try.prog := good_fn orders Try.func73 fu (d73 fu) rs73 21 (l := []) trivial
def rs101:List RVx := [(.tmp 4)]
def p101 (fu:Nat):(ByteArray)×((ByteArray)×(Unit))→Option ((Unit)×(Int)) := fun ⟨a,c,_⟩ =>
Option.bind (pCmpS fu (a,c,())) fun ⟨_,f⟩ =>
some ((),f)
def e101 (fu:Nat):Ent := ⟨101,(.cons (.hole .str) (.cons (.hole .str) .nil)),.nil,(.hole (.int .i64)),p101 fu⟩
def d101 (fu:Nat):DC := (.seq (.region [opD 4 (.mov (cD 0))] [[]] false) (.seq (.region [mvD 5 0,mvD 6 1,oqD 7 (.call 110 [(tD 5),(tD 6)]) (.ent (eCmpS fu)),mvD 4 7] [[],[],[0,1],[2,2,0,1,2]] false) .ret))
theorem g101 (fu:Nat):(e101 fu).Good Try.prog := good_fn orders Try.func101 fu (d101 fu) rs101 8 (l := [eCmpS fu]) ⟨gCmpS fu,trivial⟩
def rs75:List RVx := [(.tmp 4)]
def p75 (fu:Nat):((ByteArray)×((Int)×(Unit)))×(((ByteArray)×((Int)×(Unit)))×(Unit))→Option ((Unit)×(Int)) := fun ⟨⟨a,_,_⟩,⟨c,_,_⟩,_⟩ =>
Option.bind (p101 fu (a,c,())) fun ⟨_,f⟩ =>
some ((),f)
def e75 (fu:Nat):Ent := ⟨75,(.cons (.agg 2 (.cons (.hole .str) (.cons (.hole (.int .u64)) .nil))) (.cons (.agg 2 (.cons (.hole .str) (.cons (.hole (.int .u64)) .nil))) .nil)),.nil,(.hole (.int .i64)),p75 fu⟩
def d75 (fu:Nat):DC := (.seq (.region [opD 2 (.box 41 2 (tD 0)),opD 3 (.box 41 2 (tD 1)),opD 4 (.mov (cD 0))] [[],[],[]] false) (.seq (.region [opD 5 (.faddr 0 (tD 2)),opD 6 (.load false 1 (tD 5)),opD 7 (.faddr 0 (tD 3)),opD 8 (.load false 1 (tD 7)),oqD 9 (.call 101 [(tD 6),(tD 8)]) (.ent (e101 fu)),mvD 4 9] [[],[0],[],[2],[1,3],[4,4,0,1,2,3,4]] false) .ret))
theorem g75 (fu:Nat):(e75 fu).Good Try.prog := good_fn orders Try.func75 fu (d75 fu) rs75 10 (l := [e101 fu]) ⟨g101 fu,trivial⟩
def rs98:List RVx := [(.tmp 6),(.tmp 7)]
def p98 (fu:Nat):(List (D_runtime_errorAddressString))×(((ByteArray)×((Int)×(Unit)))×(((Unit)×(Unit))×(Unit)))→Option ((Unit)×((Int)×((Bool)×(Unit)))) := fun ⟨a,⟨c,f,_⟩,⟨_,_⟩,_⟩ =>
loopO (S := ((Int)×((Int)×(Unit)))×(Unit)) fu (fun ⟨⟨h,i,_⟩,_⟩ =>
 bif decide (h<i) then
 bif decide ((0:Int)≤IntKind.wrap .i64 (Int.fdiv (IntKind.wrap .u64 (IntKind.wrap .i64 (h+i))) (2 ^ (min (Int.toNat (1:Int)) (IntKind.bits .u64))))∧IntKind.wrap .i64 (Int.fdiv (IntKind.wrap .u64 (IntKind.wrap .i64 (h+i))) (2 ^ (min (Int.toNat (1:Int)) (IntKind.bits .u64))))<(List.length a:Int)) then
 bif decide (Int.toNat (IntKind.wrap .i64 (Int.fdiv (IntKind.wrap .u64 (IntKind.wrap .i64 (h+i))) (2 ^ (min (Int.toNat (1:Int)) (IntKind.bits .u64)))))<List.length a) then
 Option.bind (p75 fu (((List.getD a (Int.toNat (IntKind.wrap .i64 (Int.fdiv (IntKind.wrap .u64 (IntKind.wrap .i64 (h+i))) (2 ^ (min (Int.toNat (1:Int)) (IntKind.bits .u64)))))) (dflt T_runtime_errorAddressString)).1,(List.getD a (Int.toNat (IntKind.wrap .i64 (Int.fdiv (IntKind.wrap .u64 (IntKind.wrap .i64 (h+i))) (2 ^ (min (Int.toNat (1:Int)) (IntKind.bits .u64)))))) (dflt T_runtime_errorAddressString)).2,()),(c,f,()),())) fun ⟨_,j⟩ =>
 bif decide (j<(0:Int)) then
 some (.inl ((IntKind.wrap .i64 ((IntKind.wrap .i64 (Int.fdiv (IntKind.wrap .u64 (IntKind.wrap .i64 (h+i))) (2 ^ (min (Int.toNat (1:Int)) (IntKind.bits .u64)))))+(1:Int)),i,()),()))
 else
 some (.inl ((h,IntKind.wrap .i64 (Int.fdiv (IntKind.wrap .u64 (IntKind.wrap .i64 (h+i))) (2 ^ (min (Int.toNat (1:Int)) (IntKind.bits .u64)))),()),()))
 else none
 else none
 else
 inrO (bif decide (h<(List.length a:Int)) then
 bif decide ((0:Int)≤h∧h<(List.length a:Int)) then
 bif decide (Int.toNat h<List.length a) then
 Option.bind (p75 fu (((List.getD a (Int.toNat h) (dflt T_runtime_errorAddressString)).1,(List.getD a (Int.toNat h) (dflt T_runtime_errorAddressString)).2,()),(c,f,()),())) fun ⟨_,k⟩ =>
 some ((),(h,(k==(0:Int)),()))
 else none
 else none
 else
 some ((),(h,false,()))))
 (((0:Int),(List.length a:Int),()),())
def e98 (fu:Nat):Ent := ⟨98,(.cons (.hole (.sl T_runtime_errorAddressString)) (.cons (.agg 2 (.cons (.hole .str) (.cons (.hole (.int .u64)) .nil))) (.cons (.clo 75 0 .nil 0 .nil) .nil))),.nil,(.tup 2 (.cons (.hole (.int .i64)) (.cons (.hole .bool) .nil))),p98 fu⟩
def d98 (fu:Nat):DC := (.seq (.region [opD 4 (.box 41 2 (tD 1)),opD 6 (.mov (cD 0)),opD 7 (.mov (.const vB))] [[],[],[1]] false) (.seq (.region [mvD 12 0,opD 13 (.len false (tD 12)),mvD 8 13] [[],[0],[1,0,1]] false) (.seq (.region [mvD 14 8,opD 9 (.mov (cD 0)),mvD 10 14] [[],[],[0,1,0,1]] false) (.seq (.block 0 (.loop ⟨[9,10],(.cons (.hole (.int .i64)) (.cons (.hole (.int .i64)) .nil)),[],.nil,[0,2,4,8],[0]⟩
 (.seq (.seq (.region [mvD 15 9,mvD 16 10,opD 17 (.bin .lss (tD 15) (tD 16))] [[],[],[0,1]] false) (.cond (.tmp 17) .skip (.exit 0))) (.block 1 (.seq (.region [mvD 18 9,mvD 19 10,opD 20 (.bin .add (tD 18) (tD 19)),opD 21 (.conv .u64 (tD 20)),opD 22 (.bin .shr (tD 21) (.const (.int .u64 1))),opD 23 (.conv .i64 (tD 22)),mvD 11 23] [[],[],[0,1],[2],[3],[4],[5,0,1,2,3,4,5]] false) (.seq (.region [mvD 24 2,mvD 25 0,mvD 26 11,opD 27 (.iaddr 2 (tD 25) (tD 26)),opD 28 (.load true 2 (tD 27)),opD 29 (.load true 2 (tD 4)),oqD 30 (.callv (tD 24) [(tD 28),(tD 29)]) (.ent (e75 fu)),opD 31 (.bin .lss (tD 30) (cD 0))] [[],[],[],[1,2],[3],[],[0,4,5],[6]] true) (.cond (.tmp 31) (.region [mvD 32 11,opD 33 (.bin .add (tD 32) (cD 1)),mvD 9 33] [[],[0],[1,0,1]] false) (.region [mvD 34 11,mvD 10 34] [[],[0,0]] false)))))))) (.seq (.region [mvD 35 9,mvD 36 9,mvD 37 8,opD 38 (.bin .lss (tD 36) (tD 37)),mvD 39 38,ogD 40 39 true (.mov (tD 2)),ogD 41 39 true (.mov (tD 0)),ogD 42 39 true (.mov (tD 9)),ogD 43 39 true (.iaddr 2 (tD 41) (tD 42)),ogD 44 39 true (.load true 2 (tD 43)),ogD 45 39 true (.load true 2 (tD 4)),(⟨(some 46),(some (39,true)),(.callv (tD 40) [(tD 44),(tD 45)])⟩,(.ent (e75 fu))),ogD 47 39 true (.bin .eql (tD 46) (cD 0)),opD 48 (.pick (tD 39) (tD 47) (.const vB)),mvD 6 35,mvD 7 48] [[],[],[],[1,2],[3],[4],[4],[4],[6,7,4],[8,4],[4],[5,9,10,4,4],[11,4],[4,12],[0,11,0],[13,14,0,1,2,3,4,5,6,7,8,9,10,11,12,13,14]] true) .ret)))))
theorem g98 (fu:Nat):(e98 fu).Good Try.prog := good_fn orders Try.func98 fu (d98 fu) rs98 49 (l := [e75 fu,e75 fu]) ⟨g75 fu,g75 fu,trivial⟩
def rs99:List RVx := [(.tmp 2)]
def p99 (_:Nat):(List (D_runtime_errorAddressString))×(Unit)→Option ((Unit)×(List (D_runtime_errorAddressString))) := fun ⟨a,_⟩ =>
bif ((List.length a:Int)==(0:Int)) then
 some ((),[])
else
 bif decide ((0:Int)≤(List.length a:Int)∧((List.length a:Int):Int)≤(List.length a:Int)∧((List.length a:Int):Int)≤9223372036854775807∧(24:Int) * (List.length a:Int)≤140737488355328) then
 bif decide (Int.toNat (List.length a:Int)=List.length (List.replicate (Int.toNat (List.length a:Int)) ((⟨#[]⟩:ByteArray),(0:Int)):List (D_runtime_errorAddressString))) then
 bif decide (Int.toNat (List.length a:Int)=List.length (copyL (List.replicate (Int.toNat (List.length a:Int)) ((⟨#[]⟩:ByteArray),(0:Int)):List (D_runtime_errorAddressString)) 0 (Int.toNat (List.length a:Int)) a)) then
 some ((),(copyL (List.replicate (Int.toNat (List.length a:Int)) ((⟨#[]⟩:ByteArray),(0:Int)):List (D_runtime_errorAddressString)) 0 (Int.toNat (List.length a:Int)) a))
 else none
 else none
 else none
def e99 (fu:Nat):Ent := ⟨99,(.cons (.hole (.sl T_runtime_errorAddressString)) .nil),.nil,(.own .own 41 T_runtime_errorAddressString),p99 fu⟩
def d99 (_:Nat):DC := (.seq (.region [opD 2 (.mov (.const vS))] [[]] false) (.seq (.seq (.region [mvD 4 0,opD 5 (.len false (tD 4)),opD 6 (.bin .eql (tD 5) (cD 0))] [[],[0],[1]] false) (.cond (.tmp 6) (.seq (.region [opD 2 (.mov (.const vS))] [[]] false) .ret) .skip)) (.seq (.region [mvD 7 0,opD 8 (.len false (tD 7)),oqD 9 (.make false 41 2 [vT,vU] 24 (tD 8) (tD 8)) (.ty T_runtime_errorAddressString),mvD 3 9] [[],[0],[1,1],[2,0,1,2]] false) (.seq (.region [mvD 10 3,mvD 11 0,opD 12 (.copy 2 (tD 10) (tD 11))] [[],[],[0,1]] false) (.seq (.region [mvD 13 3,mvD 2 13] [[],[0,0]] false) .ret)))))
theorem g99 (fu:Nat):(e99 fu).Good Try.prog := good_fn orders Try.func99 fu (d99 fu) rs99 14 (l := []) trivial
def rs74:List RVx := [(.tmp 6)]
def p74 (fu:Nat):(List (D_runtime_errorAddressString))×(((ByteArray)×((Int)×(Unit)))×(((Unit)×(Unit))×(Unit)))→Option ((Unit)×(List (D_runtime_errorAddressString))) := fun ⟨a,⟨c,f,_⟩,⟨_,_⟩,_⟩ =>
Option.bind (p98 fu (a,(c,f,()),((),()),())) fun ⟨_,⟨h,i,_⟩⟩ =>
Option.bind (p99 fu (a,())) fun ⟨_,j⟩ =>
bif i then
 bif decide ((0:Int)≤h∧h<(List.length j:Int)) then
 bif decide (Int.toNat h<List.length j) then
 bif decide (List.length j=List.length (List.set j (Int.toNat h) (c,f))) then
 some ((),(List.set j (Int.toNat h) (c,f)))
 else none
 else none
 else none
else
 bif decide (List.length j=List.length j) then
 Option.bind (pInsertC fu (j,h,[(c,f)],())) fun ⟨⟨_,_,_⟩,k⟩ =>
 bif decide (List.length k=List.length k) then
 some ((),k)
 else none
 else none
def e74 (fu:Nat):Ent := ⟨74,(.cons (.hole (.sl T_runtime_errorAddressString)) (.cons (.agg 2 (.cons (.hole .str) (.cons (.hole (.int .u64)) .nil))) (.cons (.clo 75 0 .nil 0 .nil) .nil))),.nil,(.own .own 41 T_runtime_errorAddressString),p74 fu⟩
def d74 (fu:Nat):DC := (.seq (.region [opD 4 (.box 41 2 (tD 1)),opD 6 (.mov (.const vS))] [[],[]] false) (.seq (.region [mvD 11 0,opD 12 (.load true 2 (tD 4)),mvD 13 2,oqD 14 (.call 98 [(tD 11),(tD 12),(tD 13)]) (.ent (e98 fu)),mvD 10 14,opD 15 (.ext (tD 10) 0),opD 16 (.ext (tD 10) 1),mvD 7 15,mvD 8 16] [[],[],[],[0,1,2],[3],[4],[4],[5,3,0,1,2,3,4,5],[6,7,0,1,2,3,4,5,6,7]] false) (.seq (.region [mvD 17 0,oqD 18 (.call 99 [(tD 17)]) (.ent (e99 fu)),mvD 9 18] [[],[0],[1,1,0,1]] false) (.seq (.seq (.region [mvD 19 8] [[]] false) (.cond (.tmp 19) (.seq (.region [mvD 20 9,mvD 21 7,opD 22 (.load true 2 (tD 4)),opD 23 (.iaddr 2 (tD 20) (tD 21)),onD (.store 2 (tD 23) (tD 22))] [[],[],[],[0,1,0,1,2],[3,2,0,1,2]] false) (.seq (.region [mvD 24 9,mvD 6 24] [[],[0,0]] false) .ret)) .skip)) (.seq (.region [mvD 25 9,mvD 26 7,opD 27 (.load true 2 (tD 4)),oqD 28 (.bslice 41 2 1 [vT,vU] [(0,(tD 27))]) (.ty T_runtime_errorAddressString),oqD 29 (.call 100 [(tD 25),(tD 26),(tD 28)]) (.ent (eInsertC fu)),mvD 6 29] [[],[],[],[2],[0,1,3],[4,4,0,1,2,3,4]] false) .ret)))))
theorem g74 (fu:Nat):(e74 fu).Good Try.prog := good_fn orders Try.func74 fu (d74 fu) rs74 30 (l := [e98 fu,e99 fu,eInsertC fu]) ⟨g98 fu,g99 fu,gInsertC fu,trivial⟩
def rs35:List RVx := [(.tmp 8),(.tmp 9)]
def p35 (fu:Nat):(List (D_runtime_errorAddressString))×((List (D_runtime_errorAddressString))×((List (Int))×((List (Int))×(Unit))))→Option ((Unit)×((List (D_runtime_errorAddressString))×((Int)×(Unit)))) := fun ⟨a,c,f,h,_⟩ =>
Option.bind (p48 fu (a,())) fun ⟨_,i⟩ =>
bif !i then
 some ((),([],(1:Int),()))
else
 Option.bind (p48 fu (c,())) fun ⟨_,j⟩ =>
 bif !j then
 some ((),([],(1:Int),()))
 else
 bif ((List.length f:Int)==(0:Int)) then
 some ((),([],(1:Int),()))
 else
 bif ((List.length h:Int)==(0:Int)) then
 some ((),([],(1:Int),()))
 else
 Option.bind (p72 fu ([a,c],())) fun ⟨_,k⟩ =>
 loopO (S := ((List (D_runtime_errorAddressString))×((Int)×(Unit)))×(Unit)) fu (fun ⟨⟨l,m,_⟩,_⟩ =>
 bif decide (m<((List.length k):Int)) then
 bif decide ((0:Int)≤m∧m<(List.length k:Int)) then
 bif decide (Int.toNat m<List.length k) then
 Option.bind (p73 fu (a,(List.getD k (Int.toNat m) (dflt T_runtime_errorAddressString)).1,())) fun ⟨_,⟨n,_,_⟩⟩ =>
 Option.bind (p73 fu (c,(List.getD k (Int.toNat m) (dflt T_runtime_errorAddressString)).1,())) fun ⟨_,⟨o,_,_⟩⟩ =>
 Option.bind (p62 fu (f,n,())) fun ⟨_,q⟩ =>
 Option.bind (p62 fu (h,o,())) fun ⟨_,s⟩ =>
 bif decide (List.length l=List.length l) then
 Option.bind (p74 fu (l,((List.getD k (Int.toNat m) (dflt T_runtime_errorAddressString)).1,(if s<q then s else q),()),((),()),())) fun ⟨_,t⟩ =>
 bif decide (List.length t=List.length t) then
 some (.inl ((t,IntKind.wrap .i64 (m+(1:Int)),()),()))
 else none
 else none
 else none
 else none
 else
 inrO (bif decide (((List.length l):Int)>(64:Int)) then
 some ((),([],(143:Int),()))
 else
 bif decide (List.length l=List.length l) then
 some ((),(l,(0:Int),()))
 else none))
 (([],(0:Int),()),())
def e35 (fu:Nat):Ent := ⟨35,(.cons (.hole (.sl T_runtime_errorAddressString)) (.cons (.hole (.sl T_runtime_errorAddressString)) (.cons (.hole (.sl (.int .u64))) (.cons (.hole (.sl (.int .u64))) .nil)))),.nil,(.tup 2 (.cons (.own .own 41 T_runtime_errorAddressString) (.cons (.hole (.int .i64)) .nil))),p35 fu⟩
def d35 (fu:Nat):DC := (.seq (.region [opD 8 (.mov (.const vS)),opD 9 (.mov (cD 0))] [[],[0]] false) (.seq (.seq (.region [mvD 18 0,oqD 19 (.call 48 [(tD 18)]) (.ent (e48 fu)),opD 20 (.not (tD 19)),mvD 21 20,ogD 22 21 false (.mov (tD 1)),(⟨(some 23),(some (21,false)),(.call 48 [(tD 22)])⟩,(.ent (e48 fu))),ogD 24 21 false (.not (tD 23)),opD 25 (.pick (tD 21) (.const (.bool true)) (tD 24)),mvD 26 25,ogD 27 26 false (.mov (tD 2)),ogD 28 26 false (.len false (tD 27)),ogD 29 26 false (.bin .eql (tD 28) (cD 0)),opD 30 (.pick (tD 26) (.const (.bool true)) (tD 29)),mvD 31 30,ogD 32 31 false (.mov (tD 3)),ogD 33 31 false (.len false (tD 32)),ogD 34 31 false (.bin .eql (tD 33) (cD 0)),opD 35 (.pick (tD 31) (.const (.bool true)) (tD 34))] [[],[0],[1],[2,1],[3],[4,3,3],[5,3],[3,6],[7,5],[8],[9,8],[10,8],[8,11],[12,8],[13],[14,13],[15,13],[13,16]] false) (.cond (.tmp 35) (.seq (.region [opD 8 (.mov (.const vS)),opD 9 (.mov (cD 1))] [[],[0,0]] false) .ret) .skip)) (.seq (.region [opD 10 (.mov (.const vS))] [[]] false) (.seq (.seq (.region [mvD 36 0,mvD 37 1,oqD 38 (.bslice 28 1 2 [vS] [(0,(tD 36)),(1,(tD 37))]) (.ty (.sl T_runtime_errorAddressString)),oqD 39 (.call 72 [(tD 38)]) (.ent (e72 fu)),opD 40 (.len false (tD 39)),opD 41 (.mov (cD 0))] [[],[],[0,1],[2],[3],[]] false) (.block 0 (.loop ⟨[10,41],(.cons (.own .own 41 T_runtime_errorAddressString) (.cons (.hole (.int .i64)) .nil)),[],.nil,[0,1,2,3,39,40],[384]⟩
 (.seq (.region [opD 42 (.bin .lss (tD 41) (tD 40))] [[]] false) (.seq (.cond (.tmp 42) .skip (.exit 0)) (.seq (.block 1 (.seq (.region [opD 43 (.iaddr 2 (tD 39) (tD 41)),opD 44 (.load true 2 (tD 43)),opD 12 (.alloc 41 2 [vT,vU]),onD (.store 2 (tD 12) (tD 44))] [[],[0],[],[2,1,0,1,2]] false) (.seq (.region [mvD 46 0,opD 47 (.faddr 0 (tD 12)),opD 48 (.load false 1 (tD 47)),oqD 49 (.call 73 [(tD 46),(tD 48)]) (.ent (e73 fu)),mvD 45 49,opD 50 (.ext (tD 45) 0),opD 51 (.ext (tD 45) 1),mvD 13 50,mvD 14 51] [[],[],[1],[0,2],[3],[4],[4],[5,3,0,1,2,3,4,5],[6,7,0,1,2,3,4,5,6,7]] false) (.seq (.region [mvD 53 1,opD 54 (.faddr 0 (tD 12)),opD 55 (.load false 1 (tD 54)),oqD 56 (.call 73 [(tD 53),(tD 55)]) (.ent (e73 fu)),mvD 52 56,opD 57 (.ext (tD 52) 0),opD 58 (.ext (tD 52) 1),mvD 15 57,mvD 16 58] [[],[],[1],[0,2],[3],[4],[4],[5,3,0,1,2,3,4,5],[6,7,0,1,2,3,4,5,6,7]] false) (.seq (.region [mvD 59 2,mvD 60 13,oqD 61 (.call 62 [(tD 59),(tD 60)]) (.ent (e62 fu)),mvD 62 3,mvD 63 15,oqD 64 (.call 62 [(tD 62),(tD 63)]) (.ent (e62 fu)),opD 65 (.mm false (tD 61) (tD 64)),mvD 17 65] [[],[],[0,1],[],[],[3,4,2],[2,5],[6,5,0,1,2,3,4,5,6]] false) (.region [mvD 66 10,opD 67 (.faddr 0 (tD 12)),opD 68 (.load false 1 (tD 67)),mvD 69 17,opD 70 (.build 2 [vT,vU] [(0,(1,(tD 68))),(1,(1,(tD 69)))]),oqD 71 (.call 74 [(tD 66),(tD 70),(.func 75)]) (.ent (e74 fu)),mvD 10 71] [[],[],[1],[],[2,3],[0,4],[5,5,0,1,2,3,4,5]] false)))))) (.region [opD 72 (.bin .add (tD 41) (cD 1)),mvD 41 72] [[],[0]] false))))))) (.seq (.seq (.region [mvD 73 10,opD 74 (.len false (tD 73)),opD 75 (.bin .gtr (tD 74) (cD 64))] [[],[0],[1]] false) (.cond (.tmp 75) (.seq (.region [opD 8 (.mov (.const vS)),opD 9 (.mov (cD 143))] [[],[0,0]] false) .ret) .skip)) (.seq (.region [mvD 76 10,mvD 8 76,opD 9 (.mov (cD 0))] [[],[0,0],[1,0,1]] false) .ret))))))
theorem g35 (fu:Nat):(e35 fu).Good Try.prog := good_fn orders Try.func35 fu (d35 fu) rs35 77 (l := [e48 fu,e48 fu,e72 fu,e73 fu,e73 fu,e62 fu,e62 fu,e74 fu]) ⟨g48 fu,g48 fu,g72 fu,g73 fu,g73 fu,g62 fu,g62 fu,g74 fu,trivial⟩
def rs28:List RVx := []
def p28_5 (fu:Nat):(Z0)×((Z0)×((Z0)×(((Int)×(Unit))×(Unit))))→Option (((Z0)×((Z0)×((Z0)×((Unit)×((Unit)×((Unit)×(((Int)×(Unit))×(Unit))))))))×(Unit)) := fun ⟨⟨a,c,f,h,i,j,k,_⟩,⟨l,m,n,o,q,s,t,_⟩,⟨_,_,u,w,x,y,z,_⟩,⟨_,_⟩,_⟩ =>
Option.bind (p29 fu ((a,c,()),(l,m,()),())) fun ⟨_,⟨⟨a0,c0,_⟩,f0,_⟩⟩ =>
bif decide (List.length x=List.length x) then
 bif decide (List.length y=List.length y) then
 bif decide (List.length z=List.length z) then
 some (((a,c,f,h,i,j,k,()),(l,m,n,o,q,s,t,()),(a0,c0,u,w,x,y,z,()),(),(),(),(f0,()),()),())
 else none
 else none
else none
def e28_5 (fu:Nat):Ent := ⟨28,(.cons Y6 (.cons Y6 (.cons Y10 (.cons (.box 31 1 (.cons (.hole (.int .i64)) .nil)) .nil)))),(.cons Y3 (.cons Y3 (.cons Y1 (.cons .dead (.cons .dead (.cons .dead (.cons (.agg 1 (.cons (.hole (.int .i64)) .nil)) .nil))))))),(.tup 0 .nil),p28_5 fu⟩
def d28_5 (fu:Nat):DC := (.region [opD 5 (.faddr 0 (tD 0)),opD 6 (.load true 2 (tD 5)),opD 7 (.faddr 0 (tD 1)),opD 8 (.load true 2 (tD 7)),oqD 9 (.call 29 [(tD 6),(tD 8)]) (.ent (e29 fu)),mvD 4 9,opD 10 (.ext (tD 4) 0),opD 11 (.ext (tD 4) 1),opD 12 (.faddr 0 (tD 2)),onD (.store 2 (tD 12) (tD 10)),onD (.store 1 (tD 3) (tD 11))] [[],[0],[],[2],[1,3],[4],[5],[5],[0,1,2,3,4,5,6],[8,6,4,0,1,2,3,4,5,6],[7,9,0,1,2,3,4,5,6,7,8,9]] false)
theorem g28_5 (fu:Nat):(e28_5 fu).Good Try.prog := good_fn orders Try.func28 fu (d28_5 fu) rs28 13 (l := [e29 fu]) ⟨g29 fu,trivial⟩
def rs30:List RVx := []
def p30_5 (fu:Nat):(Z0)×((Z0)×((Z0)×(((List (Int))×(Unit))×(((List (Int))×(Unit))×(((Int)×(Unit))×(Unit))))))→Option (((Z0)×((Z0)×((Z0)×((Unit)×((Unit)×((Unit)×(((List (Int))×(Unit))×((Unit)×(((List (Int))×(Unit))×((Unit)×(((Int)×(Unit))×(Unit))))))))))))×(Unit)) := fun ⟨⟨a,c,f,h,i,j,k,_⟩,⟨l,m,n,o,q,s,t,_⟩,⟨u,w,x,y,_,z,a0,_⟩,⟨_,_⟩,⟨_,_⟩,⟨_,_⟩,_⟩ =>
Option.bind (p31 fu (i,q,())) fun ⟨_,⟨c0,f0,h0,i0,_⟩⟩ =>
bif decide (List.length c0=List.length c0) then
 bif decide (List.length z=List.length z) then
 bif decide (List.length a0=List.length a0) then
 bif decide (List.length f0=List.length f0) then
 bif decide (List.length h0=List.length h0) then
 some (((a,c,f,h,i,j,k,()),(l,m,n,o,q,s,t,()),(u,w,x,y,c0,z,a0,()),(),(),(),(f0,()),(),(h0,()),(),(i0,()),()),())
 else none
 else none
 else none
 else none
else none
def e30_5 (fu:Nat):Ent := ⟨30,(.cons Y6 (.cons Y6 (.cons Y10 (.cons (.box 57 1 (.cons (.own .own 25 (.int .u64)) .nil)) (.cons (.box 57 1 (.cons (.own .own 25 (.int .u64)) .nil)) (.cons (.box 31 1 (.cons (.hole (.int .i64)) .nil)) .nil)))))),(.cons Y3 (.cons Y3 (.cons Y1 (.cons .dead (.cons .dead (.cons .dead (.cons (.agg 1 (.cons (.own .own 25 (.int .u64)) .nil)) (.cons .dead (.cons (.agg 1 (.cons (.own .own 25 (.int .u64)) .nil)) (.cons .dead (.cons (.agg 1 (.cons (.hole (.int .i64)) .nil)) .nil))))))))))),(.tup 0 .nil),p30_5 fu⟩
def d30_5 (fu:Nat):DC := (.region [opD 7 (.faddr 4 (tD 0)),opD 8 (.load false 1 (tD 7)),opD 9 (.faddr 4 (tD 1)),opD 10 (.load false 1 (tD 9)),oqD 11 (.call 31 [(tD 8),(tD 10)]) (.ent (e31 fu)),mvD 6 11,opD 12 (.ext (tD 6) 0),opD 13 (.ext (tD 6) 1),opD 14 (.ext (tD 6) 2),opD 15 (.ext (tD 6) 3),opD 16 (.faddr 4 (tD 2)),onD (.store 1 (tD 16) (tD 12)),onD (.store 1 (tD 3) (tD 13)),onD (.store 1 (tD 4) (tD 14)),onD (.store 1 (tD 5) (tD 15))] [[],[0],[],[2],[1,3],[4],[5],[5],[5],[5],[0,1,2,3,4,5,6],[10,6,4,0,1,2,3,4,5,6],[7,11,0,1,2,3,4,5,6,7,10,11],[8,12,0,1,2,3,4,5,6,7,8,10,11,12],[9,13,0,1,2,3,4,5,6,7,8,9,10,11,12,13]] false)
theorem g30_5 (fu:Nat):(e30_5 fu).Good Try.prog := good_fn orders Try.func30 fu (d30_5 fu) rs30 17 (l := [e31 fu]) ⟨g31 fu,trivial⟩
def rs32:List RVx := []
def p32_9 (fu:Nat):(Z0)×((Z0)×(((List (Int))×(Unit))×(((List (Int))×(Unit))×((Z0)×(((Int)×(Unit))×(Unit))))))→Option (((Z0)×((Z0)×(((List (Int))×(Unit))×((Unit)×(((List (Int))×(Unit))×((Unit)×((Z0)×((Unit)×((Unit)×((Unit)×(((Int)×(Unit))×(Unit))))))))))))×(Unit)) := fun ⟨⟨a,c,f,h,i,j,k,_⟩,⟨l,m,n,o,q,s,t,_⟩,⟨u,_⟩,⟨w,_⟩,⟨x,y,z,a0,c0,_,f0,_⟩,⟨_,_⟩,_⟩ =>
bif decide (List.length u=List.length u) then
 bif decide (List.length w=List.length w) then
 Option.bind (p33 fu (j,s,u,w,())) fun ⟨_,⟨h0,i0,_⟩⟩ =>
 bif decide (List.length u=List.length u) then
 bif decide (List.length w=List.length w) then
 bif decide (List.length c0=List.length c0) then
 bif decide (List.length h0=List.length h0) then
 bif decide (List.length f0=List.length f0) then
 some (((a,c,f,h,i,j,k,()),(l,m,n,o,q,s,t,()),(u,()),(),(w,()),(),(x,y,z,a0,c0,h0,f0,()),(),(),(),(i0,()),()),())
 else none
 else none
 else none
 else none
 else none
 else none
else none
def e32_9 (fu:Nat):Ent := ⟨32,(.cons Y6 (.cons Y6 (.cons (.box 57 1 (.cons (.own .own 25 (.int .u64)) .nil)) (.cons (.box 57 1 (.cons (.own .own 25 (.int .u64)) .nil)) (.cons Y10 (.cons (.box 31 1 (.cons (.hole (.int .i64)) .nil)) .nil)))))),(.cons Y3 (.cons Y3 (.cons (.agg 1 (.cons (.own .own 25 (.int .u64)) .nil)) (.cons .dead (.cons (.agg 1 (.cons (.own .own 25 (.int .u64)) .nil)) (.cons .dead (.cons Y1 (.cons .dead (.cons .dead (.cons .dead (.cons (.agg 1 (.cons (.hole (.int .i64)) .nil)) .nil))))))))))),(.tup 0 .nil),p32_9 fu⟩
def d32_9 (fu:Nat):DC := (.region [opD 7 (.faddr 5 (tD 0)),opD 8 (.load false 1 (tD 7)),opD 9 (.faddr 5 (tD 1)),opD 10 (.load false 1 (tD 9)),opD 11 (.load false 1 (tD 2)),opD 12 (.load false 1 (tD 3)),oqD 13 (.call 33 [(tD 8),(tD 10),(tD 11),(tD 12)]) (.ent (e33 fu)),mvD 6 13,opD 14 (.ext (tD 6) 0),opD 15 (.ext (tD 6) 1),opD 16 (.faddr 5 (tD 4)),onD (.store 1 (tD 16) (tD 14)),onD (.store 1 (tD 5) (tD 15))] [[],[0],[],[2],[],[],[1,3,4,5],[6],[7],[7],[0,1,2,3,4,5,6,7,8],[10,8,6,0,1,2,3,4,5,6,7,8],[9,11,0,1,2,3,4,5,6,7,8,9,10,11]] false)
theorem g32_9 (fu:Nat):(e32_9 fu).Good Try.prog := good_fn orders Try.func32 fu (d32_9 fu) rs32 17 (l := [e33 fu]) ⟨g33 fu,trivial⟩
def rs34:List RVx := []
def p34_9 (fu:Nat):(Z0)×((Z0)×(((List (Int))×(Unit))×(((List (Int))×(Unit))×((Z0)×(((Int)×(Unit))×(Unit))))))→Option (((Z0)×((Z0)×(((List (Int))×(Unit))×((Unit)×(((List (Int))×(Unit))×((Unit)×((Z0)×((Unit)×((Unit)×((Unit)×(((Int)×(Unit))×(Unit))))))))))))×(Unit)) := fun ⟨⟨a,c,f,h,i,j,k,_⟩,⟨l,m,n,o,q,s,t,_⟩,⟨u,_⟩,⟨w,_⟩,⟨x,y,z,a0,c0,f0,_,_⟩,⟨_,_⟩,_⟩ =>
bif decide (List.length u=List.length u) then
 bif decide (List.length w=List.length w) then
 Option.bind (p35 fu (k,t,u,w,())) fun ⟨_,⟨h0,i0,_⟩⟩ =>
 bif decide (List.length u=List.length u) then
 bif decide (List.length w=List.length w) then
 bif decide (List.length c0=List.length c0) then
 bif decide (List.length f0=List.length f0) then
 bif decide (List.length h0=List.length h0) then
 some (((a,c,f,h,i,j,k,()),(l,m,n,o,q,s,t,()),(u,()),(),(w,()),(),(x,y,z,a0,c0,f0,h0,()),(),(),(),(i0,()),()),())
 else none
 else none
 else none
 else none
 else none
 else none
else none
def e34_9 (fu:Nat):Ent := ⟨34,(.cons Y6 (.cons Y6 (.cons (.box 57 1 (.cons (.own .own 25 (.int .u64)) .nil)) (.cons (.box 57 1 (.cons (.own .own 25 (.int .u64)) .nil)) (.cons Y10 (.cons (.box 31 1 (.cons (.hole (.int .i64)) .nil)) .nil)))))),(.cons Y3 (.cons Y3 (.cons (.agg 1 (.cons (.own .own 25 (.int .u64)) .nil)) (.cons .dead (.cons (.agg 1 (.cons (.own .own 25 (.int .u64)) .nil)) (.cons .dead (.cons Y1 (.cons .dead (.cons .dead (.cons .dead (.cons (.agg 1 (.cons (.hole (.int .i64)) .nil)) .nil))))))))))),(.tup 0 .nil),p34_9 fu⟩
def d34_9 (fu:Nat):DC := (.region [opD 7 (.faddr 6 (tD 0)),opD 8 (.load false 1 (tD 7)),opD 9 (.faddr 6 (tD 1)),opD 10 (.load false 1 (tD 9)),opD 11 (.load false 1 (tD 2)),opD 12 (.load false 1 (tD 3)),oqD 13 (.call 35 [(tD 8),(tD 10),(tD 11),(tD 12)]) (.ent (e35 fu)),mvD 6 13,opD 14 (.ext (tD 6) 0),opD 15 (.ext (tD 6) 1),opD 16 (.faddr 6 (tD 4)),onD (.store 1 (tD 16) (tD 14)),onD (.store 1 (tD 5) (tD 15))] [[],[0],[],[2],[],[],[1,3,4,5],[6],[7],[7],[0,1,2,3,4,5,6,7,8],[10,8,6,0,1,2,3,4,5,6,7,8],[9,11,0,1,2,3,4,5,6,7,8,9,10,11]] false)
theorem g34_9 (fu:Nat):(e34_9 fu).Good Try.prog := good_fn orders Try.func34 fu (d34_9 fu) rs34 17 (l := [e35 fu]) ⟨g35 fu,trivial⟩
def rs13:List RVx := [(.cell 4 true 7),(.tmp 5)]
def p13 (fu:Nat):(Z0)×((Z0)×(Unit))→Option ((Unit)×((Z0)×((Int)×(Unit)))) := fun ⟨⟨a,c,f,h,i,j,k,_⟩,⟨l,m,n,o,q,s,t,_⟩,_⟩ =>
Option.bind (p19 fu ([((a,c),f,h,i,j,k),((l,m),n,o,q,s,t)],())) fun ⟨_,u⟩ =>
bif (u != (0:Int)) then
 some ((),(((⟨#[]⟩:ByteArray),(⟨#[]⟩:ByteArray),(0:Int),(0:Int),[],[],[],()),u,()))
else
 loopO (S := ((Int)×(Unit))×((Z0)×((Z0)×((Z0)×(((List (Int))×(Unit))×(((List (Int))×(Unit))×(((Int)×(Unit))×(Unit)))))))) fu (fun ⟨⟨w,_⟩,⟨⟨x,y,z,a0,c0,f0,h0,_⟩,⟨i0,j0,k0,l0,m0,n0,o0,_⟩,⟨q0,s0,t0,u0,w0,x0,y0,_⟩,⟨z0,_⟩,⟨a1,_⟩,⟨c1,_⟩,_⟩⟩ =>
 bif decide (w<(4:Int)) then
 bif decide ((0:Int)≤w∧w<(4:Int)) then
 bif (w==(0:Int)) then
 bif decide (List.length w0=List.length w0) then
 bif decide (List.length x0=List.length x0) then
 bif decide (List.length y0=List.length y0) then
 Option.bind (p28_5 fu ((x,y,z,a0,c0,f0,h0,()),(i0,j0,k0,l0,m0,n0,o0,()),(q0,s0,t0,u0,w0,x0,y0,()),(c1,()),())) fun ⟨⟨⟨f1,h1,i1,j1,k1,l1,m1,_⟩,⟨n1,o1,q1,s1,t1,u1,w1,_⟩,⟨x1,y1,z1,a2,c2,f2,h2,_⟩,_,_,_,⟨i2,_⟩,_⟩,_⟩ =>
 bif (i2 != (0:Int)) then
 inrO (some ((),(((⟨#[]⟩:ByteArray),(⟨#[]⟩:ByteArray),(0:Int),(0:Int),[],[],[],()),i2,())))
 else
 bif decide (List.length c2=List.length c2) then
 bif decide (List.length f2=List.length f2) then
 bif decide (List.length h2=List.length h2) then
 bif decide (List.length z0=List.length z0) then
 bif decide (List.length a1=List.length a1) then
 some (.inl ((IntKind.wrap .i64 (w+(1:Int)),()),((f1,h1,i1,j1,k1,l1,m1,()),(n1,o1,q1,s1,t1,u1,w1,()),(x1,y1,z1,a2,c2,f2,h2,()),(z0,()),(a1,()),(i2,()),())))
 else none
 else none
 else none
 else none
 else none
 else none
 else none
 else none
 else
 bif (w==(1:Int)) then
 bif decide (List.length w0=List.length w0) then
 bif decide (List.length x0=List.length x0) then
 bif decide (List.length y0=List.length y0) then
 bif decide (List.length z0=List.length z0) then
 bif decide (List.length a1=List.length a1) then
 Option.bind (p30_5 fu ((x,y,z,a0,c0,f0,h0,()),(i0,j0,k0,l0,m0,n0,o0,()),(q0,s0,t0,u0,w0,x0,y0,()),(z0,()),(a1,()),(c1,()),())) fun ⟨⟨⟨j2,k2,l2,m2,n2,o2,q2,_⟩,⟨s2,t2,u2,w2,x2,y2,z2,_⟩,⟨a3,c3,f3,h3,i3,j3,k3,_⟩,_,_,_,⟨l3,_⟩,_,⟨m3,_⟩,_,⟨n3,_⟩,_⟩,_⟩ =>
 bif (n3 != (0:Int)) then
 inrO (some ((),(((⟨#[]⟩:ByteArray),(⟨#[]⟩:ByteArray),(0:Int),(0:Int),[],[],[],()),n3,())))
 else
 bif decide (List.length i3=List.length i3) then
 bif decide (List.length j3=List.length j3) then
 bif decide (List.length k3=List.length k3) then
 bif decide (List.length l3=List.length l3) then
 bif decide (List.length m3=List.length m3) then
 some (.inl ((IntKind.wrap .i64 (w+(1:Int)),()),((j2,k2,l2,m2,n2,o2,q2,()),(s2,t2,u2,w2,x2,y2,z2,()),(a3,c3,f3,h3,i3,j3,k3,()),(l3,()),(m3,()),(n3,()),())))
 else none
 else none
 else none
 else none
 else none
 else none
 else none
 else none
 else none
 else none
 else
 bif (w==(2:Int)) then
 bif decide (List.length z0=List.length z0) then
 bif decide (List.length a1=List.length a1) then
 bif decide (List.length w0=List.length w0) then
 bif decide (List.length x0=List.length x0) then
 bif decide (List.length y0=List.length y0) then
 Option.bind (p32_9 fu ((x,y,z,a0,c0,f0,h0,()),(i0,j0,k0,l0,m0,n0,o0,()),(z0,()),(a1,()),(q0,s0,t0,u0,w0,x0,y0,()),(c1,()),())) fun ⟨⟨⟨o3,q3,s3,t3,u3,w3,x3,_⟩,⟨y3,z3,a4,c4,f4,h4,i4,_⟩,⟨j4,_⟩,_,⟨k4,_⟩,_,⟨l4,m4,n4,o4,q4,s4,t4,_⟩,_,_,_,⟨u4,_⟩,_⟩,_⟩ =>
 bif (u4 != (0:Int)) then
 inrO (some ((),(((⟨#[]⟩:ByteArray),(⟨#[]⟩:ByteArray),(0:Int),(0:Int),[],[],[],()),u4,())))
 else
 bif decide (List.length q4=List.length q4) then
 bif decide (List.length s4=List.length s4) then
 bif decide (List.length t4=List.length t4) then
 bif decide (List.length j4=List.length j4) then
 bif decide (List.length k4=List.length k4) then
 some (.inl ((IntKind.wrap .i64 (w+(1:Int)),()),((o3,q3,s3,t3,u3,w3,x3,()),(y3,z3,a4,c4,f4,h4,i4,()),(l4,m4,n4,o4,q4,s4,t4,()),(j4,()),(k4,()),(u4,()),())))
 else none
 else none
 else none
 else none
 else none
 else none
 else none
 else none
 else none
 else none
 else
 bif (w==(3:Int)) then
 bif decide (List.length z0=List.length z0) then
 bif decide (List.length a1=List.length a1) then
 bif decide (List.length w0=List.length w0) then
 bif decide (List.length x0=List.length x0) then
 bif decide (List.length y0=List.length y0) then
 Option.bind (p34_9 fu ((x,y,z,a0,c0,f0,h0,()),(i0,j0,k0,l0,m0,n0,o0,()),(z0,()),(a1,()),(q0,s0,t0,u0,w0,x0,y0,()),(c1,()),())) fun ⟨⟨⟨w4,x4,y4,z4,a5,c5,f5,_⟩,⟨h5,i5,j5,k5,l5,m5,n5,_⟩,⟨o5,_⟩,_,⟨q5,_⟩,_,⟨s5,t5,u5,w5,x5,y5,z5,_⟩,_,_,_,⟨a6,_⟩,_⟩,_⟩ =>
 bif (a6 != (0:Int)) then
 inrO (some ((),(((⟨#[]⟩:ByteArray),(⟨#[]⟩:ByteArray),(0:Int),(0:Int),[],[],[],()),a6,())))
 else
 bif decide (List.length x5=List.length x5) then
 bif decide (List.length y5=List.length y5) then
 bif decide (List.length z5=List.length z5) then
 bif decide (List.length o5=List.length o5) then
 bif decide (List.length q5=List.length q5) then
 some (.inl ((IntKind.wrap .i64 (w+(1:Int)),()),((w4,x4,y4,z4,a5,c5,f5,()),(h5,i5,j5,k5,l5,m5,n5,()),(s5,t5,u5,w5,x5,y5,z5,()),(o5,()),(q5,()),(a6,()),())))
 else none
 else none
 else none
 else none
 else none
 else none
 else none
 else none
 else none
 else none
 else none
 else none
 else
 inrO (bif decide (List.length w0=List.length w0) then
 bif decide (List.length x0=List.length x0) then
 bif decide (List.length y0=List.length y0) then
 Option.bind (p16 fu ((q0,s0,t0,u0,w0,x0,y0,()),())) fun ⟨_,c6⟩ =>
 Option.bind (pIsN fu (c6,(165:Int),())) fun ⟨_,f6⟩ =>
 bif f6 then
 some ((),(((⟨#[]⟩:ByteArray),(⟨#[]⟩:ByteArray),(0:Int),(0:Int),[],[],[],()),(172:Int),()))
 else
 bif decide (List.length w0=List.length w0) then
 bif decide (List.length x0=List.length x0) then
 bif decide (List.length y0=List.length y0) then
 some ((),((q0,s0,t0,u0,w0,x0,y0,()),(0:Int),()))
 else none
 else none
 else none
 else none
 else none
 else none))
 (((0:Int),()),((a,c,f,h,i,j,k,()),(l,m,n,o,q,s,t,()),((⟨#[]⟩:ByteArray),(⟨#[]⟩:ByteArray),IntKind.wrap .u64 ((if n>f then n else f)+(1:Int)),(0:Int),[],[],[],()),([],()),([],()),((0:Int),()),()))
def e13 (fu:Nat):Ent := ⟨13,(.cons Y3 (.cons Y3 .nil)),.nil,(.tup 2 (.cons Y1 (.cons (.hole (.int .i64)) .nil))),p13 fu⟩
def d13 (fu:Nat):DC := (.seq (.region [opD 2 (.box 30 7 (tD 0)),opD 3 (.box 30 7 (tD 1)),opD 4 (.alloc 30 7 [vT,vT,vU,vU,vS,vS,vS]),opD 5 (.mov (cD 0))] [[],[],[],[]] false) (.seq (.seq (.region [opD 13 (.load true 7 (tD 2)),opD 14 (.load true 7 (tD 3)),oqD 15 (.bslice 30 7 2 [vT,vT,vU,vU,vS,vS,vS] [(0,(tD 13)),(1,(tD 14))]) (.ty T_api_Part),oqD 16 (.call 19 [(tD 15)]) (.ent (e19 fu)),mvD 6 16] [[],[],[0,1],[2],[3,3,0,1,2,3]] false) (.seq (.region [mvD 17 6,opD 18 (.bin .neq (tD 17) (cD 0))] [[],[0]] false) (.cond (.tmp 18) (.seq (.region [opD 19 (.build 7 [vT,vT,vU,vU,vS,vS,vS] []),mvD 20 6,onD (.store 7 (tD 4) (tD 19)),mvD 5 20] [[],[],[0,0],[1,2,0,1,2]] false) .ret) .skip))) (.seq (.region [opD 21 (.faddr 2 (tD 2)),opD 22 (.load false 1 (tD 21)),opD 23 (.faddr 2 (tD 3)),opD 24 (.load false 1 (tD 23)),opD 25 (.mm true (tD 22) (tD 24)),opD 26 (.bin .add (tD 25) (.const (.int .u64 1))),opD 27 (.build 7 [vT,vT,vU,vU,vS,vS,vS] [(2,(1,(tD 26)))]),opD 7 (.alloc 30 7 [vT,vT,vU,vU,vS,vS,vS]),onD (.store 7 (tD 7) (tD 27))] [[],[0],[],[2],[1,3],[4],[5],[],[7,6,0,1,2,3,4,5,6,7]] false) (.seq (.region [opD 8 (.alloc 57 1 [vS]),opD 9 (.alloc 57 1 [vS])] [[],[]] false) (.seq (.region [opD 10 (.alloc 31 1 [vI])] [[]] false) (.seq (.seq (.region [opD 28 (.fn 28 [] [(tD 2),(tD 3),(tD 7),(tD 10)]),opD 29 (.fn 30 [] [(tD 2),(tD 3),(tD 7),(tD 8),(tD 9),(tD 10)]),opD 30 (.fn 32 [] [(tD 2),(tD 3),(tD 8),(tD 9),(tD 7),(tD 10)]),opD 31 (.fn 34 [] [(tD 2),(tD 3),(tD 8),(tD 9),(tD 7),(tD 10)]),opD 32 (.cslice 1 4 [(0,(tD 28)),(1,(tD 29)),(2,(tD 30)),(3,(tD 31))]),opD 33 (.len false (tD 32)),opD 34 (.mov (cD 0))] [[],[],[],[],[0,1,2,3],[4],[]] false) (.block 0 (.loop ⟨[34],(.cons (.hole (.int .i64)) .nil),[(0,30,7),(16,30,7),(288,30,7),(320,57,1),(336,57,1),(352,31,1)],(.cons Y3 (.cons Y3 (.cons Y1 (.cons (.agg 1 (.cons (.own .own 25 (.int .u64)) .nil)) (.cons (.agg 1 (.cons (.own .own 25 (.int .u64)) .nil)) (.cons (.agg 1 (.cons (.hole (.int .i64)) .nil)) .nil)))))),[4,7,10,32,33],[32,432]⟩
 (.seq (.region [opD 35 (.bin .lss (tD 34) (tD 33))] [[]] false) (.seq (.cond (.tmp 35) .skip (.exit 0)) (.seq (.block 1 (.seq (.region [opD 36 (.iaddr 1 (tD 32) (tD 34)),opD 37 (.load false 1 (tD 36)),mvD 12 37] [[],[0],[1,0,1]] false) (.seq (.region [mvD 38 12,oqD 39 (.callv (tD 38) []) (.either (.ent (e28_5 fu)) (.either (.ent (e30_5 fu)) (.either (.ent (e32_9 fu)) (.ent (e34_9 fu)))))] [[],[0]] false) (.seq (.region [opD 40 (.load false 1 (tD 10)),opD 41 (.bin .neq (tD 40) (cD 0))] [[],[0]] false) (.cond (.tmp 41) (.seq (.region [opD 42 (.build 7 [vT,vT,vU,vU,vS,vS,vS] []),opD 43 (.load false 1 (tD 10)),onD (.store 7 (tD 4) (tD 42)),mvD 5 43] [[],[],[0,0],[1,2,0,1,2]] true) .ret) .skip))))) (.region [opD 44 (.bin .add (tD 34) (cD 1)),mvD 34 44] [[],[0]] false))))))) (.seq (.seq (.region [opD 45 (.load true 7 (tD 7)),oqD 46 (.call 16 [(tD 45)]) (.ent (e16 fu)),opD 47 (.ifc 31 (tD 46)),opD 48 (.ifc 31 (cD 165)),oqD 49 (.call 36 [(tD 47),(tD 48)]) (.ent (eIsN fu))] [[],[0],[1],[],[2,3,1]] false) (.cond (.tmp 49) (.seq (.region [opD 50 (.build 7 [vT,vT,vU,vU,vS,vS,vS] []),onD (.store 7 (tD 4) (tD 50)),opD 5 (.mov (cD 172))] [[],[0,0],[1,0,1]] false) .ret) .skip)) (.seq (.region [opD 51 (.load true 7 (tD 7)),onD (.store 7 (tD 4) (tD 51)),opD 5 (.mov (cD 0))] [[],[0,0],[1,0,1]] false) .ret))))))))
theorem g13 (fu:Nat):(e13 fu).Good Try.prog := good_fn orders Try.func13 fu (d13 fu) rs13 52 (l := [e19 fu,e28_5 fu,e30_5 fu,e32_9 fu,e34_9 fu,e16 fu,eIsN fu]) ⟨g19 fu,g28_5 fu,g30_5 fu,g32_9 fu,g34_9 fu,g16 fu,gIsN fu,trivial⟩
def rs17:List RVx := [(.tmp 4)]
def p17 (fu:Nat):(List (D_api_Record))×((List (D_api_Record))×(Unit))→Option ((Unit)×(Bool)) := fun ⟨a,c,_⟩ =>
loopO (S := ((Int)×((Int)×(Unit)))×(Unit)) fu (fun ⟨⟨f,h,_⟩,_⟩ =>
 bif decide (h<(List.length a:Int)) then
 orK (E := ((Int)×(Unit))×(Unit))
 (loopO (S := ((Int)×(Unit))×(Unit)) fu (fun ⟨⟨f,_⟩,_⟩ =>
 bif decide (f<(List.length c:Int)) then
 bif decide ((0:Int)≤f∧f<(List.length c:Int)) then
 bif decide (Int.toNat f<List.length c) then
 bif decide ((0:Int)≤h∧h<(List.length a:Int)) then
 bif decide (Int.toNat h<List.length a) then
 bif ((((((List.getD c (Int.toNat f) (dflt T_api_Record)).2).2).2).1) != (((((List.getD a (Int.toNat h) (dflt T_api_Record)).2).2).2).1)) then
 some (.inl ((IntKind.wrap .i64 (f+(1:Int)),()),()))
 else
 bif decide ((0:Int)≤f∧f<(List.length c:Int)) then
 bif decide (Int.toNat f<List.length c) then
 bif decide ((0:Int)≤h∧h<(List.length a:Int)) then
 bif decide (Int.toNat h<List.length a) then
 bif ((((((List.getD c (Int.toNat f) (dflt T_api_Record)).2).2).2).2) != (((((List.getD a (Int.toNat h) (dflt T_api_Record)).2).2).2).2)) then
 some (.inl ((IntKind.wrap .i64 (f+(1:Int)),()),()))
 else
 bif decide ((0:Int)≤f∧f<(List.length c:Int)) then
 bif decide (Int.toNat f<List.length c) then
 bif decide ((0:Int)≤h∧h<(List.length a:Int)) then
 bif decide (Int.toNat h<List.length a) then
 bif !(ByteArray.toList (((List.getD c (Int.toNat f) (dflt T_api_Record)).2).1)==ByteArray.toList (((List.getD a (Int.toNat h) (dflt T_api_Record)).2).1)) then
 some (.inl ((IntKind.wrap .i64 (f+(1:Int)),()),()))
 else
 bif decide ((0:Int)≤f∧f<(List.length c:Int)) then
 bif decide (Int.toNat f<List.length c) then
 bif decide ((0:Int)≤h∧h<(List.length a:Int)) then
 bif decide (Int.toNat h<List.length a) then
 bif !(ByteArray.toList (strOfNums ((((List.getD c (Int.toNat f) (dflt T_api_Record)).2).2).1))==ByteArray.toList (strOfNums ((((List.getD a (Int.toNat h) (dflt T_api_Record)).2).2).1))) then
 some (.inl ((IntKind.wrap .i64 (f+(1:Int)),()),()))
 else
 inrO (some (.inl ((f,()),())))
 else none
 else none
 else none
 else none
 else none
 else none
 else none
 else none
 else none
 else none
 else none
 else none
 else none
 else none
 else none
 else none
 else
 inrO (some (.inl ((f,()),()))))
 ((f,()),()))
 fun ⟨⟨f,_⟩,_⟩ =>
 bif (f==(List.length c:Int)) then
 inrO (some ((),false))
 else
 some (.inl ((IntKind.wrap .i64 (f+(1:Int)),IntKind.wrap .i64 (h+(1:Int)),()),()))
 else
 inrO (some ((),true)))
 (((0:Int),(0:Int),()),())
def e17 (fu:Nat):Ent := ⟨17,(.cons (.hole (.sl T_api_Record)) (.cons (.hole (.sl T_api_Record)) .nil)),.nil,(.hole .bool),p17 fu⟩
def d17 (_:Nat):DC := (.seq (.region [opD 4 (.mov (.const vB))] [[]] false) (.seq (.region [opD 5 (.mov (cD 0))] [[]] false) (.seq (.seq (.region [opD 6 (.mov (cD 0))] [[]] false) (.block 0 (.loop ⟨[5,6],(.cons (.hole (.int .i64)) (.cons (.hole (.int .i64)) .nil)),[],.nil,[0,1],[]⟩
 (.seq (.seq (.region [mvD 7 6,mvD 8 0,opD 9 (.len false (tD 8)),opD 10 (.bin .lss (tD 7) (tD 9))] [[],[],[1],[0,2]] false) (.cond (.tmp 10) .skip (.exit 0))) (.seq (.block 1 (.join ⟨[5],(.cons (.hole (.int .i64)) .nil),[],.nil,[0,1,6],[]⟩
 (.block 2 (.loop ⟨[5],(.cons (.hole (.int .i64)) .nil),[],.nil,[0,1,6],[]⟩
 (.seq (.seq (.region [mvD 13 5,mvD 14 1,opD 15 (.len false (tD 14)),opD 16 (.bin .lss (tD 13) (tD 15)),mvD 17 16,ogD 18 17 true (.mov (tD 1)),ogD 19 17 true (.mov (tD 5)),ogD 20 17 true (.iaddr 5 (tD 18) (tD 19)),ogD 21 17 true (.faddr 3 (tD 20)),ogD 22 17 true (.load false 1 (tD 21)),ogD 23 17 true (.mov (tD 0)),ogD 24 17 true (.mov (tD 6)),ogD 25 17 true (.iaddr 5 (tD 23) (tD 24)),ogD 26 17 true (.faddr 3 (tD 25)),ogD 27 17 true (.load false 1 (tD 26)),ogD 28 17 true (.bin .neq (tD 22) (tD 27)),ogD 29 17 true (.mov (tD 28)),ogD 30 29 false (.mov (tD 1)),ogD 31 29 false (.mov (tD 5)),ogD 32 29 false (.iaddr 5 (tD 30) (tD 31)),ogD 33 29 false (.faddr 4 (tD 32)),ogD 34 29 false (.load false 1 (tD 33)),ogD 35 29 false (.mov (tD 0)),ogD 36 29 false (.mov (tD 6)),ogD 37 29 false (.iaddr 5 (tD 35) (tD 36)),ogD 38 29 false (.faddr 4 (tD 37)),ogD 39 29 false (.load false 1 (tD 38)),ogD 40 29 false (.bin .neq (tD 34) (tD 39)),ogD 41 17 true (.pick (tD 29) (.const (.bool true)) (tD 40)),ogD 42 17 true (.mov (tD 41)),ogD 43 42 false (.mov (tD 1)),ogD 44 42 false (.mov (tD 5)),ogD 45 42 false (.iaddr 5 (tD 43) (tD 44)),ogD 46 42 false (.faddr 1 (tD 45)),ogD 47 42 false (.load false 1 (tD 46)),ogD 48 42 false (.mov (tD 0)),ogD 49 42 false (.mov (tD 6)),ogD 50 42 false (.iaddr 5 (tD 48) (tD 49)),ogD 51 42 false (.faddr 1 (tD 50)),ogD 52 42 false (.load false 1 (tD 51)),ogD 53 42 false (.bin .neq (tD 47) (tD 52)),ogD 54 17 true (.pick (tD 42) (.const (.bool true)) (tD 53)),ogD 55 17 true (.mov (tD 54)),ogD 56 55 false (.mov (tD 1)),ogD 57 55 false (.mov (tD 5)),ogD 58 55 false (.iaddr 5 (tD 56) (tD 57)),ogD 59 55 false (.faddr 2 (tD 58)),ogD 60 55 false (.load false 1 (tD 59)),ogD 61 55 false (.b2s (tD 60)),ogD 62 55 false (.mov (tD 0)),ogD 63 55 false (.mov (tD 6)),ogD 64 55 false (.iaddr 5 (tD 62) (tD 63)),ogD 65 55 false (.faddr 2 (tD 64)),ogD 66 55 false (.load false 1 (tD 65)),ogD 67 55 false (.b2s (tD 66)),ogD 68 55 false (.bin .neq (tD 61) (tD 67)),ogD 69 17 true (.pick (tD 55) (.const (.bool true)) (tD 68)),opD 70 (.pick (tD 17) (tD 69) (.const vB))] [[],[],[1],[0,2],[3],[4],[4],[5,6,4],[7,4],[8,4],[4],[4],[10,11,4],[12,4],[13,4],[9,14,4],[15,4,4],[16],[16],[17,18,16],[19,16],[20,16],[16],[16],[22,23,16],[24,16],[25,16],[21,26,16],[16,27,4],[28,16,4],[29],[29],[30,31,29],[32,29],[33,29],[29],[29],[35,36,29],[37,29],[38,29],[34,39,29],[29,40,4],[41,29,4],[42],[42],[43,44,42],[45,42],[46,42],[47,42],[42],[42],[49,50,42],[51,42],[52,42],[53,42],[48,54,42],[42,55,4],[4,56]] true) (.cond (.tmp 70) .skip (.exit 2))) (.block 3 (.region [mvD 71 5,opD 72 (.bin .add (tD 71) (cD 1)),mvD 5 72] [[],[0],[1,0,1]] false)))))
 (.seq (.seq (.region [mvD 73 5,mvD 74 1,opD 75 (.len false (tD 74)),opD 76 (.bin .eql (tD 73) (tD 75))] [[],[],[1],[0,2]] false) (.cond (.tmp 76) (.seq (.region [opD 4 (.mov (.const vB))] [[]] false) .ret) .skip)) (.region [mvD 77 5,opD 78 (.bin .add (tD 77) (cD 1)),mvD 5 78] [[],[0],[1,0,1]] false)))) (.region [mvD 11 6,opD 12 (.bin .add (tD 11) (cD 1)),mvD 6 12] [[],[0],[1,0,1]] false)))))) (.seq (.region [opD 4 (.mov (.const (.bool true)))] [[]] false) .ret))))
theorem g17 (fu:Nat):(e17 fu).Good Try.prog := good_fn orders Try.func17 fu (d17 fu) rs17 79 (l := []) trivial
end Go.Proofs.Ytmjmhobeiamgiaa
