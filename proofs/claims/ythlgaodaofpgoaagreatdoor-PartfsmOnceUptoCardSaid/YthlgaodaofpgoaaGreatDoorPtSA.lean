/-
  The functions, typed.
-/
import Derived.Test.YthlgaodaofpgoaaGreatDoorErsE
import Derived.Test.YthlgaodaofpgoaaGreatDoorInC
import Derived.Test.YthlgaodaofpgoaaGreatDoorCpE
import Derived.Test.YthlgaodaofpgoaaGreatDoorDaL
import Derived.Test.YthlgaodaofpgoaaGreatDoorRows
namespace Go.Proofs.YthlgaodaofpgoaaGreatDoor
set_option maxRecDepth 1000000
open Go.RowKit
abbrev T_runtime_errorAddressString:Tp := (.pair .str (.int .u64))
abbrev D_runtime_errorAddressString := (ByteArray)×(Int)
abbrev T_api_Producer:Tp := (.pair (.int .u64) (.pair (.int .u64) (.pair .bool (.int .u64))))
abbrev D_api_Producer := (Int)×((Int)×((Bool)×(Int)))
abbrev T_api_Record:Tp := (.pair (.int .u64) (.pair .str (.pair (.sl (.int .u8)) (.pair (.int .u64) (.int .u64)))))
abbrev D_api_Record := (Int)×((ByteArray)×((List (Int))×((Int)×(Int))))
abbrev T_api_PartCommand:Tp := (.pair (.int .i64) (.pair (.int .u64) (.pair (.int .u64) (.pair (.int .u64) (.pair .str (.pair (.sl (.int .u8)) (.pair (.int .u64) (.pair (.int .i64) T_runtime_errorAddressString))))))))
abbrev D_api_PartCommand := (Int)×((Int)×((Int)×((Int)×((ByteArray)×((List (Int))×((Int)×((Int)×(D_runtime_errorAddressString))))))))
theorem orders:Tryz.prog.follows .mixedOrders=true := by kernel_rfl
abbrev Z0:Type := (ByteArray)×((ByteArray)×((Int)×((Int)×((List (D_api_Record))×((List (D_api_Producer))×((List (D_runtime_errorAddressString))×((Int)×((Int)×((Int)×((Int)×((ByteArray)×((List (Int))×((Int)×((Int)×((ByteArray)×((Int)×((Int)×((Int)×((Bool)×((Unit)×(Unit)))))))))))))))))))))
abbrev Z1:Type := (Bool)×((Unit)×((Bool)×((Unit)×((ByteArray)×((Int)×(Unit))))))
abbrev Z2:Type := (ByteArray)×((ByteArray)×((Int)×((Int)×((List (D_api_Record))×((List (D_api_Producer))×((List (D_runtime_errorAddressString))×((Int)×((Int)×((Int)×((Int)×((ByteArray)×((List (Int))×((Int)×((Int)×((ByteArray)×((Int)×((Int)×((Int)×((Bool)×((List (D_api_Record))×(Unit)))))))))))))))))))))
abbrev Z3:Type := (ByteArray)×((ByteArray)×((Int)×((Int)×((List (D_api_Record))×((List (D_api_Producer))×((List (D_runtime_errorAddressString))×(Unit)))))))
abbrev Y4:Sh := (.agg 5 (.cons (.hole (.int .u64)) (.cons (.hole .str) (.cons (.hole (.sl (.int .u8))) (.cons (.hole (.int .u64)) (.cons (.hole (.int .u64)) .nil))))))
abbrev Y5:Sh := (.agg 7 (.cons (.hole .str) (.cons (.hole .str) (.cons (.hole (.int .u64)) (.cons (.hole (.int .u64)) (.cons (.hole (.sl T_api_Record)) (.cons (.hole (.sl T_api_Producer)) (.cons (.hole (.sl T_runtime_errorAddressString)) .nil))))))))
abbrev Y6:Sh := (.agg 10 (.cons (.hole (.int .i64)) (.cons (.hole (.int .u64)) (.cons (.hole (.int .u64)) (.cons (.hole (.int .u64)) (.cons (.hole .str) (.cons (.hole (.sl (.int .u8))) (.cons (.hole (.int .u64)) (.cons (.hole (.int .i64)) (.cons (.hole .str) (.cons (.hole (.int .u64)) .nil)))))))))))
abbrev Y7:Sh := (.agg 7 (.cons (.hole .str) (.cons (.hole .str) (.cons (.hole (.int .u64)) (.cons (.hole (.int .u64)) (.cons (.own .own 49 T_api_Record) (.cons (.own .own 77 T_api_Producer) (.cons (.own .own 79 T_runtime_errorAddressString) .nil))))))))
abbrev Z8:Type := (Int)×((Int)×((Int)×((Int)×((ByteArray)×((List (Int))×((Int)×((Int)×((ByteArray)×((Int)×(Unit))))))))))
abbrev Y9:Sh := (.box 97 21 (.cons (.hole .str) (.cons (.hole .str) (.cons (.hole (.int .u64)) (.cons (.hole (.int .u64)) (.cons (.own .own 49 T_api_Record) (.cons (.own .own 77 T_api_Producer) (.cons (.own .own 79 T_runtime_errorAddressString) (.cons (.hole (.int .i64)) (.cons (.hole (.int .u64)) (.cons (.hole (.int .u64)) (.cons (.hole (.int .u64)) (.cons (.hole .str) (.cons (.hole (.sl (.int .u8))) (.cons (.hole (.int .u64)) (.cons (.hole (.int .i64)) (.cons (.hole .str) (.cons (.hole (.int .u64)) (.cons (.hole (.int .i64)) (.cons (.hole (.int .u64)) (.cons (.hole .bool) (.cons .nils .nil))))))))))))))))))))))
abbrev Y10:Sh := (.agg 21 (.cons (.hole .str) (.cons (.hole .str) (.cons (.hole (.int .u64)) (.cons (.hole (.int .u64)) (.cons (.own .own 49 T_api_Record) (.cons (.own .own 77 T_api_Producer) (.cons (.own .own 79 T_runtime_errorAddressString) (.cons (.hole (.int .i64)) (.cons (.hole (.int .u64)) (.cons (.hole (.int .u64)) (.cons (.hole (.int .u64)) (.cons (.hole .str) (.cons (.hole (.sl (.int .u8))) (.cons (.hole (.int .u64)) (.cons (.hole (.int .i64)) (.cons (.hole .str) (.cons (.hole (.int .u64)) (.cons (.hole (.int .i64)) (.cons (.hole (.int .u64)) (.cons (.hole .bool) (.cons .nils .nil))))))))))))))))))))))
abbrev Y11:Sh := (.agg 5 (.cons (.hole (.int .u64)) (.cons (.hole .str) (.cons (.own .own 5 (.int .u8)) (.cons (.hole (.int .u64)) (.cons (.hole (.int .u64)) .nil))))))
abbrev Y12:Sh := (.agg 21 (.cons (.hole .str) (.cons (.hole .str) (.cons (.hole (.int .u64)) (.cons (.hole (.int .u64)) (.cons (.hole (.sl T_api_Record)) (.cons (.own .own 77 T_api_Producer) (.cons (.own .own 79 T_runtime_errorAddressString) (.cons (.hole (.int .i64)) (.cons (.hole (.int .u64)) (.cons (.hole (.int .u64)) (.cons (.hole (.int .u64)) (.cons (.hole .str) (.cons (.hole (.sl (.int .u8))) (.cons (.hole (.int .u64)) (.cons (.hole (.int .i64)) (.cons (.hole .str) (.cons (.hole (.int .u64)) (.cons (.hole (.int .i64)) (.cons (.hole (.int .u64)) (.cons (.hole .bool) (.cons .nils .nil))))))))))))))))))))))
abbrev Y13:Sh := (.agg 21 (.cons (.hole .str) (.cons (.hole .str) (.cons (.hole (.int .u64)) (.cons (.hole (.int .u64)) (.cons (.hole (.sl T_api_Record)) (.cons (.own .own 77 T_api_Producer) (.cons (.own .own 79 T_runtime_errorAddressString) (.cons (.hole (.int .i64)) (.cons (.hole (.int .u64)) (.cons (.hole (.int .u64)) (.cons (.hole (.int .u64)) (.cons (.hole .str) (.cons (.hole (.sl (.int .u8))) (.cons (.hole (.int .u64)) (.cons (.hole (.int .i64)) (.cons (.hole .str) (.cons (.hole (.int .u64)) (.cons (.hole (.int .i64)) (.cons (.hole (.int .u64)) (.cons (.hole .bool) (.cons (.own .own 49 T_api_Record) .nil))))))))))))))))))))))
abbrev Y14:Sh := (.agg 7 (.cons (.hole .str) (.cons (.hole .str) (.cons (.hole (.int .u64)) (.cons (.hole (.int .u64)) (.cons (.hole (.sl T_api_Record)) (.cons (.own .own 77 T_api_Producer) (.cons (.own .own 79 T_runtime_errorAddressString) .nil))))))))
abbrev Y15:Sh := (.agg 4 (.cons (.hole (.int .i64)) (.cons (.hole (.int .u64)) (.cons (.hole .bool) (.cons (.own .own 49 T_api_Record) .nil)))))
def rs96:List RVx := [(.tmp 2)]
def p96 (_:Nat):(ByteArray)×(Unit)→Option ((Unit)×(Bool)) := fun ⟨a,_⟩ =>
some ((),decide ((ByteArray.size a:Int)≤(32:Int)))
def e96 (fu:Nat):Ent := ⟨96,(.cons (.hole .str) .nil),.nil,(.hole .bool),p96 fu⟩
def d96 (_:Nat):DC := (.seq (.region [opD 2 (.mov (.const vB))] [[]] false) (.seq (.region [mvD 3 0,opD 4 (.len true (tD 3)),opD 5 (.bin .leq (tD 4) (cD 32)),mvD 2 5] [[],[0],[1],[2,0,1,2]] false) .ret))
theorem v96 (fu:Nat):evF fu (d96 fu) rs96 6 (e96 fu).ash (e96 fu).osh (e96 fu).vsh=p96 fu := by kernel_rfl
theorem b96 (fu:Nat):BodyD Tryz.prog 96 6 (d96 fu).erase rs96 := bodyD_mk Tryz.func96 (by kernel_rfl) (by kernel_rfl) (by kernel_rfl) (by kernel_rfl)
theorem g96 (fu:Nat):(e96 fu).Good Tryz.prog := good_by orders (b96 fu) (l := []) (by kernel_rfl) trivial (by kernel_rfl) (v96 fu)
def rs97:List RVx := [(.cell 2 true 2)]
def p97 (_:Nat):((ByteArray)×((ByteArray)×(Unit)))×(Unit)→Option ((Unit)×((ByteArray)×((Bool)×(Unit)))) := fun ⟨⟨_,a,_⟩,_⟩ =>
some ((),(a,ByteArray.toList a==ByteArray.toList (⟨#[]⟩:ByteArray),()))
def e97 (fu:Nat):Ent := ⟨97,(.cons (.agg 2 (.cons (.hole .str) (.cons (.hole .str) .nil))) .nil),.nil,(.agg 2 (.cons (.hole .str) (.cons (.hole .bool) .nil))),p97 fu⟩
def d97 (_:Nat):DC := (.seq (.region [opD 1 (.box 23 2 (tD 0)),opD 2 (.alloc 136 2 [vT,vB])] [[],[]] false) (.seq (.region [opD 3 (.faddr 1 (tD 1)),opD 4 (.load false 1 (tD 3)),opD 5 (.faddr 1 (tD 1)),opD 6 (.load false 1 (tD 5)),opD 7 (.bin .eql (tD 6) (.const vT)),opD 8 (.build 2 [vT,vB] [(0,(1,(tD 4))),(1,(1,(tD 7)))]),onD (.store 2 (tD 2) (tD 8))] [[],[0],[],[2],[3],[1,4],[5,0,1,2,3,4,5]] false) .ret))
theorem v97 (fu:Nat):evF fu (d97 fu) rs97 9 (e97 fu).ash (e97 fu).osh (e97 fu).vsh=p97 fu := by kernel_rfl
theorem b97 (fu:Nat):BodyD Tryz.prog 97 9 (d97 fu).erase rs97 := bodyD_mk Tryz.func97 (by kernel_rfl) (by kernel_rfl) (by kernel_rfl) (by kernel_rfl)
theorem g97 (fu:Nat):(e97 fu).Good Tryz.prog := good_by orders (b97 fu) (l := []) (by kernel_rfl) trivial (by kernel_rfl) (v97 fu)
def rs98:List RVx := [(.tmp 4)]
def p98 (_:Nat):((ByteArray)×((Bool)×(Unit)))×((ByteArray)×(Unit))→Option ((Unit)×(Bool)) := fun ⟨⟨a,c,_⟩,f,_⟩ =>
bif c then
 some ((),true)
else
 some ((),!(Op.bytesLess (ByteArray.toList a) (ByteArray.toList f)||ByteArray.toList a==ByteArray.toList f))
def e98 (fu:Nat):Ent := ⟨98,(.cons (.agg 2 (.cons (.hole .str) (.cons (.hole .bool) .nil))) (.cons (.hole .str) .nil)),.nil,(.hole .bool),p98 fu⟩
def d98 (_:Nat):DC := (.seq (.region [opD 2 (.box 136 2 (tD 0)),opD 4 (.mov (.const vB))] [[],[]] false) (.seq (.region [opD 5 (.faddr 1 (tD 2)),opD 6 (.load false 1 (tD 5)),mvD 7 6,ogD 8 7 false (.faddr 0 (tD 2)),ogD 9 7 false (.load false 1 (tD 8)),ogD 10 7 false (.mov (tD 1)),ogD 11 7 false (.bin .gtr (tD 9) (tD 10)),opD 12 (.pick (tD 7) (.const (.bool true)) (tD 11)),mvD 4 12] [[],[0],[1],[2],[3,2],[2],[4,5,2],[2,6],[7,2,0,1,2,3,4,5,6,7]] false) .ret))
theorem v98 (fu:Nat):evF fu (d98 fu) rs98 13 (e98 fu).ash (e98 fu).osh (e98 fu).vsh=p98 fu := by kernel_rfl
theorem b98 (fu:Nat):BodyD Tryz.prog 98 13 (d98 fu).erase rs98 := bodyD_mk Tryz.func98 (by kernel_rfl) (by kernel_rfl) (by kernel_rfl) (by kernel_rfl)
theorem g98 (fu:Nat):(e98 fu).Good Tryz.prog := good_by orders (b98 fu) (l := []) (by kernel_rfl) trivial (by kernel_rfl) (v98 fu)
def rs36:List RVx := [(.tmp 2)]
def p36 (fu:Nat):((ByteArray)×((ByteArray)×(Unit)))×(Unit)→Option ((Unit)×(Int)) := fun ⟨⟨a,c,_⟩,_⟩ =>
Option.bind (p96 fu (a,())) fun ⟨_,f⟩ =>
bif !f then
 some ((),(131:Int))
else
 Option.bind (p96 fu (c,())) fun ⟨_,h⟩ =>
 bif !h then
 some ((),(131:Int))
 else
 Option.bind (p97 fu ((a,c,()),())) fun ⟨_,⟨i,j,_⟩⟩ =>
 Option.bind (p98 fu ((i,j,()),a,())) fun ⟨_,k⟩ =>
 bif !k then
 some ((),(132:Int))
 else
 some ((),(0:Int))
def e36 (fu:Nat):Ent := ⟨36,(.cons (.agg 2 (.cons (.hole .str) (.cons (.hole .str) .nil))) .nil),.nil,(.hole (.int .i64)),p36 fu⟩
def d36 (fu:Nat):DC := (.seq (.region [opD 1 (.box 23 2 (tD 0)),opD 2 (.mov (cD 0))] [[],[]] false) (.seq (.seq (.region [opD 3 (.faddr 0 (tD 1)),opD 4 (.load false 1 (tD 3)),oqD 5 (.call 96 [(tD 4)]) (.ent (e96 fu)),opD 6 (.not (tD 5)),mvD 7 6,ogD 8 7 false (.faddr 1 (tD 1)),ogD 9 7 false (.load false 1 (tD 8)),(⟨(some 10),(some (7,false)),(.call 96 [(tD 9)])⟩,(.ent (e96 fu))),ogD 11 7 false (.not (tD 10)),opD 12 (.pick (tD 7) (.const (.bool true)) (tD 11))] [[],[0],[1],[2],[3,2],[4],[5,4],[6,4,4],[7,4],[4,8]] false) (.cond (.tmp 12) (.seq (.region [opD 2 (.mov (cD 131))] [[]] false) .ret) .skip)) (.seq (.seq (.region [opD 13 (.load true 2 (tD 1)),oqD 14 (.call 97 [(tD 13)]) (.ent (e97 fu)),opD 15 (.faddr 0 (tD 1)),opD 16 (.load false 1 (tD 15)),oqD 17 (.call 98 [(tD 14),(tD 16)]) (.ent (e98 fu)),opD 18 (.not (tD 17))] [[],[0],[],[2],[1,3,1],[4]] true) (.cond (.tmp 18) (.seq (.region [opD 2 (.mov (cD 132))] [[]] false) .ret) .skip)) (.seq (.region [opD 2 (.mov (cD 0))] [[]] false) .ret))))
theorem v36 (fu:Nat):evF fu (d36 fu) rs36 19 (e36 fu).ash (e36 fu).osh (e36 fu).vsh=p36 fu := by kernel_rfl
theorem b36 (fu:Nat):BodyD Tryz.prog 36 19 (d36 fu).erase rs36 := bodyD_mk Tryz.func36 (by kernel_rfl) (by kernel_rfl) (by kernel_rfl) (by kernel_rfl)
theorem g36 (fu:Nat):(e36 fu).Good Tryz.prog := good_by orders (b36 fu) (l := [e96 fu,e96 fu,e97 fu,e98 fu]) (by kernel_rfl) ⟨g96 fu,g96 fu,g97 fu,g98 fu,trivial⟩ (by kernel_rfl) (v36 fu)
def rs99:List RVx := [(.tmp 2)]
def p99 (_:Nat):((Int)×((ByteArray)×((List (Int))×((Int)×((Int)×(Unit))))))×(Unit)→Option ((Unit)×(Int)) := fun ⟨⟨_,a,c,_,_,_⟩,_⟩ =>
bif decide ((ByteArray.size a:Int)>(32:Int)) then
 some ((),(131:Int))
else
 bif decide ((List.length c:Int)>(256:Int)) then
 some ((),(144:Int))
 else
 some ((),(0:Int))
def e99 (fu:Nat):Ent := ⟨99,(.cons Y4 .nil),.nil,(.hole (.int .i64)),p99 fu⟩
def d99 (_:Nat):DC := (.seq (.region [opD 1 (.box 49 5 (tD 0)),opD 2 (.mov (cD 0))] [[],[]] false) (.seq (.block 0 (.seq (.region [opD 4 (.faddr 1 (tD 1)),opD 5 (.load false 1 (tD 4)),opD 6 (.len true (tD 5)),opD 7 (.bin .gtr (tD 6) (cD 32)),mvD 3 7] [[],[0],[1],[2],[3]] false) (.cond (.tmp 3) (.seq (.region [opD 2 (.mov (cD 131))] [[]] false) .ret) (.seq (.region [opD 9 (.faddr 2 (tD 1)),opD 10 (.load false 1 (tD 9)),opD 11 (.len false (tD 10)),opD 12 (.bin .gtr (tD 11) (cD 256)),mvD 8 12] [[],[0],[1],[2],[3]] false) (.cond (.tmp 8) (.seq (.region [opD 2 (.mov (cD 144))] [[]] false) .ret) .skip))))) (.seq (.region [opD 2 (.mov (cD 0))] [[]] false) .ret)))
theorem v99 (fu:Nat):evF fu (d99 fu) rs99 13 (e99 fu).ash (e99 fu).osh (e99 fu).vsh=p99 fu := by kernel_rfl
theorem b99 (fu:Nat):BodyD Tryz.prog 99 13 (d99 fu).erase rs99 := bodyD_mk Tryz.func99 (by kernel_rfl) (by kernel_rfl) (by kernel_rfl) (by kernel_rfl)
theorem g99 (fu:Nat):(e99 fu).Good Tryz.prog := good_by orders (b99 fu) (l := []) (by kernel_rfl) trivial (by kernel_rfl) (v99 fu)
def rs37:List RVx := [(.tmp 2)]
def p37 (fu:Nat):(List (D_api_Record))×(Unit)→Option ((Unit)×(Bool)) := fun ⟨a,_⟩ =>
loopO (S := ((Int)×(Unit))×(Unit)) fu (fun ⟨⟨c,_⟩,_⟩ =>
 bif decide (c<(List.length a:Int)) then
 bif decide ((0:Int)≤c∧c<(List.length a:Int)) then
 bif decide (Int.toNat c<List.length a) then
 bif (((List.getD a (Int.toNat c) (dflt T_api_Record)).1) != (IntKind.wrap .u64 c)) then
 inrO (some ((),false))
 else
 Option.bind (p99 fu (((List.getD a (Int.toNat c) (dflt T_api_Record)).1,((List.getD a (Int.toNat c) (dflt T_api_Record)).2).1,(((List.getD a (Int.toNat c) (dflt T_api_Record)).2).2).1,((((List.getD a (Int.toNat c) (dflt T_api_Record)).2).2).2).1,((((List.getD a (Int.toNat c) (dflt T_api_Record)).2).2).2).2,()),())) fun ⟨_,f⟩ =>
 bif (f != (0:Int)) then
 inrO (some ((),false))
 else
 some (.inl ((IntKind.wrap .i64 (c+(1:Int)),()),()))
 else none
 else none
 else
 inrO (some ((),decide ((List.length a:Int)≤(4096:Int)))))
 (((0:Int),()),())
def e37 (fu:Nat):Ent := ⟨37,(.cons (.hole (.sl T_api_Record)) .nil),.nil,(.hole .bool),p37 fu⟩
def d37 (fu:Nat):DC := (.seq (.region [opD 2 (.mov (.const vB))] [[]] false) (.seq (.seq (.region [mvD 5 0,opD 6 (.len false (tD 5)),opD 7 (.mov (cD 0))] [[],[0],[]] false) (.block 0 (.loop ⟨[7],(.cons (.hole (.int .i64)) .nil),[],.nil,[0,5,6],[]⟩
 (.seq (.region [opD 8 (.bin .lss (tD 7) (tD 6))] [[]] false) (.seq (.cond (.tmp 8) .skip (.exit 0)) (.seq (.block 1 (.seq (.region [mvD 9 7,opD 10 (.iaddr 5 (tD 5) (tD 7)),opD 11 (.load true 5 (tD 10)),opD 4 (.alloc 49 5 [vU,vT,vS,vU,vU]),mvD 3 9,onD (.store 5 (tD 4) (tD 11))] [[],[],[1],[],[0,0,1,2,3],[3,2,4,0,1,2,3,4]] false) (.seq (.region [opD 12 (.faddr 0 (tD 4)),opD 13 (.load false 1 (tD 12)),mvD 14 3,opD 15 (.conv .u64 (tD 14)),opD 16 (.bin .neq (tD 13) (tD 15)),mvD 17 16,ogD 18 17 false (.load true 5 (tD 4)),(⟨(some 19),(some (17,false)),(.call 99 [(tD 18)])⟩,(.ent (e99 fu))),ogD 20 17 false (.bin .neq (tD 19) (cD 0)),opD 21 (.pick (tD 17) (.const (.bool true)) (tD 20))] [[],[0],[],[2],[1,3],[4],[5],[6,5,5],[7,5],[5,8]] false) (.cond (.tmp 21) (.seq (.region [opD 2 (.mov (.const vB))] [[]] false) .ret) .skip)))) (.region [opD 22 (.bin .add (tD 7) (cD 1)),mvD 7 22] [[],[0]] false))))))) (.seq (.region [mvD 23 0,opD 24 (.len false (tD 23)),opD 25 (.bin .leq (tD 24) (cD 4096)),mvD 2 25] [[],[0],[1],[2,0,1,2]] false) .ret)))
theorem v37 (fu:Nat):evF fu (d37 fu) rs37 26 (e37 fu).ash (e37 fu).osh (e37 fu).vsh=p37 fu := by kernel_rfl
theorem b37 (fu:Nat):BodyD Tryz.prog 37 26 (d37 fu).erase rs37 := bodyD_mk Tryz.func37 (by kernel_rfl) (by kernel_rfl) (by kernel_rfl) (by kernel_rfl)
theorem g37 (fu:Nat):(e37 fu).Good Tryz.prog := good_by orders (b37 fu) (l := [e99 fu]) (by kernel_rfl) ⟨g99 fu,trivial⟩ (by kernel_rfl) (v37 fu)
def rs140:List RVx := [(.tmp 2)]
def p140 (_:Nat):(Int)×(Unit)→Option ((Unit)×(Bool)) := fun ⟨a,_⟩ =>
some ((),(a != a))
def e140 (fu:Nat):Ent := ⟨140,(.cons (.hole (.int .u64)) .nil),.nil,(.hole .bool),p140 fu⟩
def d140 (_:Nat):DC := (.seq (.region [opD 2 (.mov (.const vB))] [[]] false) (.seq (.region [mvD 3 0,mvD 4 0,opD 5 (.bin .neq (tD 3) (tD 4)),mvD 2 5] [[],[],[0,1],[2,0,1,2]] false) .ret))
theorem v140 (fu:Nat):evF fu (d140 fu) rs140 6 (e140 fu).ash (e140 fu).osh (e140 fu).vsh=p140 fu := by kernel_rfl
theorem b140 (fu:Nat):BodyD Tryz.prog 140 6 (d140 fu).erase rs140 := bodyD_mk Tryz.func140 (by kernel_rfl) (by kernel_rfl) (by kernel_rfl) (by kernel_rfl)
theorem g140 (fu:Nat):(e140 fu).Good Tryz.prog := good_by orders (b140 fu) (l := []) (by kernel_rfl) trivial (by kernel_rfl) (v140 fu)
def rs105:List RVx := [(.tmp 4)]
def p105 (fu:Nat):(Int)×((Int)×(Unit))→Option ((Unit)×(Int)) := fun ⟨a,c,_⟩ =>
Option.bind (p140 fu (a,())) fun ⟨_,f⟩ =>
Option.bind (p140 fu (c,())) fun ⟨_,h⟩ =>
bif f then
 bif h then
 some ((),(0:Int))
 else
 some ((),((-1):Int))
else
 bif h then
 some ((),(1:Int))
 else
 bif decide (a<c) then
 some ((),((-1):Int))
 else
 bif decide (a>c) then
 some ((),(1:Int))
 else
 some ((),(0:Int))
def e105 (fu:Nat):Ent := ⟨105,(.cons (.hole (.int .u64)) (.cons (.hole (.int .u64)) .nil)),.nil,(.hole (.int .i64)),p105 fu⟩
def d105 (fu:Nat):DC := (.seq (.region [opD 4 (.mov (cD 0))] [[]] false) (.seq (.region [mvD 7 0,oqD 8 (.call 140 [(tD 7)]) (.ent (e140 fu)),mvD 5 8] [[],[0],[1,1,0,1]] false) (.seq (.region [mvD 9 1,oqD 10 (.call 140 [(tD 9)]) (.ent (e140 fu)),mvD 6 10] [[],[0],[1,1,0,1]] false) (.seq (.seq (.region [mvD 11 5] [[]] false) (.cond (.tmp 11) (.seq (.seq (.region [mvD 12 6] [[]] false) (.cond (.tmp 12) (.seq (.region [opD 4 (.mov (cD 0))] [[]] false) .ret) .skip)) (.seq (.region [opD 4 (.mov (.const (.int .i64 (-1))))] [[]] false) .ret)) .skip)) (.seq (.seq (.region [mvD 13 6] [[]] false) (.cond (.tmp 13) (.seq (.region [opD 4 (.mov (cD 1))] [[]] false) .ret) .skip)) (.seq (.seq (.region [mvD 14 0,mvD 15 1,opD 16 (.bin .lss (tD 14) (tD 15))] [[],[],[0,1]] false) (.cond (.tmp 16) (.seq (.region [opD 4 (.mov (.const (.int .i64 (-1))))] [[]] false) .ret) .skip)) (.seq (.seq (.region [mvD 17 0,mvD 18 1,opD 19 (.bin .gtr (tD 17) (tD 18))] [[],[],[0,1]] false) (.cond (.tmp 19) (.seq (.region [opD 4 (.mov (cD 1))] [[]] false) .ret) .skip)) (.seq (.region [opD 4 (.mov (cD 0))] [[]] false) .ret))))))))
theorem v105 (fu:Nat):evF fu (d105 fu) rs105 20 (e105 fu).ash (e105 fu).osh (e105 fu).vsh=p105 fu := by kernel_rfl
theorem b105 (fu:Nat):BodyD Tryz.prog 105 20 (d105 fu).erase rs105 := bodyD_mk Tryz.func105 (by kernel_rfl) (by kernel_rfl) (by kernel_rfl) (by kernel_rfl)
theorem g105 (fu:Nat):(e105 fu).Good Tryz.prog := good_by orders (b105 fu) (l := [e140 fu,e140 fu]) (by kernel_rfl) ⟨g140 fu,g140 fu,trivial⟩ (by kernel_rfl) (v105 fu)
def rs100:List RVx := [(.tmp 4)]
def p100 (fu:Nat):((Int)×((Int)×((Bool)×((Int)×(Unit)))))×(((Int)×((Int)×((Bool)×((Int)×(Unit)))))×(Unit))→Option ((Unit)×(Int)) := fun ⟨⟨a,_,_,_,_⟩,⟨c,_,_,_,_⟩,_⟩ =>
Option.bind (p105 fu (a,c,())) fun ⟨_,f⟩ =>
some ((),f)
def e100 (fu:Nat):Ent := ⟨100,(.cons (.agg 4 (.cons (.hole (.int .u64)) (.cons (.hole (.int .u64)) (.cons (.hole .bool) (.cons (.hole (.int .u64)) .nil))))) (.cons (.agg 4 (.cons (.hole (.int .u64)) (.cons (.hole (.int .u64)) (.cons (.hole .bool) (.cons (.hole (.int .u64)) .nil))))) .nil)),.nil,(.hole (.int .i64)),p100 fu⟩
def d100 (fu:Nat):DC := (.seq (.region [opD 2 (.box 77 4 (tD 0)),opD 3 (.box 77 4 (tD 1)),opD 4 (.mov (cD 0))] [[],[],[]] false) (.seq (.region [opD 5 (.faddr 0 (tD 2)),opD 6 (.load false 1 (tD 5)),opD 7 (.faddr 0 (tD 3)),opD 8 (.load false 1 (tD 7)),oqD 9 (.call 105 [(tD 6),(tD 8)]) (.ent (e105 fu)),mvD 4 9] [[],[0],[],[2],[1,3],[4,4,0,1,2,3,4]] false) .ret))
theorem v100 (fu:Nat):evF fu (d100 fu) rs100 10 (e100 fu).ash (e100 fu).osh (e100 fu).vsh=p100 fu := by kernel_rfl
theorem b100 (fu:Nat):BodyD Tryz.prog 100 10 (d100 fu).erase rs100 := bodyD_mk Tryz.func100 (by kernel_rfl) (by kernel_rfl) (by kernel_rfl) (by kernel_rfl)
theorem g100 (fu:Nat):(e100 fu).Good Tryz.prog := good_by orders (b100 fu) (l := [e105 fu]) (by kernel_rfl) ⟨g105 fu,trivial⟩ (by kernel_rfl) (v100 fu)
def rs101:List RVx := [(.tmp 2)]
def p101 (_:Nat):(Int)×(Unit)→Option ((Unit)×(Bool)) := fun ⟨a,_⟩ =>
bif decide (a≥(1:Int)) then
 some ((),decide (a≤(9223372036854775807:Int)))
else
 some ((),false)
def e101 (fu:Nat):Ent := ⟨101,(.cons (.hole (.int .u64)) .nil),.nil,(.hole .bool),p101 fu⟩
def d101 (_:Nat):DC := (.seq (.region [opD 2 (.mov (.const vB))] [[]] false) (.seq (.region [mvD 3 0,opD 4 (.bin .geq (tD 3) (.const (.int .u64 1))),mvD 5 4,ogD 6 5 true (.mov (tD 0)),ogD 7 5 true (.bin .leq (tD 6) (.const (.int .u64 9223372036854775807))),opD 8 (.pick (tD 5) (tD 7) (.const vB)),mvD 2 8] [[],[0],[1],[2],[3,2],[2,4],[5,2,0,1,2,3,4,5]] false) .ret))
theorem v101 (fu:Nat):evF fu (d101 fu) rs101 9 (e101 fu).ash (e101 fu).osh (e101 fu).vsh=p101 fu := by kernel_rfl
theorem b101 (fu:Nat):BodyD Tryz.prog 101 9 (d101 fu).erase rs101 := bodyD_mk Tryz.func101 (by kernel_rfl) (by kernel_rfl) (by kernel_rfl) (by kernel_rfl)
theorem g101 (fu:Nat):(e101 fu).Good Tryz.prog := good_by orders (b101 fu) (l := []) (by kernel_rfl) trivial (by kernel_rfl) (v101 fu)
def rs38:List RVx := [(.tmp 2)]
def p38 (fu:Nat):(List (D_api_Producer))×(Unit)→Option ((Unit)×(Bool)) := fun ⟨a,_⟩ =>
loopO (S := ((Int)×(Unit))×(Unit)) fu (fun ⟨⟨c,_⟩,_⟩ =>
 bif decide (c<(List.length a:Int)) then
 bif decide ((0:Int)≤c∧c<(List.length a:Int)) then
 bif decide (Int.toNat c<List.length a) then
 orK (E := ((Bool)×(Unit))×(Unit))
 (bif (c==(0:Int)) then
 some (.inl ((true,()),()))
 else
 bif decide ((0:Int)≤IntKind.wrap .i64 (c-(1:Int))∧IntKind.wrap .i64 (c-(1:Int))<(List.length a:Int)) then
 bif decide (Int.toNat (IntKind.wrap .i64 (c-(1:Int)))<List.length a) then
 Option.bind (p100 fu (((List.getD a (Int.toNat (IntKind.wrap .i64 (c-(1:Int)))) (dflt T_api_Producer)).1,((List.getD a (Int.toNat (IntKind.wrap .i64 (c-(1:Int)))) (dflt T_api_Producer)).2).1,(((List.getD a (Int.toNat (IntKind.wrap .i64 (c-(1:Int)))) (dflt T_api_Producer)).2).2).1,(((List.getD a (Int.toNat (IntKind.wrap .i64 (c-(1:Int)))) (dflt T_api_Producer)).2).2).2,()),((List.getD a (Int.toNat c) (dflt T_api_Producer)).1,((List.getD a (Int.toNat c) (dflt T_api_Producer)).2).1,(((List.getD a (Int.toNat c) (dflt T_api_Producer)).2).2).1,(((List.getD a (Int.toNat c) (dflt T_api_Producer)).2).2).2,()),())) fun ⟨_,f⟩ =>
 some (.inl ((decide (f<(0:Int)),()),()))
 else none
 else none)
 fun ⟨⟨h,_⟩,_⟩ =>
 bif (((List.getD a (Int.toNat c) (dflt T_api_Producer)).1)==(0:Int)) then
 inrO (some ((),false))
 else
 Option.bind (p101 fu (((List.getD a (Int.toNat c) (dflt T_api_Producer)).2).1,())) fun ⟨_,i⟩ =>
 bif !i then
 inrO (some ((),false))
 else
 bif !h then
 inrO (some ((),false))
 else
 bif !((((List.getD a (Int.toNat c) (dflt T_api_Producer)).2).2).1) then
 bif (((((List.getD a (Int.toNat c) (dflt T_api_Producer)).2).2).2) != (0:Int)) then
 inrO (some ((),false))
 else
 some (.inl ((IntKind.wrap .i64 (c+(1:Int)),()),()))
 else
 some (.inl ((IntKind.wrap .i64 (c+(1:Int)),()),()))
 else none
 else none
 else
 inrO (some ((),decide ((List.length a:Int)≤(256:Int)))))
 (((0:Int),()),())
def e38 (fu:Nat):Ent := ⟨38,(.cons (.hole (.sl T_api_Producer)) .nil),.nil,(.hole .bool),p38 fu⟩
def d38 (fu:Nat):DC := (.seq (.region [opD 2 (.mov (.const vB))] [[]] false) (.seq (.seq (.region [mvD 6 0,opD 7 (.len false (tD 6)),opD 8 (.mov (cD 0))] [[],[0],[]] false) (.block 0 (.loop ⟨[8],(.cons (.hole (.int .i64)) .nil),[],.nil,[0,6,7],[]⟩
 (.seq (.region [opD 9 (.bin .lss (tD 8) (tD 7))] [[]] false) (.seq (.cond (.tmp 9) .skip (.exit 0)) (.seq (.block 1 (.seq (.region [mvD 10 8,opD 11 (.iaddr 4 (tD 6) (tD 8)),opD 12 (.load true 4 (tD 11)),opD 4 (.alloc 77 4 [vU,vU,vB,vU]),mvD 3 10,onD (.store 4 (tD 4) (tD 12))] [[],[],[1],[],[0,0,1,2,3],[3,2,4,0,1,2,3,4]] false) (.join ⟨[5],(.cons (.hole .bool) .nil),[],.nil,[0,4,6,7,8],[128]⟩
 (.region [mvD 13 3,opD 14 (.bin .eql (tD 13) (cD 0)),mvD 15 14,ogD 16 15 false (.mov (tD 0)),ogD 17 15 false (.mov (tD 3)),ogD 18 15 false (.bin .sub (tD 17) (cD 1)),ogD 19 15 false (.iaddr 4 (tD 16) (tD 18)),ogD 20 15 false (.load true 4 (tD 19)),ogD 21 15 false (.load true 4 (tD 4)),(⟨(some 22),(some (15,false)),(.call 100 [(tD 20),(tD 21)])⟩,(.ent (e100 fu))),ogD 23 15 false (.bin .lss (tD 22) (cD 0)),opD 24 (.pick (tD 15) (.const (.bool true)) (tD 23)),mvD 5 24] [[],[0],[1],[2],[2],[4,2],[3,5,2],[6,2],[2],[7,8,2,2],[9,2],[2,10],[11,9,0,1,2,3,4,5,6,7,8,9,10,11]] true)
 (.seq (.region [opD 25 (.faddr 0 (tD 4)),opD 26 (.load false 1 (tD 25)),opD 27 (.bin .eql (tD 26) (.const vU)),mvD 28 27,ogD 29 28 false (.faddr 1 (tD 4)),ogD 30 28 false (.load false 1 (tD 29)),(⟨(some 31),(some (28,false)),(.call 101 [(tD 30)])⟩,(.ent (e101 fu))),ogD 32 28 false (.not (tD 31)),opD 33 (.pick (tD 28) (.const (.bool true)) (tD 32)),mvD 34 33,ogD 35 34 false (.mov (tD 5)),ogD 36 34 false (.not (tD 35)),opD 37 (.pick (tD 34) (.const (.bool true)) (tD 36)),mvD 38 37,ogD 39 38 false (.faddr 2 (tD 4)),ogD 40 38 false (.load false 1 (tD 39)),ogD 41 38 false (.not (tD 40)),ogD 42 38 false (.mov (tD 41)),ogD 43 42 true (.faddr 3 (tD 4)),ogD 44 42 true (.load false 1 (tD 43)),ogD 45 42 true (.bin .neq (tD 44) (.const vU)),ogD 46 38 false (.pick (tD 42) (tD 45) (.const vB)),opD 47 (.pick (tD 38) (.const (.bool true)) (tD 46))] [[],[0],[1],[2],[3],[4,3],[5,3,3],[6,3],[3,7],[8,6],[9],[10,9],[9,11],[12,9],[13],[14,13],[15,13],[16,13,13],[17],[18,17],[19,17],[17,20,13],[13,21]] false) (.cond (.tmp 47) (.seq (.region [opD 2 (.mov (.const vB))] [[]] false) .ret) .skip))))) (.region [opD 48 (.bin .add (tD 8) (cD 1)),mvD 8 48] [[],[0]] false))))))) (.seq (.region [mvD 49 0,opD 50 (.len false (tD 49)),opD 51 (.bin .leq (tD 50) (cD 256)),mvD 2 51] [[],[0],[1],[2,0,1,2]] false) .ret)))
theorem v38 (fu:Nat):evF fu (d38 fu) rs38 52 (e38 fu).ash (e38 fu).osh (e38 fu).vsh=p38 fu := by kernel_rfl
theorem b38 (fu:Nat):BodyD Tryz.prog 38 52 (d38 fu).erase rs38 := bodyD_mk Tryz.func38 (by kernel_rfl) (by kernel_rfl) (by kernel_rfl) (by kernel_rfl)
theorem g38 (fu:Nat):(e38 fu).Good Tryz.prog := good_by orders (b38 fu) (l := [e100 fu,e101 fu]) (by kernel_rfl) ⟨g100 fu,g101 fu,trivial⟩ (by kernel_rfl) (v38 fu)
def rs102:List RVx := [(.tmp 2)]
def p102 (fu:Nat):(ByteArray)×(Unit)→Option ((Unit)×(Bool)) := fun ⟨a,_⟩ =>
loopO (S := ((Int)×(Unit))×(Unit)) fu (fun ⟨⟨c,_⟩,_⟩ =>
 bif decide (c<(List.length (numsOf a):Int)) then
 bif decide ((0:Int)≤c∧c<(List.length (numsOf a):Int)) then
 bif decide (Int.toNat c<List.length (numsOf a)) then
 bif decide ((List.getD (numsOf a) (Int.toNat c) (dflt (.int .u8)))<(97:Int)) then
 bif decide ((List.getD (numsOf a) (Int.toNat c) (dflt (.int .u8)))<(48:Int)) then
 bif ((List.getD (numsOf a) (Int.toNat c) (dflt (.int .u8))) != (45:Int)) then
 bif ((List.getD (numsOf a) (Int.toNat c) (dflt (.int .u8))) != (95:Int)) then
 bif ((List.getD (numsOf a) (Int.toNat c) (dflt (.int .u8))) != (46:Int)) then
 inrO (some ((),false))
 else
 some (.inl ((IntKind.wrap .i64 (c+(1:Int)),()),()))
 else
 some (.inl ((IntKind.wrap .i64 (c+(1:Int)),()),()))
 else
 some (.inl ((IntKind.wrap .i64 (c+(1:Int)),()),()))
 else
 bif decide ((List.getD (numsOf a) (Int.toNat c) (dflt (.int .u8)))>(57:Int)) then
 bif ((List.getD (numsOf a) (Int.toNat c) (dflt (.int .u8))) != (45:Int)) then
 bif ((List.getD (numsOf a) (Int.toNat c) (dflt (.int .u8))) != (95:Int)) then
 bif ((List.getD (numsOf a) (Int.toNat c) (dflt (.int .u8))) != (46:Int)) then
 inrO (some ((),false))
 else
 some (.inl ((IntKind.wrap .i64 (c+(1:Int)),()),()))
 else
 some (.inl ((IntKind.wrap .i64 (c+(1:Int)),()),()))
 else
 some (.inl ((IntKind.wrap .i64 (c+(1:Int)),()),()))
 else
 some (.inl ((IntKind.wrap .i64 (c+(1:Int)),()),()))
 else
 bif decide ((List.getD (numsOf a) (Int.toNat c) (dflt (.int .u8)))>(122:Int)) then
 bif decide ((List.getD (numsOf a) (Int.toNat c) (dflt (.int .u8)))<(48:Int)) then
 bif ((List.getD (numsOf a) (Int.toNat c) (dflt (.int .u8))) != (45:Int)) then
 bif ((List.getD (numsOf a) (Int.toNat c) (dflt (.int .u8))) != (95:Int)) then
 bif ((List.getD (numsOf a) (Int.toNat c) (dflt (.int .u8))) != (46:Int)) then
 inrO (some ((),false))
 else
 some (.inl ((IntKind.wrap .i64 (c+(1:Int)),()),()))
 else
 some (.inl ((IntKind.wrap .i64 (c+(1:Int)),()),()))
 else
 some (.inl ((IntKind.wrap .i64 (c+(1:Int)),()),()))
 else
 bif decide ((List.getD (numsOf a) (Int.toNat c) (dflt (.int .u8)))>(57:Int)) then
 bif ((List.getD (numsOf a) (Int.toNat c) (dflt (.int .u8))) != (45:Int)) then
 bif ((List.getD (numsOf a) (Int.toNat c) (dflt (.int .u8))) != (95:Int)) then
 bif ((List.getD (numsOf a) (Int.toNat c) (dflt (.int .u8))) != (46:Int)) then
 inrO (some ((),false))
 else
 some (.inl ((IntKind.wrap .i64 (c+(1:Int)),()),()))
 else
 some (.inl ((IntKind.wrap .i64 (c+(1:Int)),()),()))
 else
 some (.inl ((IntKind.wrap .i64 (c+(1:Int)),()),()))
 else
 some (.inl ((IntKind.wrap .i64 (c+(1:Int)),()),()))
 else
 some (.inl ((IntKind.wrap .i64 (c+(1:Int)),()),()))
 else none
 else none
 else
 inrO (bif decide ((ByteArray.size a:Int)≥(1:Int)) then
 some ((),decide ((ByteArray.size a:Int)≤(32:Int)))
 else
 some ((),false)))
 (((0:Int),()),())
def e102 (fu:Nat):Ent := ⟨102,(.cons (.hole .str) .nil),.nil,(.hole .bool),p102 fu⟩
def d102 (_:Nat):DC := (.seq (.region [opD 2 (.mov (.const vB))] [[]] false) (.seq (.seq (.region [mvD 5 0,opD 6 (.s2b 5 (tD 5)),opD 7 (.len false (tD 6)),opD 8 (.mov (cD 0))] [[],[0],[1],[]] false) (.block 0 (.loop ⟨[8],(.cons (.hole (.int .i64)) .nil),[],.nil,[0,6,7],[]⟩
 (.seq (.region [opD 9 (.bin .lss (tD 8) (tD 7))] [[]] false) (.seq (.cond (.tmp 9) .skip (.exit 0)) (.seq (.block 1 (.seq (.region [opD 10 (.iaddr 1 (tD 6) (tD 8)),opD 11 (.load false 1 (tD 10)),mvD 4 11] [[],[0],[1,0,1]] false) (.seq (.region [mvD 12 4,opD 13 (.bin .lss (tD 12) (.const (.int .u8 97))),mvD 14 13,ogD 15 14 false (.mov (tD 4)),ogD 16 14 false (.bin .gtr (tD 15) (.const (.int .u8 122))),opD 17 (.pick (tD 14) (.const (.bool true)) (tD 16)),mvD 18 17,ogD 19 18 true (.mov (tD 4)),ogD 20 18 true (.bin .lss (tD 19) (.const (.int .u8 48))),ogD 21 18 true (.mov (tD 20)),ogD 22 21 false (.mov (tD 4)),ogD 23 21 false (.bin .gtr (tD 22) (.const (.int .u8 57))),ogD 24 18 true (.pick (tD 21) (.const (.bool true)) (tD 23)),opD 25 (.pick (tD 18) (tD 24) (.const vB)),mvD 26 25,ogD 27 26 true (.mov (tD 4)),ogD 28 26 true (.bin .neq (tD 27) (.const (.int .u8 45))),opD 29 (.pick (tD 26) (tD 28) (.const vB)),mvD 30 29,ogD 31 30 true (.mov (tD 4)),ogD 32 30 true (.bin .neq (tD 31) (.const (.int .u8 95))),opD 33 (.pick (tD 30) (tD 32) (.const vB)),mvD 34 33,ogD 35 34 true (.mov (tD 4)),ogD 36 34 true (.bin .neq (tD 35) (.const (.int .u8 46))),opD 37 (.pick (tD 34) (tD 36) (.const vB))] [[],[0],[1],[2],[3,2],[2,4],[5,2],[6],[7,6],[8,6,6],[9],[10,9],[9,11,6],[6,12],[13,9],[14],[15,14],[14,16],[17,14],[18],[19,18],[18,20],[21,18],[22],[23,22],[22,24]] false) (.cond (.tmp 37) (.seq (.region [opD 2 (.mov (.const vB))] [[]] false) .ret) .skip)))) (.region [opD 38 (.bin .add (tD 8) (cD 1)),mvD 8 38] [[],[0]] false))))))) (.seq (.region [mvD 39 0,opD 40 (.len true (tD 39)),opD 41 (.bin .geq (tD 40) (cD 1)),mvD 42 41,ogD 43 42 true (.mov (tD 0)),ogD 44 42 true (.len true (tD 43)),ogD 45 42 true (.bin .leq (tD 44) (cD 32)),opD 46 (.pick (tD 42) (tD 45) (.const vB)),mvD 2 46] [[],[0],[1],[2],[3],[4,3],[5,3],[3,6],[7,3,0,1,2,3,4,5,6,7]] false) .ret)))
theorem v102 (fu:Nat):evF fu (d102 fu) rs102 47 (e102 fu).ash (e102 fu).osh (e102 fu).vsh=p102 fu := by kernel_rfl
theorem b102 (fu:Nat):BodyD Tryz.prog 102 47 (d102 fu).erase rs102 := bodyD_mk Tryz.func102 (by kernel_rfl) (by kernel_rfl) (by kernel_rfl) (by kernel_rfl)
theorem g102 (fu:Nat):(e102 fu).Good Tryz.prog := good_by orders (b102 fu) (l := []) (by kernel_rfl) trivial (by kernel_rfl) (v102 fu)
def rs39:List RVx := [(.tmp 2)]
def p39 (fu:Nat):(List (D_runtime_errorAddressString))×(Unit)→Option ((Unit)×(Bool)) := fun ⟨a,_⟩ =>
loopO (S := ((Int)×(Unit))×(Unit)) fu (fun ⟨⟨c,_⟩,_⟩ =>
 bif decide (c<(List.length a:Int)) then
 bif decide ((0:Int)≤c∧c<(List.length a:Int)) then
 bif decide (Int.toNat c<List.length a) then
 Option.bind (p102 fu ((List.getD a (Int.toNat c) (dflt T_runtime_errorAddressString)).1,())) fun ⟨_,f⟩ =>
 bif !f then
 inrO (some ((),false))
 else
 bif decide (c>(0:Int)) then
 bif decide ((0:Int)≤IntKind.wrap .i64 (c-(1:Int))∧IntKind.wrap .i64 (c-(1:Int))<(List.length a:Int)) then
 bif decide (Int.toNat (IntKind.wrap .i64 (c-(1:Int)))<List.length a) then
 bif !Op.bytesLess (ByteArray.toList ((List.getD a (Int.toNat (IntKind.wrap .i64 (c-(1:Int)))) (dflt T_runtime_errorAddressString)).1)) (ByteArray.toList ((List.getD a (Int.toNat c) (dflt T_runtime_errorAddressString)).1)) then
 inrO (some ((),false))
 else
 some (.inl ((IntKind.wrap .i64 (c+(1:Int)),()),()))
 else none
 else none
 else
 some (.inl ((IntKind.wrap .i64 (c+(1:Int)),()),()))
 else none
 else none
 else
 inrO (some ((),decide ((List.length a:Int)≤(64:Int)))))
 (((0:Int),()),())
def e39 (fu:Nat):Ent := ⟨39,(.cons (.hole (.sl T_runtime_errorAddressString)) .nil),.nil,(.hole .bool),p39 fu⟩
def d39 (fu:Nat):DC := (.seq (.region [opD 2 (.mov (.const vB))] [[]] false) (.seq (.seq (.region [mvD 5 0,opD 6 (.len false (tD 5)),opD 7 (.mov (cD 0))] [[],[0],[]] false) (.block 0 (.loop ⟨[7],(.cons (.hole (.int .i64)) .nil),[],.nil,[0,5,6],[]⟩
 (.seq (.region [opD 8 (.bin .lss (tD 7) (tD 6))] [[]] false) (.seq (.cond (.tmp 8) .skip (.exit 0)) (.seq (.block 1 (.seq (.region [mvD 9 7,opD 10 (.iaddr 2 (tD 5) (tD 7)),opD 11 (.load true 2 (tD 10)),opD 4 (.alloc 79 2 [vT,vU]),mvD 3 9,onD (.store 2 (tD 4) (tD 11))] [[],[],[1],[],[0,0,1,2,3],[3,2,4,0,1,2,3,4]] false) (.seq (.region [opD 12 (.faddr 0 (tD 4)),opD 13 (.load false 1 (tD 12)),oqD 14 (.call 102 [(tD 13)]) (.ent (e102 fu)),opD 15 (.not (tD 14)),mvD 16 15,ogD 17 16 false (.mov (tD 3)),ogD 18 16 false (.bin .gtr (tD 17) (cD 0)),ogD 19 16 false (.mov (tD 18)),ogD 20 19 true (.mov (tD 0)),ogD 21 19 true (.mov (tD 3)),ogD 22 19 true (.bin .sub (tD 21) (cD 1)),ogD 23 19 true (.iaddr 2 (tD 20) (tD 22)),ogD 24 19 true (.faddr 0 (tD 23)),ogD 25 19 true (.load false 1 (tD 24)),ogD 26 19 true (.faddr 0 (tD 4)),ogD 27 19 true (.load false 1 (tD 26)),ogD 28 19 true (.bin .geq (tD 25) (tD 27)),ogD 29 16 false (.pick (tD 19) (tD 28) (.const vB)),opD 30 (.pick (tD 16) (.const (.bool true)) (tD 29))] [[],[0],[1],[2],[3,2],[4],[5,4],[6,4,4],[7],[7],[9,7],[8,10,7],[11,7],[12,7],[7],[14,7],[13,15,7],[7,16,4],[4,17]] true) (.cond (.tmp 30) (.seq (.region [opD 2 (.mov (.const vB))] [[]] false) .ret) .skip)))) (.region [opD 31 (.bin .add (tD 7) (cD 1)),mvD 7 31] [[],[0]] false))))))) (.seq (.region [mvD 32 0,opD 33 (.len false (tD 32)),opD 34 (.bin .leq (tD 33) (cD 64)),mvD 2 34] [[],[0],[1],[2,0,1,2]] false) .ret)))
theorem v39 (fu:Nat):evF fu (d39 fu) rs39 35 (e39 fu).ash (e39 fu).osh (e39 fu).vsh=p39 fu := by kernel_rfl
theorem b39 (fu:Nat):BodyD Tryz.prog 39 35 (d39 fu).erase rs39 := bodyD_mk Tryz.func39 (by kernel_rfl) (by kernel_rfl) (by kernel_rfl) (by kernel_rfl)
theorem g39 (fu:Nat):(e39 fu).Good Tryz.prog := good_by orders (b39 fu) (l := [e102 fu]) (by kernel_rfl) ⟨g102 fu,trivial⟩ (by kernel_rfl) (v39 fu)
def rs104:List RVx := [(.tmp 4)]
def p104 (fu:Nat):((Int)×((Int)×((Bool)×((Int)×(Unit)))))×((Int)×(Unit))→Option ((Unit)×(Int)) := fun ⟨⟨a,_,_,_,_⟩,c,_⟩ =>
Option.bind (p105 fu (a,c,())) fun ⟨_,f⟩ =>
some ((),f)
def e104 (fu:Nat):Ent := ⟨104,(.cons (.agg 4 (.cons (.hole (.int .u64)) (.cons (.hole (.int .u64)) (.cons (.hole .bool) (.cons (.hole (.int .u64)) .nil))))) (.cons (.hole (.int .u64)) .nil)),.nil,(.hole (.int .i64)),p104 fu⟩
def d104 (fu:Nat):DC := (.seq (.region [opD 2 (.box 77 4 (tD 0)),opD 4 (.mov (cD 0))] [[],[]] false) (.seq (.region [opD 5 (.faddr 0 (tD 2)),opD 6 (.load false 1 (tD 5)),mvD 7 1,oqD 8 (.call 105 [(tD 6),(tD 7)]) (.ent (e105 fu)),mvD 4 8] [[],[0],[],[1,2],[3,3,0,1,2,3]] false) .ret))
theorem v104 (fu:Nat):evF fu (d104 fu) rs104 9 (e104 fu).ash (e104 fu).osh (e104 fu).vsh=p104 fu := by kernel_rfl
theorem b104 (fu:Nat):BodyD Tryz.prog 104 9 (d104 fu).erase rs104 := bodyD_mk Tryz.func104 (by kernel_rfl) (by kernel_rfl) (by kernel_rfl) (by kernel_rfl)
theorem g104 (fu:Nat):(e104 fu).Good Tryz.prog := good_by orders (b104 fu) (l := [e105 fu]) (by kernel_rfl) ⟨g105 fu,trivial⟩ (by kernel_rfl) (v104 fu)
def rs103:List RVx := [(.tmp 6),(.tmp 7)]
def p103 (fu:Nat):(List (D_api_Producer))×((Int)×(((Unit)×(Unit))×(Unit)))→Option ((Unit)×((Int)×((Bool)×(Unit)))) := fun ⟨a,c,⟨_,_⟩,_⟩ =>
loopO (S := ((Int)×((Int)×(Unit)))×(Unit)) fu (fun ⟨⟨f,h,_⟩,_⟩ =>
 bif decide (f<h) then
 bif decide ((0:Int)≤IntKind.wrap .i64 (Int.fdiv (IntKind.wrap .u64 (IntKind.wrap .i64 (f+h))) (2 ^ (min (Int.toNat (1:Int)) (IntKind.bits .u64))))∧IntKind.wrap .i64 (Int.fdiv (IntKind.wrap .u64 (IntKind.wrap .i64 (f+h))) (2 ^ (min (Int.toNat (1:Int)) (IntKind.bits .u64))))<(List.length a:Int)) then
 bif decide (Int.toNat (IntKind.wrap .i64 (Int.fdiv (IntKind.wrap .u64 (IntKind.wrap .i64 (f+h))) (2 ^ (min (Int.toNat (1:Int)) (IntKind.bits .u64)))))<List.length a) then
 Option.bind (p104 fu (((List.getD a (Int.toNat (IntKind.wrap .i64 (Int.fdiv (IntKind.wrap .u64 (IntKind.wrap .i64 (f+h))) (2 ^ (min (Int.toNat (1:Int)) (IntKind.bits .u64)))))) (dflt T_api_Producer)).1,((List.getD a (Int.toNat (IntKind.wrap .i64 (Int.fdiv (IntKind.wrap .u64 (IntKind.wrap .i64 (f+h))) (2 ^ (min (Int.toNat (1:Int)) (IntKind.bits .u64)))))) (dflt T_api_Producer)).2).1,(((List.getD a (Int.toNat (IntKind.wrap .i64 (Int.fdiv (IntKind.wrap .u64 (IntKind.wrap .i64 (f+h))) (2 ^ (min (Int.toNat (1:Int)) (IntKind.bits .u64)))))) (dflt T_api_Producer)).2).2).1,(((List.getD a (Int.toNat (IntKind.wrap .i64 (Int.fdiv (IntKind.wrap .u64 (IntKind.wrap .i64 (f+h))) (2 ^ (min (Int.toNat (1:Int)) (IntKind.bits .u64)))))) (dflt T_api_Producer)).2).2).2,()),c,())) fun ⟨_,i⟩ =>
 bif decide (i<(0:Int)) then
 some (.inl ((IntKind.wrap .i64 ((IntKind.wrap .i64 (Int.fdiv (IntKind.wrap .u64 (IntKind.wrap .i64 (f+h))) (2 ^ (min (Int.toNat (1:Int)) (IntKind.bits .u64)))))+(1:Int)),h,()),()))
 else
 some (.inl ((f,IntKind.wrap .i64 (Int.fdiv (IntKind.wrap .u64 (IntKind.wrap .i64 (f+h))) (2 ^ (min (Int.toNat (1:Int)) (IntKind.bits .u64)))),()),()))
 else none
 else none
 else
 inrO (bif decide (f<(List.length a:Int)) then
 bif decide ((0:Int)≤f∧f<(List.length a:Int)) then
 bif decide (Int.toNat f<List.length a) then
 Option.bind (p104 fu (((List.getD a (Int.toNat f) (dflt T_api_Producer)).1,((List.getD a (Int.toNat f) (dflt T_api_Producer)).2).1,(((List.getD a (Int.toNat f) (dflt T_api_Producer)).2).2).1,(((List.getD a (Int.toNat f) (dflt T_api_Producer)).2).2).2,()),c,())) fun ⟨_,j⟩ =>
 some ((),(f,(j==(0:Int)),()))
 else none
 else none
 else
 some ((),(f,false,()))))
 (((0:Int),(List.length a:Int),()),())
def e103 (fu:Nat):Ent := ⟨103,(.cons (.hole (.sl T_api_Producer)) (.cons (.hole (.int .u64)) (.cons (.clo 104 0 .nil 0 .nil) .nil))),.nil,(.tup 2 (.cons (.hole (.int .i64)) (.cons (.hole .bool) .nil))),p103 fu⟩
def d103 (fu:Nat):DC := (.seq (.region [opD 6 (.mov (cD 0)),opD 7 (.mov (.const vB))] [[],[0]] false) (.seq (.region [mvD 12 0,opD 13 (.len false (tD 12)),mvD 8 13] [[],[0],[1,0,1]] false) (.seq (.region [mvD 14 8,opD 9 (.mov (cD 0)),mvD 10 14] [[],[],[0,1,0,1]] false) (.seq (.block 0 (.loop ⟨[9,10],(.cons (.hole (.int .i64)) (.cons (.hole (.int .i64)) .nil)),[],.nil,[0,1,2,8],[]⟩
 (.seq (.seq (.region [mvD 15 9,mvD 16 10,opD 17 (.bin .lss (tD 15) (tD 16))] [[],[],[0,1]] false) (.cond (.tmp 17) .skip (.exit 0))) (.block 1 (.seq (.region [mvD 18 9,mvD 19 10,opD 20 (.bin .add (tD 18) (tD 19)),opD 21 (.conv .u64 (tD 20)),opD 22 (.bin .shr (tD 21) (.const (.int .u64 1))),opD 23 (.conv .i64 (tD 22)),mvD 11 23] [[],[],[0,1],[2],[3],[4],[5,0,1,2,3,4,5]] false) (.seq (.region [mvD 24 2,mvD 25 0,mvD 26 11,opD 27 (.iaddr 4 (tD 25) (tD 26)),opD 28 (.load true 4 (tD 27)),mvD 29 1,oqD 30 (.callv (tD 24) [(tD 28),(tD 29)]) (.ent (e104 fu)),opD 31 (.bin .lss (tD 30) (cD 0))] [[],[],[],[1,2],[3],[],[0,4,5],[6]] false) (.cond (.tmp 31) (.region [mvD 32 11,opD 33 (.bin .add (tD 32) (cD 1)),mvD 9 33] [[],[0],[1,0,1]] false) (.region [mvD 34 11,mvD 10 34] [[],[0,0]] false)))))))) (.seq (.region [mvD 35 9,mvD 36 9,mvD 37 8,opD 38 (.bin .lss (tD 36) (tD 37)),mvD 39 38,ogD 40 39 true (.mov (tD 2)),ogD 41 39 true (.mov (tD 0)),ogD 42 39 true (.mov (tD 9)),ogD 43 39 true (.iaddr 4 (tD 41) (tD 42)),ogD 44 39 true (.load true 4 (tD 43)),ogD 45 39 true (.mov (tD 1)),(⟨(some 46),(some (39,true)),(.callv (tD 40) [(tD 44),(tD 45)])⟩,(.ent (e104 fu))),ogD 47 39 true (.bin .eql (tD 46) (cD 0)),opD 48 (.pick (tD 39) (tD 47) (.const vB)),mvD 6 35,mvD 7 48] [[],[],[],[1,2],[3],[4],[4],[4],[6,7,4],[8,4],[4],[5,9,10,4,4],[11,4],[4,12],[0,11,0],[13,14,0,1,2,3,4,5,6,7,8,9,10,11,12,13,14]] false) .ret)))))
theorem v103 (fu:Nat):evF fu (d103 fu) rs103 49 (e103 fu).ash (e103 fu).osh (e103 fu).vsh=p103 fu := by kernel_rfl
theorem b103 (fu:Nat):BodyD Tryz.prog 103 49 (d103 fu).erase rs103 := bodyD_mk Tryz.func103 (by kernel_rfl) (by kernel_rfl) (by kernel_rfl) (by kernel_rfl)
theorem g103 (fu:Nat):(e103 fu).Good Tryz.prog := good_by orders (b103 fu) (l := [e104 fu,e104 fu]) (by kernel_rfl) ⟨g104 fu,g104 fu,trivial⟩ (by kernel_rfl) (v103 fu)
def rs106:List RVx := [(.tmp 4)]
def p106 (fu:Nat):((ByteArray)×((ByteArray)×(Unit)))×((ByteArray)×(Unit))→Option ((Unit)×(Bool)) := fun ⟨⟨a,c,_⟩,f,_⟩ =>
Option.bind (p36 fu ((a,c,()),())) fun ⟨_,h⟩ =>
bif (h==(0:Int)) then
 Option.bind (p96 fu (f,())) fun ⟨_,i⟩ =>
 bif i then
 bif !Op.bytesLess (ByteArray.toList f) (ByteArray.toList a) then
 Option.bind (p97 fu ((a,c,()),())) fun ⟨_,⟨j,k,_⟩⟩ =>
 Option.bind (p98 fu ((j,k,()),f,())) fun ⟨_,l⟩ =>
 some ((),l)
 else
 some ((),false)
 else
 some ((),false)
else
 some ((),false)
def e106 (fu:Nat):Ent := ⟨106,(.cons (.agg 2 (.cons (.hole .str) (.cons (.hole .str) .nil))) (.cons (.hole .str) .nil)),.nil,(.hole .bool),p106 fu⟩
def d106 (fu:Nat):DC := (.seq (.region [opD 2 (.box 23 2 (tD 0)),opD 4 (.mov (.const vB))] [[],[]] false) (.seq (.region [opD 5 (.load true 2 (tD 2)),oqD 6 (.call 36 [(tD 5)]) (.ent (e36 fu)),opD 7 (.bin .eql (tD 6) (cD 0)),mvD 8 7,ogD 9 8 true (.mov (tD 1)),(⟨(some 10),(some (8,true)),(.call 96 [(tD 9)])⟩,(.ent (e96 fu))),opD 11 (.pick (tD 8) (tD 10) (.const vB)),mvD 12 11,ogD 13 12 true (.mov (tD 1)),ogD 14 12 true (.faddr 0 (tD 2)),ogD 15 12 true (.load false 1 (tD 14)),ogD 16 12 true (.bin .geq (tD 13) (tD 15)),opD 17 (.pick (tD 12) (tD 16) (.const vB)),mvD 18 17,ogD 19 18 true (.load true 2 (tD 2)),(⟨(some 20),(some (18,true)),(.call 97 [(tD 19)])⟩,(.ent (e97 fu))),ogD 21 18 true (.mov (tD 1)),(⟨(some 22),(some (18,true)),(.call 98 [(tD 20),(tD 21)])⟩,(.ent (e98 fu))),opD 23 (.pick (tD 18) (tD 22) (.const vB)),mvD 4 23] [[],[0],[1],[2,1],[3],[4,3,3],[3,5],[6,5],[7],[7],[9,7],[8,10,7],[7,11],[12,7],[13],[14,13,13],[13],[15,16,15,13],[13,17],[18,17,0,1,2,3,4,5,6,7,8,9,10,11,12,13,14,15,16,17,18]] false) .ret))
theorem v106 (fu:Nat):evF fu (d106 fu) rs106 24 (e106 fu).ash (e106 fu).osh (e106 fu).vsh=p106 fu := by kernel_rfl
theorem b106 (fu:Nat):BodyD Tryz.prog 106 24 (d106 fu).erase rs106 := bodyD_mk Tryz.func106 (by kernel_rfl) (by kernel_rfl) (by kernel_rfl) (by kernel_rfl)
theorem g106 (fu:Nat):(e106 fu).Good Tryz.prog := good_by orders (b106 fu) (l := [e36 fu,e96 fu,e97 fu,e98 fu]) (by kernel_rfl) ⟨g36 fu,g96 fu,g97 fu,g98 fu,trivial⟩ (by kernel_rfl) (v106 fu)
def rs40:List RVx := [(.tmp 2)]
def p40 (fu:Nat):(Z3)×(Unit)→Option ((Unit)×(Bool)) := fun ⟨⟨a,c,_,_,f,h,_,_⟩,_⟩ =>
bif decide ((0:Int)≤(List.length h:Int)∧((List.length h:Int):Int)≤(List.length h:Int)∧((List.length h:Int):Int)≤9223372036854775807∧(8:Int) * (List.length h:Int)≤140737488355328) then
 bif decide (Int.toNat (List.length h:Int)=List.length (List.replicate (Int.toNat (List.length h:Int)) (0:Int):List (Int))) then
 loopO (S := ((List (Int))×((Int)×(Unit)))×(Unit)) fu (fun ⟨⟨i,j,_⟩,_⟩ =>
 bif decide (j<(List.length f:Int)) then
 bif decide ((0:Int)≤j∧j<(List.length f:Int)) then
 bif decide (Int.toNat j<List.length f) then
 Option.bind (p103 fu (h,((((List.getD f (Int.toNat j) (dflt T_api_Record)).2).2).2).1,((),()),())) fun ⟨_,⟨k,l,_⟩⟩ =>
 bif !l then
 inrO (some ((),false))
 else
 Option.bind (p106 fu ((a,c,()),((List.getD f (Int.toNat j) (dflt T_api_Record)).2).1,())) fun ⟨_,m⟩ =>
 bif !m then
 inrO (some ((),false))
 else
 bif decide ((0:Int)≤k∧k<(List.length i:Int)) then
 bif decide (Int.toNat k<List.length i) then
 bif decide ((((((List.getD f (Int.toNat j) (dflt T_api_Record)).2).2).2).2)≤(List.getD i (Int.toNat k) (dflt (.int .u64)))) then
 inrO (some ((),false))
 else
 bif decide ((0:Int)≤k∧k<(List.length h:Int)) then
 bif decide (Int.toNat k<List.length h) then
 bif decide ((((((List.getD f (Int.toNat j) (dflt T_api_Record)).2).2).2).2)>(((List.getD h (Int.toNat k) (dflt T_api_Producer)).2).1)) then
 inrO (some ((),false))
 else
 bif decide ((0:Int)≤k∧k<(List.length i:Int)) then
 bif decide (Int.toNat k<List.length i) then
 bif decide (List.length i=List.length (List.set i (Int.toNat k) (((((List.getD f (Int.toNat j) (dflt T_api_Record)).2).2).2).2))) then
 some (.inl (((List.set i (Int.toNat k) (((((List.getD f (Int.toNat j) (dflt T_api_Record)).2).2).2).2)),IntKind.wrap .i64 (j+(1:Int)),()),()))
 else none
 else none
 else none
 else none
 else none
 else none
 else none
 else none
 else none
 else
 inrO (some ((),true)))
 (((List.replicate (Int.toNat (List.length h:Int)) (0:Int):List (Int)),(0:Int),()),())
 else none
else none
def e40 (fu:Nat):Ent := ⟨40,(.cons Y5 .nil),.nil,(.hole .bool),p40 fu⟩
def d40 (fu:Nat):DC := (.seq (.region [opD 1 (.box 29 7 (tD 0)),opD 2 (.mov (.const vB))] [[],[]] false) (.seq (.region [opD 8 (.faddr 5 (tD 1)),opD 9 (.load false 1 (tD 8)),opD 10 (.len false (tD 9)),oqD 11 (.make false 24 1 [vU] 8 (tD 10) (tD 10)) (.ty (.int .u64)),mvD 3 11] [[],[0],[1],[2,2],[3,0,1,2,3]] false) (.seq (.seq (.region [opD 12 (.faddr 4 (tD 1)),opD 13 (.load false 1 (tD 12)),opD 14 (.len false (tD 13)),opD 15 (.mov (cD 0))] [[],[0],[1],[]] false) (.block 0 (.loop ⟨[3,15],(.cons (.own .own 24 (.int .u64)) (.cons (.hole (.int .i64)) .nil)),[],.nil,[1,13,14],[0]⟩
 (.seq (.region [opD 16 (.bin .lss (tD 15) (tD 14))] [[]] false) (.seq (.cond (.tmp 16) .skip (.exit 0)) (.seq (.block 1 (.seq (.region [opD 17 (.iaddr 5 (tD 13) (tD 15)),opD 18 (.load true 5 (tD 17)),opD 5 (.alloc 49 5 [vU,vT,vS,vU,vU]),onD (.store 5 (tD 5) (tD 18))] [[],[0],[],[2,1,0,1,2]] false) (.seq (.region [opD 20 (.faddr 5 (tD 1)),opD 21 (.load false 1 (tD 20)),opD 22 (.faddr 3 (tD 5)),opD 23 (.load false 1 (tD 22)),oqD 24 (.call 103 [(tD 21),(tD 23),(.func 104)]) (.ent (e103 fu)),mvD 19 24,opD 25 (.ext (tD 19) 0),opD 26 (.ext (tD 19) 1),mvD 6 25,mvD 7 26] [[],[0],[],[2],[1,3],[4],[5],[5],[6,4,0,1,2,3,4,5,6],[7,8,0,1,2,3,4,5,6,7,8]] false) (.seq (.seq (.region [mvD 27 7,opD 28 (.not (tD 27)),mvD 29 28,ogD 30 29 false (.faddr 0 (tD 1)),ogD 31 29 false (.load true 2 (tD 30)),ogD 32 29 false (.faddr 1 (tD 5)),ogD 33 29 false (.load false 1 (tD 32)),(⟨(some 34),(some (29,false)),(.call 106 [(tD 31),(tD 33)])⟩,(.ent (e106 fu))),ogD 35 29 false (.not (tD 34)),opD 36 (.pick (tD 29) (.const (.bool true)) (tD 35)),mvD 37 36,ogD 38 37 false (.faddr 4 (tD 5)),ogD 39 37 false (.load false 1 (tD 38)),ogD 40 37 false (.mov (tD 3)),ogD 41 37 false (.mov (tD 6)),ogD 42 37 false (.iaddr 1 (tD 40) (tD 41)),ogD 43 37 false (.load false 1 (tD 42)),ogD 44 37 false (.bin .leq (tD 39) (tD 43)),opD 45 (.pick (tD 37) (.const (.bool true)) (tD 44)),mvD 46 45,ogD 47 46 false (.faddr 4 (tD 5)),ogD 48 46 false (.load false 1 (tD 47)),ogD 49 46 false (.faddr 5 (tD 1)),ogD 50 46 false (.load false 1 (tD 49)),ogD 51 46 false (.mov (tD 6)),ogD 52 46 false (.iaddr 4 (tD 50) (tD 51)),ogD 53 46 false (.faddr 1 (tD 52)),ogD 54 46 false (.load false 1 (tD 53)),ogD 55 46 false (.bin .gtr (tD 48) (tD 54)),opD 56 (.pick (tD 46) (.const (.bool true)) (tD 55))] [[],[0],[1],[2],[3,2],[2],[5,2],[4,6,2,2],[7,2],[2,8],[9,7],[10],[11,10],[10],[10],[13,14,10],[15,10],[12,16,10],[10,17],[18,10],[19],[20,19],[19],[22,19],[19],[23,24,19],[25,19],[26,19],[21,27,19],[19,28]] true) (.cond (.tmp 56) (.seq (.region [opD 2 (.mov (.const vB))] [[]] false) .ret) .skip)) (.region [mvD 57 3,mvD 58 6,opD 59 (.faddr 4 (tD 5)),opD 60 (.load false 1 (tD 59)),opD 61 (.iaddr 1 (tD 57) (tD 58)),onD (.store 1 (tD 61) (tD 60))] [[],[],[],[2],[0,1,0,1,2,3],[4,3,0,1,2,3]] false))))) (.region [opD 62 (.bin .add (tD 15) (cD 1)),mvD 15 62] [[],[0]] false))))))) (.seq (.region [opD 2 (.mov (.const (.bool true)))] [[]] false) .ret))))
theorem v40 (fu:Nat):evF fu (d40 fu) rs40 63 (e40 fu).ash (e40 fu).osh (e40 fu).vsh=p40 fu := by kernel_rfl
theorem b40 (fu:Nat):BodyD Tryz.prog 40 63 (d40 fu).erase rs40 := bodyD_mk Tryz.func40 (by kernel_rfl) (by kernel_rfl) (by kernel_rfl) (by kernel_rfl)
theorem g40 (fu:Nat):(e40 fu).Good Tryz.prog := good_by orders (b40 fu) (l := [e103 fu,e106 fu]) (by kernel_rfl) ⟨g103 fu,g106 fu,trivial⟩ (by kernel_rfl) (v40 fu)
def rs41:List RVx := [(.tmp 2)]
def p41 (fu:Nat):(Z3)×(Unit)→Option ((Unit)×(Bool)) := fun ⟨⟨_,_,_,_,a,c,_,_⟩,_⟩ =>
loopO (S := ((Int)×(Unit))×(Unit)) fu (fun ⟨⟨f,_⟩,_⟩ =>
 bif decide (f<(List.length c:Int)) then
 bif decide ((0:Int)≤f∧f<(List.length c:Int)) then
 bif decide (Int.toNat f<List.length c) then
 bif !((((List.getD c (Int.toNat f) (dflt T_api_Producer)).2).2).1) then
 some (.inl ((IntKind.wrap .i64 (f+(1:Int)),()),()))
 else
 bif decide (((((List.getD c (Int.toNat f) (dflt T_api_Producer)).2).2).2)≥(IntKind.wrap .u64 (List.length a:Int))) then
 inrO (some ((),false))
 else
 bif decide ((0:Int)≤(((List.getD c (Int.toNat f) (dflt T_api_Producer)).2).2).2∧(((List.getD c (Int.toNat f) (dflt T_api_Producer)).2).2).2<(List.length a:Int)) then
 bif decide (Int.toNat ((((List.getD c (Int.toNat f) (dflt T_api_Producer)).2).2).2)<List.length a) then
 bif ((((((List.getD a (Int.toNat ((((List.getD c (Int.toNat f) (dflt T_api_Producer)).2).2).2)) (dflt T_api_Record)).2).2).2).1) != ((List.getD c (Int.toNat f) (dflt T_api_Producer)).1)) then
 inrO (some ((),false))
 else
 bif ((((((List.getD a (Int.toNat ((((List.getD c (Int.toNat f) (dflt T_api_Producer)).2).2).2)) (dflt T_api_Record)).2).2).2).2) != (((List.getD c (Int.toNat f) (dflt T_api_Producer)).2).1)) then
 inrO (some ((),false))
 else
 some (.inl ((IntKind.wrap .i64 (f+(1:Int)),()),()))
 else none
 else none
 else none
 else none
 else
 inrO (some ((),true)))
 (((0:Int),()),())
def e41 (fu:Nat):Ent := ⟨41,(.cons Y5 .nil),.nil,(.hole .bool),p41 fu⟩
def d41 (_:Nat):DC := (.seq (.region [opD 1 (.box 29 7 (tD 0)),opD 2 (.mov (.const vB))] [[],[]] false) (.seq (.seq (.region [opD 6 (.faddr 5 (tD 1)),opD 7 (.load false 1 (tD 6)),opD 8 (.len false (tD 7)),opD 9 (.mov (cD 0))] [[],[0],[1],[]] false) (.block 0 (.loop ⟨[9],(.cons (.hole (.int .i64)) .nil),[],.nil,[1,7,8],[0]⟩
 (.seq (.region [opD 10 (.bin .lss (tD 9) (tD 8))] [[]] false) (.seq (.cond (.tmp 10) .skip (.exit 0)) (.seq (.block 1 (.seq (.region [opD 11 (.iaddr 4 (tD 7) (tD 9)),opD 12 (.load true 4 (tD 11)),opD 4 (.alloc 77 4 [vU,vU,vB,vU]),onD (.store 4 (tD 4) (tD 12))] [[],[0],[],[2,1,0,1,2]] false) (.seq (.seq (.region [opD 13 (.faddr 2 (tD 4)),opD 14 (.load false 1 (tD 13)),opD 15 (.not (tD 14))] [[],[0],[1]] false) (.cond (.tmp 15) (.exit 1) .skip)) (.seq (.seq (.region [opD 16 (.faddr 3 (tD 4)),opD 17 (.load false 1 (tD 16)),opD 18 (.faddr 4 (tD 1)),opD 19 (.load false 1 (tD 18)),opD 20 (.len false (tD 19)),opD 21 (.conv .u64 (tD 20)),opD 22 (.bin .geq (tD 17) (tD 21))] [[],[0],[],[2],[3],[4],[1,5]] false) (.cond (.tmp 22) (.seq (.region [opD 2 (.mov (.const vB))] [[]] false) .ret) .skip)) (.seq (.region [opD 23 (.faddr 4 (tD 1)),opD 24 (.load false 1 (tD 23)),opD 25 (.faddr 3 (tD 4)),opD 26 (.load false 1 (tD 25)),opD 27 (.iaddr 5 (tD 24) (tD 26)),opD 28 (.load true 5 (tD 27)),opD 5 (.alloc 49 5 [vU,vT,vS,vU,vU]),onD (.store 5 (tD 5) (tD 28))] [[],[0],[],[2],[1,3],[4],[],[6,5,0,1,2,3,4,5,6]] false) (.seq (.region [opD 29 (.faddr 3 (tD 5)),opD 30 (.load false 1 (tD 29)),opD 31 (.faddr 0 (tD 4)),opD 32 (.load false 1 (tD 31)),opD 33 (.bin .neq (tD 30) (tD 32)),mvD 34 33,ogD 35 34 false (.faddr 4 (tD 5)),ogD 36 34 false (.load false 1 (tD 35)),ogD 37 34 false (.faddr 1 (tD 4)),ogD 38 34 false (.load false 1 (tD 37)),ogD 39 34 false (.bin .neq (tD 36) (tD 38)),opD 40 (.pick (tD 34) (.const (.bool true)) (tD 39))] [[],[0],[],[2],[1,3],[4],[5],[6,5],[5],[8,5],[7,9,5],[5,10]] false) (.cond (.tmp 40) (.seq (.region [opD 2 (.mov (.const vB))] [[]] false) .ret) .skip))))))) (.region [opD 41 (.bin .add (tD 9) (cD 1)),mvD 9 41] [[],[0]] false))))))) (.seq (.region [opD 2 (.mov (.const (.bool true)))] [[]] false) .ret)))
theorem v41 (fu:Nat):evF fu (d41 fu) rs41 42 (e41 fu).ash (e41 fu).osh (e41 fu).vsh=p41 fu := by kernel_rfl
theorem b41 (fu:Nat):BodyD Tryz.prog 41 42 (d41 fu).erase rs41 := bodyD_mk Tryz.func41 (by kernel_rfl) (by kernel_rfl) (by kernel_rfl) (by kernel_rfl)
theorem g41 (fu:Nat):(e41 fu).Good Tryz.prog := good_by orders (b41 fu) (l := []) (by kernel_rfl) trivial (by kernel_rfl) (v41 fu)
def rs42:List RVx := [(.tmp 2)]
def p42 (fu:Nat):(Z3)×(Unit)→Option ((Unit)×(Bool)) := fun ⟨⟨_,_,_,_,a,_,c,_⟩,_⟩ =>
loopO (S := ((Int)×(Unit))×(Unit)) fu (fun ⟨⟨f,_⟩,_⟩ =>
 bif decide (f<(List.length c:Int)) then
 bif decide ((0:Int)≤f∧f<(List.length c:Int)) then
 bif decide (Int.toNat f<List.length c) then
 bif decide (((List.getD c (Int.toNat f) (dflt T_runtime_errorAddressString)).2)>(IntKind.wrap .u64 (List.length a:Int))) then
 inrO (some ((),false))
 else
 some (.inl ((IntKind.wrap .i64 (f+(1:Int)),()),()))
 else none
 else none
 else
 inrO (some ((),true)))
 (((0:Int),()),())
def e42 (fu:Nat):Ent := ⟨42,(.cons Y5 .nil),.nil,(.hole .bool),p42 fu⟩
def d42 (_:Nat):DC := (.seq (.region [opD 1 (.box 29 7 (tD 0)),opD 2 (.mov (.const vB))] [[],[]] false) (.seq (.seq (.region [opD 5 (.faddr 6 (tD 1)),opD 6 (.load false 1 (tD 5)),opD 7 (.len false (tD 6)),opD 8 (.mov (cD 0))] [[],[0],[1],[]] false) (.block 0 (.loop ⟨[8],(.cons (.hole (.int .i64)) .nil),[],.nil,[1,6,7],[0]⟩
 (.seq (.region [opD 9 (.bin .lss (tD 8) (tD 7))] [[]] false) (.seq (.cond (.tmp 9) .skip (.exit 0)) (.seq (.block 1 (.seq (.region [opD 10 (.iaddr 2 (tD 6) (tD 8)),opD 11 (.load true 2 (tD 10)),opD 4 (.alloc 79 2 [vT,vU]),onD (.store 2 (tD 4) (tD 11))] [[],[0],[],[2,1,0,1,2]] false) (.seq (.region [opD 12 (.faddr 1 (tD 4)),opD 13 (.load false 1 (tD 12)),opD 14 (.faddr 4 (tD 1)),opD 15 (.load false 1 (tD 14)),opD 16 (.len false (tD 15)),opD 17 (.conv .u64 (tD 16)),opD 18 (.bin .gtr (tD 13) (tD 17))] [[],[0],[],[2],[3],[4],[1,5]] false) (.cond (.tmp 18) (.seq (.region [opD 2 (.mov (.const vB))] [[]] false) .ret) .skip)))) (.region [opD 19 (.bin .add (tD 8) (cD 1)),mvD 8 19] [[],[0]] false))))))) (.seq (.region [opD 2 (.mov (.const (.bool true)))] [[]] false) .ret)))
theorem v42 (fu:Nat):evF fu (d42 fu) rs42 20 (e42 fu).ash (e42 fu).osh (e42 fu).vsh=p42 fu := by kernel_rfl
theorem b42 (fu:Nat):BodyD Tryz.prog 42 20 (d42 fu).erase rs42 := bodyD_mk Tryz.func42 (by kernel_rfl) (by kernel_rfl) (by kernel_rfl) (by kernel_rfl)
theorem g42 (fu:Nat):(e42 fu).Good Tryz.prog := good_by orders (b42 fu) (l := []) (by kernel_rfl) trivial (by kernel_rfl) (v42 fu)
def rs10:List RVx := [(.tmp 2)]
def p10 (fu:Nat):(Z3)×(Unit)→Option ((Unit)×(Int)) := fun ⟨⟨a,c,f,h,i,j,k,_⟩,_⟩ =>
orK (E := ((Bool)×(Unit))×(Unit))
 (Option.bind (p36 fu ((a,c,()),())) fun ⟨_,l⟩ =>
 bif (l==(0:Int)) then
 bif (f != (0:Int)) then
 Option.bind (p37 fu (i,())) fun ⟨_,m⟩ =>
 bif m then
 Option.bind (p38 fu (j,())) fun ⟨_,n⟩ =>
 bif n then
 Option.bind (p39 fu (k,())) fun ⟨_,o⟩ =>
 bif o then
 Option.bind (p40 fu ((a,c,f,h,i,j,k,()),())) fun ⟨_,q⟩ =>
 bif q then
 Option.bind (p41 fu ((a,c,f,h,i,j,k,()),())) fun ⟨_,s⟩ =>
 bif s then
 Option.bind (p42 fu ((a,c,f,h,i,j,k,()),())) fun ⟨_,t⟩ =>
 some (.inl ((t,()),()))
 else
 some (.inl ((false,()),()))
 else
 some (.inl ((false,()),()))
 else
 some (.inl ((false,()),()))
 else
 some (.inl ((false,()),()))
 else
 some (.inl ((false,()),()))
 else
 some (.inl ((false,()),()))
 else
 some (.inl ((false,()),())))
 fun ⟨⟨u,_⟩,_⟩ =>
bif !u then
 some ((),(165:Int))
else
 some ((),(0:Int))
def e10 (fu:Nat):Ent := ⟨10,(.cons Y5 .nil),.nil,(.hole (.int .i64)),p10 fu⟩
def d10 (fu:Nat):DC := (.seq (.region [opD 1 (.box 29 7 (tD 0)),opD 2 (.mov (cD 0))] [[],[]] false) (.join ⟨[3],(.cons (.hole .bool) .nil),[],.nil,[],[]⟩
 (.region [opD 4 (.faddr 0 (tD 1)),opD 5 (.load true 2 (tD 4)),oqD 6 (.call 36 [(tD 5)]) (.ent (e36 fu)),opD 7 (.bin .eql (tD 6) (cD 0)),mvD 8 7,ogD 9 8 true (.faddr 2 (tD 1)),ogD 10 8 true (.load false 1 (tD 9)),ogD 11 8 true (.bin .neq (tD 10) (.const vU)),opD 12 (.pick (tD 8) (tD 11) (.const vB)),mvD 13 12,ogD 14 13 true (.faddr 4 (tD 1)),ogD 15 13 true (.load false 1 (tD 14)),(⟨(some 16),(some (13,true)),(.call 37 [(tD 15)])⟩,(.ent (e37 fu))),opD 17 (.pick (tD 13) (tD 16) (.const vB)),mvD 18 17,ogD 19 18 true (.faddr 5 (tD 1)),ogD 20 18 true (.load false 1 (tD 19)),(⟨(some 21),(some (18,true)),(.call 38 [(tD 20)])⟩,(.ent (e38 fu))),opD 22 (.pick (tD 18) (tD 21) (.const vB)),mvD 23 22,ogD 24 23 true (.faddr 6 (tD 1)),ogD 25 23 true (.load false 1 (tD 24)),(⟨(some 26),(some (23,true)),(.call 39 [(tD 25)])⟩,(.ent (e39 fu))),opD 27 (.pick (tD 23) (tD 26) (.const vB)),mvD 28 27,ogD 29 28 true (.load true 7 (tD 1)),(⟨(some 30),(some (28,true)),(.call 40 [(tD 29)])⟩,(.ent (e40 fu))),opD 31 (.pick (tD 28) (tD 30) (.const vB)),mvD 32 31,ogD 33 32 true (.load true 7 (tD 1)),(⟨(some 34),(some (32,true)),(.call 41 [(tD 33)])⟩,(.ent (e41 fu))),opD 35 (.pick (tD 32) (tD 34) (.const vB)),mvD 36 35,ogD 37 36 true (.load true 7 (tD 1)),(⟨(some 38),(some (36,true)),(.call 42 [(tD 37)])⟩,(.ent (e42 fu))),opD 39 (.pick (tD 36) (tD 38) (.const vB)),mvD 3 39] [[],[0],[1],[2],[3,2],[4],[5,4],[6,4],[4,7],[8,4],[9],[10,9],[11,9,9],[9,12],[13,12],[14],[15,14],[16,14,14],[14,17],[18,17],[19],[20,19],[21,19,19],[19,22],[23,22],[24],[25,24,24],[24,26],[27,26],[28],[29,28,28],[28,30],[31,30],[32],[33,32,32],[32,34],[35,34,0,1,2,3,4,5,6,7,8,9,10,11,12,13,14,15,16,17,18,19,20,21,22,23,24,25,26,27,28,29,30,31,32,33,34,35]] false)
 (.seq (.seq (.region [mvD 40 3,opD 41 (.not (tD 40))] [[],[0]] false) (.cond (.tmp 41) (.seq (.region [opD 2 (.mov (cD 165))] [[]] false) .ret) .skip)) (.seq (.region [opD 2 (.mov (cD 0))] [[]] false) .ret))))
theorem v10 (fu:Nat):evF fu (d10 fu) rs10 42 (e10 fu).ash (e10 fu).osh (e10 fu).vsh=p10 fu := by kernel_rfl
theorem b10 (fu:Nat):BodyD Tryz.prog 10 42 (d10 fu).erase rs10 := bodyD_mk Tryz.func10 (by kernel_rfl) (by kernel_rfl) (by kernel_rfl) (by kernel_rfl)
theorem g10 (fu:Nat):(e10 fu).Good Tryz.prog := good_by orders (b10 fu) (l := [e36 fu,e37 fu,e38 fu,e39 fu,e40 fu,e41 fu,e42 fu]) (by kernel_rfl) ⟨g36 fu,g37 fu,g38 fu,g39 fu,g40 fu,g41 fu,g42 fu,trivial⟩ (by kernel_rfl) (v10 fu)
def rs19:List RVx := [(.cell 4 true 7),(.tmp 5)]
def p19 (fu:Nat):((ByteArray)×((ByteArray)×(Unit)))×((Int)×(Unit))→Option ((Unit)×((Z3)×((Int)×(Unit)))) := fun ⟨⟨a,c,_⟩,f,_⟩ =>
Option.bind (p10 fu ((a,c,f,(0:Int),[],[],[],()),())) fun ⟨_,h⟩ =>
bif (h != (0:Int)) then
 some ((),(((⟨#[]⟩:ByteArray),(⟨#[]⟩:ByteArray),(0:Int),(0:Int),[],[],[],()),h,()))
else
 some ((),((a,c,f,(0:Int),[],[],[],()),(0:Int),()))
def e19 (fu:Nat):Ent := ⟨19,(.cons (.agg 2 (.cons (.hole .str) (.cons (.hole .str) .nil))) (.cons (.hole (.int .u64)) .nil)),.nil,(.tup 2 (.cons Y5 (.cons (.hole (.int .i64)) .nil))),p19 fu⟩
def d19 (fu:Nat):DC := (.seq (.region [opD 2 (.box 23 2 (tD 0)),opD 4 (.alloc 29 7 [vT,vT,vU,vU,vS,vS,vS]),opD 5 (.mov (cD 0))] [[],[],[]] false) (.seq (.region [opD 8 (.load true 2 (tD 2)),mvD 9 1,opD 10 (.build 7 [vT,vT,vU,vU,vS,vS,vS] [(0,(2,(tD 8))),(2,(1,(tD 9)))]),opD 6 (.alloc 29 7 [vT,vT,vU,vU,vS,vS,vS]),onD (.store 7 (tD 6) (tD 10))] [[],[],[0,1],[],[3,2,0,1,2,3]] false) (.seq (.seq (.region [opD 11 (.load true 7 (tD 6)),oqD 12 (.call 10 [(tD 11)]) (.ent (e10 fu)),mvD 7 12] [[],[0],[1,1,0,1]] false) (.seq (.region [mvD 13 7,opD 14 (.bin .neq (tD 13) (cD 0))] [[],[0]] false) (.cond (.tmp 14) (.seq (.region [opD 15 (.build 7 [vT,vT,vU,vU,vS,vS,vS] []),mvD 16 7,onD (.store 7 (tD 4) (tD 15)),mvD 5 16] [[],[],[0,0],[1,2,0,1,2]] false) .ret) .skip))) (.seq (.region [opD 17 (.load true 7 (tD 6)),onD (.store 7 (tD 4) (tD 17)),opD 5 (.mov (cD 0))] [[],[0,0],[1,0,1]] false) .ret))))
theorem v19 (fu:Nat):evF fu (d19 fu) rs19 18 (e19 fu).ash (e19 fu).osh (e19 fu).vsh=p19 fu := by kernel_rfl
theorem b19 (fu:Nat):BodyD Tryz.prog 19 18 (d19 fu).erase rs19 := bodyD_mk Tryz.func19 (by kernel_rfl) (by kernel_rfl) (by kernel_rfl) (by kernel_rfl)
theorem g19 (fu:Nat):(e19 fu).Good Tryz.prog := good_by orders (b19 fu) (l := [e10 fu]) (by kernel_rfl) ⟨g10 fu,trivial⟩ (by kernel_rfl) (v19 fu)
def rs35:List RVx := [(.cell 4 true 10)]
def p35 (_:Nat):(Int)×((ByteArray)×(Unit))→Option ((Unit)×((Int)×((Int)×((Int)×((Int)×((ByteArray)×((List (Int))×((Int)×((Int)×((ByteArray)×((Int)×(Unit)))))))))))) := fun ⟨a,c,_⟩ =>
bif decide (1=List.length ([(118:Int)])∧0<1) then
 some ((),((1:Int),(1:Int),(7:Int),a,c,[(118:Int)],(0:Int),(0:Int),(⟨#[]⟩:ByteArray),(0:Int),()))
else none
def e35 (fu:Nat):Ent := ⟨35,(.cons (.hole (.int .u64)) (.cons (.hole .str) .nil)),.nil,Y6,p35 fu⟩
def d35 (_:Nat):DC := (.seq (.region [opD 4 (.alloc 44 10 [vI,vU,vU,vU,vT,vS,vU,vI,vT,vU])] [[]] false) (.seq (.region [mvD 5 0,mvD 6 1,oqD 7 (.bslice 5 1 1 [(.int .u8 0)] [(0,(.const (.int .u8 118)))]) (.ty (.int .u8)),opD 8 (.b2b (tD 7)),opD 9 (.build 10 [vI,vU,vU,vU,vT,vS,vU,vI,vT,vU] [(0,(1,(cD 1))),(1,(1,(.const (.int .u64 1)))),(2,(1,(.const (.int .u64 7)))),(3,(1,(tD 5))),(4,(1,(tD 6))),(5,(1,(tD 8)))]),onD (.store 10 (tD 4) (tD 9))] [[],[],[],[2],[0,1,3],[4,0,1,2,3,4]] false) .ret))
theorem v35 (fu:Nat):evF fu (d35 fu) rs35 10 (e35 fu).ash (e35 fu).osh (e35 fu).vsh=p35 fu := by kernel_rfl
theorem b35 (fu:Nat):BodyD Tryz.prog 35 10 (d35 fu).erase rs35 := bodyD_mk Tryz.func35 (by kernel_rfl) (by kernel_rfl) (by kernel_rfl) (by kernel_rfl)
theorem g35 (fu:Nat):(e35 fu).Good Tryz.prog := good_by orders (b35 fu) (l := []) (by kernel_rfl) trivial (by kernel_rfl) (v35 fu)
def rs141:List RVx := [(.tmp 2)]
def p141 (_:Nat):(Int)×(Unit)→Option ((Unit)×((List (Int))×(Unit))) := fun ⟨a,_⟩ =>
bif decide ((0:Int)≤0∧(0:Int)≤a∧(a:Int)≤9223372036854775807∧(1:Int) * a≤140737488355328) then
 bif decide (0=List.length (List.replicate 0 (0:Int):List (Int))) then
 some ((),((List.replicate 0 (0:Int):List (Int)),()))
 else none
else none
def e141 (fu:Nat):Ent := ⟨141,(.cons (.hole (.int .i64)) .nil),.nil,(.box 212 1 (.cons (.own .app 5 (.int .u8)) .nil)),p141 fu⟩
def d141 (_:Nat):DC := (.seq (.region [opD 2 (.mov (.const (.pointer none)))] [[]] false) (.seq (.region [mvD 4 0,oqD 5 (.make true 5 1 [(.int .u8 0)] 1 (cD 0) (tD 4)) (.ty (.int .u8)),opD 3 (.alloc 212 1 [vS]),onD (.store 1 (tD 3) (tD 5))] [[],[0],[],[2,1,0,1,2]] false) (.seq (.region [mvD 2 3] [[]] false) .ret)))
theorem v141 (fu:Nat):evF fu (d141 fu) rs141 6 (e141 fu).ash (e141 fu).osh (e141 fu).vsh=p141 fu := by kernel_rfl
theorem b141 (fu:Nat):BodyD Tryz.prog 141 6 (d141 fu).erase rs141 := bodyD_mk Tryz.func141 (by kernel_rfl) (by kernel_rfl) (by kernel_rfl) (by kernel_rfl)
theorem g141 (fu:Nat):(e141 fu).Good Tryz.prog := good_by orders (b141 fu) (l := []) (by kernel_rfl) trivial (by kernel_rfl) (v141 fu)
def rs144:List RVx := [(.tmp 4)]
def p144 (_:Nat):((List (Int))×(Unit))×((List (Int))×(Unit))→Option ((((List (Int))×(Unit))×((Unit)×(Unit)))×(List (Int))) := fun ⟨⟨a,_⟩,c,_⟩ =>
bif ((List.length c:Int)==(0:Int)) then
 bif decide (List.length a=List.length a) then
 some (((a,()),(),()),[])
 else none
else
 bif decide (List.length a=List.length a) then
 bif decide (List.length a+List.length c≤maxLen∧(List.length a+List.length c) * 1≤140737488355328) then
 bif decide ((0:Int)≤((List.length (a ++ c)):Int)) then
 bif decide ((0:Int)≤((List.length (a ++ c)):Int)) then
 bif decide ((0:Int)≤((List.length a):Int)) then
 bif decide (Int.toNat ((List.length a):Int)≤Int.toNat ((List.length (a ++ c)):Int)∧Int.toNat ((List.length (a ++ c)):Int)≤Int.toNat ((List.length (a ++ c)):Int)∧Int.toNat ((List.length (a ++ c)):Int)≤List.length (a ++ c)∧0+(List.length (a ++ c))≤List.length (a ++ c)) then
 bif decide (List.length (a ++ c)=List.length (a ++ c)) then
 some ((((a ++ c),()),(),()),slice' (a ++ c) (Int.toNat ((List.length a):Int)) (some (Int.toNat ((List.length (a ++ c)):Int))))
 else none
 else none
 else none
 else none
 else none
 else none
 else none
def e144 (fu:Nat):Ent := ⟨144,(.cons (.box 212 1 (.cons (.own .app 5 (.int .u8)) .nil)) (.cons (.hole (.sl (.int .u8))) .nil)),(.cons (.agg 1 (.cons (.own .app 5 (.int .u8)) .nil)) (.cons .dead .nil)),(.hole (.sl (.int .u8))),p144 fu⟩
def d144 (_:Nat):DC := (.seq (.region [opD 4 (.mov (.const vS))] [[]] false) (.seq (.seq (.region [mvD 7 1,opD 8 (.len false (tD 7)),opD 9 (.bin .eql (tD 8) (cD 0))] [[],[0],[1]] false) (.cond (.tmp 9) (.seq (.region [opD 4 (.mov (.const vS))] [[]] false) .ret) .skip)) (.seq (.region [mvD 10 0,opD 11 (.pure .nilc [(tD 10)]),opD 12 (.load false 1 (tD 11)),opD 13 (.len false (tD 12)),mvD 5 13] [[],[0],[1],[2],[3,0,1,2,3]] false) (.seq (.region [mvD 14 0,mvD 15 0,opD 16 (.pure .nilc [(tD 15)]),opD 17 (.load false 1 (tD 16)),mvD 18 1,oqD 19 (.app 5 1 [(.int .u8 0)] 1 (tD 17) (tD 18)) (.ty (.int .u8)),opD 20 (.pure .nilc [(tD 14)]),onD (.store 1 (tD 20) (tD 19))] [[],[],[1],[2],[],[3,4],[0,0,1,2,3,4,5],[6,5,5,0,1,2,3,4,5]] false) (.seq (.region [mvD 21 0,opD 22 (.pure .nilc [(tD 21)]),opD 23 (.load false 1 (tD 22)),opD 24 (.len false (tD 23)),mvD 6 24] [[],[0],[1],[2],[3,0,1,2,3]] false) (.seq (.region [mvD 25 0,opD 26 (.pure .nilc [(tD 25)]),opD 27 (.load false 1 (tD 26)),mvD 28 5,mvD 29 6,mvD 30 6,opD 31 (.slc3 1 (tD 27) (some (tD 28)) (some (tD 29)) (some (tD 30))),mvD 4 31] [[],[0],[1],[],[],[],[2,3,4,5],[6,0,1,2,3,4,5,6]] false) .ret))))))
theorem v144 (fu:Nat):evF fu (d144 fu) rs144 32 (e144 fu).ash (e144 fu).osh (e144 fu).vsh=p144 fu := by kernel_rfl
theorem b144 (fu:Nat):BodyD Tryz.prog 144 32 (d144 fu).erase rs144 := bodyD_mk Tryz.func144 (by kernel_rfl) (by kernel_rfl) (by kernel_rfl) (by kernel_rfl)
theorem g144 (fu:Nat):(e144 fu).Good Tryz.prog := good_by orders (b144 fu) (l := []) (by kernel_rfl) trivial (by kernel_rfl) (v144 fu)
def rs143:List RVx := [(.cell 3 true 5)]
def p143 (fu:Nat):((Int)×((ByteArray)×((List (Int))×((Int)×((Int)×(Unit))))))×((((List (Int))×(Unit))×(Unit))×(Unit))→Option ((((Unit)×(Unit))×(((List (Int))×(Unit))×((Unit)×(Unit))))×((Int)×((ByteArray)×((List (Int))×((Int)×((Int)×(Unit))))))) := fun ⟨⟨a,c,f,h,i,_⟩,⟨⟨j,_⟩,_⟩,_⟩ =>
bif decide (List.length j=List.length j) then
 Option.bind (p144 fu ((j,()),f,())) fun ⟨⟨⟨k,_⟩,_,_⟩,l⟩ =>
 bif decide (List.length k=List.length k) then
 some ((((),()),(k,()),(),()),(a,c,l,h,i,()))
 else none
else none
def e143 (fu:Nat):Ent := ⟨143,(.cons Y4 (.cons (.box 185 1 (.cons (.box 212 1 (.cons (.own .app 5 (.int .u8)) .nil)) .nil)) .nil)),(.cons (.agg 1 (.cons (.ptr 1) .nil)) (.cons (.agg 1 (.cons (.own .app 5 (.int .u8)) .nil)) (.cons .dead .nil))),Y4,p143 fu⟩
def d143 (fu:Nat):DC := (.seq (.region [opD 2 (.box 49 5 (tD 0)),opD 3 (.alloc 49 5 [vU,vT,vS,vU,vU])] [[],[]] false) (.seq (.region [opD 4 (.load false 1 (tD 1)),opD 5 (.faddr 2 (tD 2)),opD 6 (.load false 1 (tD 5)),oqD 7 (.call 144 [(tD 4),(tD 6)]) (.ent (e144 fu)),opD 8 (.faddr 2 (tD 2)),onD (.store 1 (tD 8) (tD 7))] [[],[],[1],[0,2],[0,1,2,3],[4,3,3,0,1,2,3]] false) (.seq (.region [opD 9 (.load true 5 (tD 2)),onD (.store 5 (tD 3) (tD 9))] [[],[0,0]] false) .ret)))
theorem v143 (fu:Nat):evF fu (d143 fu) rs143 10 (e143 fu).ash (e143 fu).osh (e143 fu).vsh=p143 fu := by kernel_rfl
theorem b143 (fu:Nat):BodyD Tryz.prog 143 10 (d143 fu).erase rs143 := bodyD_mk Tryz.func143 (by kernel_rfl) (by kernel_rfl) (by kernel_rfl) (by kernel_rfl)
theorem g143 (fu:Nat):(e143 fu).Good Tryz.prog := good_by orders (b143 fu) (l := [e144 fu]) (by kernel_rfl) ⟨g144 fu,trivial⟩ (by kernel_rfl) (v143 fu)
def rs142:List RVx := [(.tmp 4)]
def p142 (fu:Nat):(List (D_api_Record))×(((Unit)×((((List (Int))×(Unit))×(Unit))×(Unit)))×(Unit))→Option ((((Unit)×(Unit))×(((List (Int))×(Unit))×((Unit)×(Unit))))×(List (D_api_Record))) := fun ⟨a,⟨_,⟨⟨⟨c,_⟩,_⟩,_⟩⟩,_⟩ =>
bif ((List.length a:Int)==(0:Int)) then
 bif decide (List.length c=List.length c) then
 some ((((),()),(c,()),(),()),[])
 else none
else
 bif decide ((0:Int)≤(List.length a:Int)∧((List.length a:Int):Int)≤(List.length a:Int)∧((List.length a:Int):Int)≤9223372036854775807∧(64:Int) * (List.length a:Int)≤140737488355328) then
 bif decide (Int.toNat (List.length a:Int)=List.length (List.replicate (Int.toNat (List.length a:Int)) ((0:Int),(⟨#[]⟩:ByteArray),[],(0:Int),(0:Int)):List (D_api_Record))) then
 bif decide (List.length c=List.length c) then
 loopO (S := ((List (D_api_Record))×((Int)×(Unit)))×(((Unit)×(Unit))×(((List (Int))×(Unit))×(Unit)))) fu (fun ⟨⟨f,h,_⟩,⟨⟨_,_⟩,⟨i,_⟩,_⟩⟩ =>
 bif decide (h<(List.length a:Int)) then
 bif decide ((0:Int)≤h∧h<(List.length a:Int)) then
 bif decide (Int.toNat h<List.length a) then
 bif decide (List.length i=List.length i) then
 Option.bind (p143 fu (((List.getD a (Int.toNat h) (dflt T_api_Record)).1,((List.getD a (Int.toNat h) (dflt T_api_Record)).2).1,(((List.getD a (Int.toNat h) (dflt T_api_Record)).2).2).1,((((List.getD a (Int.toNat h) (dflt T_api_Record)).2).2).2).1,((((List.getD a (Int.toNat h) (dflt T_api_Record)).2).2).2).2,()),((i,()),()),())) fun ⟨⟨⟨_,_⟩,⟨j,_⟩,_,_⟩,⟨k,l,m,n,o,_⟩⟩ =>
 bif decide ((0:Int)≤h∧h<(List.length f:Int)) then
 bif decide (Int.toNat h<List.length f) then
 bif decide (List.length f=List.length (List.set f (Int.toNat h) (k,l,m,n,o))) then
 bif decide (List.length j=List.length j) then
 some (.inl (((List.set f (Int.toNat h) (k,l,m,n,o)),IntKind.wrap .i64 (h+(1:Int)),()),(((),()),(j,()),())))
 else none
 else none
 else none
 else none
 else none
 else none
 else none
 else
 inrO (bif decide (List.length i=List.length i) then
 bif decide (List.length f=List.length f) then
 some ((((),()),(i,()),(),()),f)
 else none
 else none))
 (((List.replicate (Int.toNat (List.length a:Int)) ((0:Int),(⟨#[]⟩:ByteArray),[],(0:Int),(0:Int)):List (D_api_Record)),(0:Int),()),(((),()),(c,()),()))
 else none
 else none
 else none
def e142 (fu:Nat):Ent := ⟨142,(.cons (.hole (.sl T_api_Record)) (.cons (.clo 143 0 .nil 1 (.cons (.box 185 1 (.cons (.box 212 1 (.cons (.own .app 5 (.int .u8)) .nil)) .nil)) .nil)) .nil)),(.cons (.agg 1 (.cons (.ptr 1) .nil)) (.cons (.agg 1 (.cons (.own .app 5 (.int .u8)) .nil)) (.cons .dead .nil))),(.own .own 49 T_api_Record),p142 fu⟩
def d142 (fu:Nat):DC := (.seq (.region [opD 4 (.mov (.const vS))] [[]] false) (.seq (.seq (.region [mvD 8 0,opD 9 (.len false (tD 8)),opD 10 (.bin .eql (tD 9) (cD 0))] [[],[0],[1]] false) (.cond (.tmp 10) (.seq (.region [opD 4 (.mov (.const vS))] [[]] false) .ret) .skip)) (.seq (.region [mvD 11 0,opD 12 (.len false (tD 11)),oqD 13 (.make false 49 5 [vU,vT,vS,vU,vU] 64 (tD 12) (tD 12)) (.ty T_api_Record),mvD 5 13] [[],[0],[1,1],[2,0,1,2]] false) (.seq (.seq (.region [mvD 14 0,opD 15 (.len false (tD 14)),opD 16 (.mov (cD 0))] [[],[0],[]] false) (.block 0 (.loop ⟨[5,16],(.cons (.own .own 49 T_api_Record) (.cons (.hole (.int .i64)) .nil)),[(0,185,1),(1,212,1)],(.cons (.agg 1 (.cons (.ptr 1) .nil)) (.cons (.agg 1 (.cons (.own .app 5 (.int .u8)) .nil)) .nil)),[1,14,15],[2]⟩
 (.seq (.region [opD 17 (.bin .lss (tD 16) (tD 15))] [[]] false) (.seq (.cond (.tmp 17) .skip (.exit 0)) (.seq (.block 1 (.seq (.region [mvD 18 16,opD 19 (.iaddr 5 (tD 14) (tD 16)),opD 20 (.load true 5 (tD 19)),opD 7 (.alloc 49 5 [vU,vT,vS,vU,vU]),mvD 6 18,onD (.store 5 (tD 7) (tD 20))] [[],[],[1],[],[0,0,1,2,3],[3,2,4,0,1,2,3,4]] false) (.region [mvD 21 5,mvD 22 6,mvD 23 1,opD 24 (.load true 5 (tD 7)),oqD 25 (.callv (tD 23) [(tD 24)]) (.ent (e143 fu)),opD 26 (.iaddr 5 (tD 21) (tD 22)),onD (.store 5 (tD 26) (tD 25))] [[],[],[],[],[2,3],[0,1,0,1,2,3,4],[5,4,4,0,1,2,3,4]] false))) (.region [opD 27 (.bin .add (tD 16) (cD 1)),mvD 16 27] [[],[0]] false))))))) (.seq (.region [mvD 28 5,mvD 4 28] [[],[0,0]] false) .ret)))))
theorem v142 (fu:Nat):evF fu (d142 fu) rs142 29 (e142 fu).ash (e142 fu).osh (e142 fu).vsh=p142 fu := by kernel_rfl
theorem b142 (fu:Nat):BodyD Tryz.prog 142 29 (d142 fu).erase rs142 := bodyD_mk Tryz.func142 (by kernel_rfl) (by kernel_rfl) (by kernel_rfl) (by kernel_rfl)
theorem g142 (fu:Nat):(e142 fu).Good Tryz.prog := good_by orders (b142 fu) (l := [e143 fu]) (by kernel_rfl) ⟨g143 fu,trivial⟩ (by kernel_rfl) (v142 fu)
def rs110:List RVx := [(.tmp 2)]
def p110 (fu:Nat):(List (D_api_Record))×(Unit)→Option ((Unit)×(List (D_api_Record))) := fun ⟨a,_⟩ =>
loopO (S := ((Int)×((Int)×(Unit)))×(Unit)) fu (fun ⟨⟨c,f,_⟩,_⟩ =>
 bif decide (f<(List.length a:Int)) then
 bif decide ((0:Int)≤f∧f<(List.length a:Int)) then
 bif decide (Int.toNat f<List.length a) then
 some (.inl ((IntKind.wrap .i64 (c+(List.length ((((List.getD a (Int.toNat f) (dflt T_api_Record)).2).2).1):Int)),IntKind.wrap .i64 (f+(1:Int)),()),()))
 else none
 else none
 else
 inrO (Option.bind (p141 fu (c,())) fun ⟨_,⟨h,_⟩⟩ =>
 bif decide (List.length h=List.length h) then
 Option.bind (p142 fu (a,((),(((h,()),()),())),())) fun ⟨⟨⟨_,_⟩,⟨_,_⟩,_,_⟩,i⟩ =>
 bif decide (List.length i=List.length i) then
 some ((),i)
 else none
 else none))
 (((0:Int),(0:Int),()),())
def e110 (fu:Nat):Ent := ⟨110,(.cons (.hole (.sl T_api_Record)) .nil),.nil,(.own .own 49 T_api_Record),p110 fu⟩
def d110 (fu:Nat):DC := (.seq (.region [opD 2 (.mov (.const vS))] [[]] false) (.seq (.region [opD 3 (.mov (cD 0))] [[]] false) (.seq (.seq (.region [mvD 6 0,opD 7 (.len false (tD 6)),opD 8 (.mov (cD 0))] [[],[0],[]] false) (.block 0 (.loop ⟨[3,8],(.cons (.hole (.int .i64)) (.cons (.hole (.int .i64)) .nil)),[],.nil,[0,7],[]⟩
 (.seq (.region [opD 9 (.bin .lss (tD 8) (tD 7))] [[]] false) (.seq (.cond (.tmp 9) .skip (.exit 0)) (.seq (.block 1 (.seq (.region [mvD 10 8,mvD 4 10] [[],[0,0]] false) (.region [mvD 11 3,mvD 12 0,mvD 13 4,opD 14 (.iaddr 5 (tD 12) (tD 13)),opD 15 (.faddr 2 (tD 14)),opD 16 (.load false 1 (tD 15)),opD 17 (.len false (tD 16)),opD 18 (.bin .add (tD 11) (tD 17)),mvD 3 18] [[],[],[],[1,2],[3],[4],[5],[0,6],[7,0,1,2,3,4,5,6,7]] false))) (.region [opD 19 (.bin .add (tD 8) (cD 1)),mvD 8 19] [[],[0]] false))))))) (.seq (.region [mvD 20 3,oqD 21 (.call 141 [(tD 20)]) (.ent (e141 fu)),opD 5 (.alloc 185 1 [(.pointer none)]),onD (.store 1 (tD 5) (tD 21))] [[],[0],[],[2,1,1,0,1,2]] false) (.seq (.region [mvD 22 0,opD 23 (.fn 143 [] [(tD 5)]),oqD 24 (.call 142 [(tD 22),(tD 23)]) (.ent (e142 fu)),mvD 2 24] [[],[],[0,1],[2,2,0,1,2]] false) .ret)))))
theorem v110 (fu:Nat):evF fu (d110 fu) rs110 25 (e110 fu).ash (e110 fu).osh (e110 fu).vsh=p110 fu := by kernel_rfl
theorem b110 (fu:Nat):BodyD Tryz.prog 110 25 (d110 fu).erase rs110 := bodyD_mk Tryz.func110 (by kernel_rfl) (by kernel_rfl) (by kernel_rfl) (by kernel_rfl)
theorem g110 (fu:Nat):(e110 fu).Good Tryz.prog := good_by orders (b110 fu) (l := [e141 fu,e142 fu]) (by kernel_rfl) ⟨g141 fu,g142 fu,trivial⟩ (by kernel_rfl) (v110 fu)
def rs111:List RVx := [(.tmp 2)]
def p111 (_:Nat):(List (D_api_Producer))×(Unit)→Option ((Unit)×(List (D_api_Producer))) := fun ⟨a,_⟩ =>
bif ((List.length a:Int)==(0:Int)) then
 some ((),[])
else
 bif decide ((0:Int)≤(List.length a:Int)∧((List.length a:Int):Int)≤(List.length a:Int)∧((List.length a:Int):Int)≤9223372036854775807∧(32:Int) * (List.length a:Int)≤140737488355328) then
 bif decide (Int.toNat (List.length a:Int)=List.length (List.replicate (Int.toNat (List.length a:Int)) ((0:Int),(0:Int),false,(0:Int)):List (D_api_Producer))) then
 bif decide (Int.toNat (List.length a:Int)=List.length (copyL (List.replicate (Int.toNat (List.length a:Int)) ((0:Int),(0:Int),false,(0:Int)):List (D_api_Producer)) 0 (Int.toNat (List.length a:Int)) a)) then
 some ((),(copyL (List.replicate (Int.toNat (List.length a:Int)) ((0:Int),(0:Int),false,(0:Int)):List (D_api_Producer)) 0 (Int.toNat (List.length a:Int)) a))
 else none
 else none
 else none
def e111 (fu:Nat):Ent := ⟨111,(.cons (.hole (.sl T_api_Producer)) .nil),.nil,(.own .own 77 T_api_Producer),p111 fu⟩
def d111 (_:Nat):DC := (.seq (.region [opD 2 (.mov (.const vS))] [[]] false) (.seq (.seq (.region [mvD 4 0,opD 5 (.len false (tD 4)),opD 6 (.bin .eql (tD 5) (cD 0))] [[],[0],[1]] false) (.cond (.tmp 6) (.seq (.region [opD 2 (.mov (.const vS))] [[]] false) .ret) .skip)) (.seq (.region [mvD 7 0,opD 8 (.len false (tD 7)),oqD 9 (.make false 77 4 [vU,vU,vB,vU] 32 (tD 8) (tD 8)) (.ty T_api_Producer),mvD 3 9] [[],[0],[1,1],[2,0,1,2]] false) (.seq (.region [mvD 10 3,mvD 11 0,opD 12 (.copy 4 (tD 10) (tD 11))] [[],[],[0,1]] false) (.seq (.region [mvD 13 3,mvD 2 13] [[],[0,0]] false) .ret)))))
theorem v111 (fu:Nat):evF fu (d111 fu) rs111 14 (e111 fu).ash (e111 fu).osh (e111 fu).vsh=p111 fu := by kernel_rfl
theorem b111 (fu:Nat):BodyD Tryz.prog 111 14 (d111 fu).erase rs111 := bodyD_mk Tryz.func111 (by kernel_rfl) (by kernel_rfl) (by kernel_rfl) (by kernel_rfl)
theorem g111 (fu:Nat):(e111 fu).Good Tryz.prog := good_by orders (b111 fu) (l := []) (by kernel_rfl) trivial (by kernel_rfl) (v111 fu)
def rs112:List RVx := [(.tmp 2)]
def p112 (_:Nat):(List (D_runtime_errorAddressString))×(Unit)→Option ((Unit)×(List (D_runtime_errorAddressString))) := fun ⟨a,_⟩ =>
bif ((List.length a:Int)==(0:Int)) then
 some ((),[])
else
 bif decide ((0:Int)≤(List.length a:Int)∧((List.length a:Int):Int)≤(List.length a:Int)∧((List.length a:Int):Int)≤9223372036854775807∧(24:Int) * (List.length a:Int)≤140737488355328) then
 bif decide (Int.toNat (List.length a:Int)=List.length (List.replicate (Int.toNat (List.length a:Int)) ((⟨#[]⟩:ByteArray),(0:Int)):List (D_runtime_errorAddressString))) then
 bif decide (Int.toNat (List.length a:Int)=List.length (copyL (List.replicate (Int.toNat (List.length a:Int)) ((⟨#[]⟩:ByteArray),(0:Int)):List (D_runtime_errorAddressString)) 0 (Int.toNat (List.length a:Int)) a)) then
 some ((),(copyL (List.replicate (Int.toNat (List.length a:Int)) ((⟨#[]⟩:ByteArray),(0:Int)):List (D_runtime_errorAddressString)) 0 (Int.toNat (List.length a:Int)) a))
 else none
 else none
 else none
def e112 (fu:Nat):Ent := ⟨112,(.cons (.hole (.sl T_runtime_errorAddressString)) .nil),.nil,(.own .own 79 T_runtime_errorAddressString),p112 fu⟩
def d112 (_:Nat):DC := (.seq (.region [opD 2 (.mov (.const vS))] [[]] false) (.seq (.seq (.region [mvD 4 0,opD 5 (.len false (tD 4)),opD 6 (.bin .eql (tD 5) (cD 0))] [[],[0],[1]] false) (.cond (.tmp 6) (.seq (.region [opD 2 (.mov (.const vS))] [[]] false) .ret) .skip)) (.seq (.region [mvD 7 0,opD 8 (.len false (tD 7)),oqD 9 (.make false 79 2 [vT,vU] 24 (tD 8) (tD 8)) (.ty T_runtime_errorAddressString),mvD 3 9] [[],[0],[1,1],[2,0,1,2]] false) (.seq (.region [mvD 10 3,mvD 11 0,opD 12 (.copy 2 (tD 10) (tD 11))] [[],[],[0,1]] false) (.seq (.region [mvD 13 3,mvD 2 13] [[],[0,0]] false) .ret)))))
theorem v112 (fu:Nat):evF fu (d112 fu) rs112 14 (e112 fu).ash (e112 fu).osh (e112 fu).vsh=p112 fu := by kernel_rfl
theorem b112 (fu:Nat):BodyD Tryz.prog 112 14 (d112 fu).erase rs112 := bodyD_mk Tryz.func112 (by kernel_rfl) (by kernel_rfl) (by kernel_rfl) (by kernel_rfl)
theorem g112 (fu:Nat):(e112 fu).Good Tryz.prog := good_by orders (b112 fu) (l := []) (by kernel_rfl) trivial (by kernel_rfl) (v112 fu)
def rs61:List RVx := [(.cell 2 true 7)]
def p61 (fu:Nat):(Z3)×(Unit)→Option ((Unit)×((ByteArray)×((ByteArray)×((Int)×((Int)×((List (D_api_Record))×((List (D_api_Producer))×((List (D_runtime_errorAddressString))×(Unit))))))))) := fun ⟨⟨a,c,f,h,i,j,k,_⟩,_⟩ =>
Option.bind (p110 fu (i,())) fun ⟨_,l⟩ =>
Option.bind (p111 fu (j,())) fun ⟨_,m⟩ =>
Option.bind (p112 fu (k,())) fun ⟨_,n⟩ =>
bif decide (List.length l=List.length l) then
 bif decide (List.length m=List.length m) then
 bif decide (List.length n=List.length n) then
 some ((),(a,c,f,h,l,m,n,()))
 else none
 else none
else none
def e61 (fu:Nat):Ent := ⟨61,(.cons Y5 .nil),.nil,Y7,p61 fu⟩
def d61 (fu:Nat):DC := (.seq (.region [opD 1 (.box 29 7 (tD 0)),opD 2 (.alloc 29 7 [vT,vT,vU,vU,vS,vS,vS])] [[],[]] false) (.seq (.region [opD 3 (.faddr 4 (tD 1)),opD 4 (.load false 1 (tD 3)),oqD 5 (.call 110 [(tD 4)]) (.ent (e110 fu)),opD 6 (.faddr 4 (tD 1)),onD (.store 1 (tD 6) (tD 5))] [[],[0],[1],[0,1,2],[3,2,2,0,1,2]] false) (.seq (.region [opD 7 (.faddr 5 (tD 1)),opD 8 (.load false 1 (tD 7)),oqD 9 (.call 111 [(tD 8)]) (.ent (e111 fu)),opD 10 (.faddr 5 (tD 1)),onD (.store 1 (tD 10) (tD 9))] [[],[0],[1],[0,1,2],[3,2,2,0,1,2]] false) (.seq (.region [opD 11 (.faddr 6 (tD 1)),opD 12 (.load false 1 (tD 11)),oqD 13 (.call 112 [(tD 12)]) (.ent (e112 fu)),opD 14 (.faddr 6 (tD 1)),onD (.store 1 (tD 14) (tD 13))] [[],[0],[1],[0,1,2],[3,2,2,0,1,2]] false) (.seq (.region [opD 15 (.load true 7 (tD 1)),onD (.store 7 (tD 2) (tD 15))] [[],[0,0]] false) .ret)))))
theorem v61 (fu:Nat):evF fu (d61 fu) rs61 16 (e61 fu).ash (e61 fu).osh (e61 fu).vsh=p61 fu := by kernel_rfl
theorem b61 (fu:Nat):BodyD Tryz.prog 61 16 (d61 fu).erase rs61 := bodyD_mk Tryz.func61 (by kernel_rfl) (by kernel_rfl) (by kernel_rfl) (by kernel_rfl)
theorem g61 (fu:Nat):(e61 fu).Good Tryz.prog := good_by orders (b61 fu) (l := [e110 fu,e111 fu,e112 fu]) (by kernel_rfl) ⟨g110 fu,g111 fu,g112 fu,trivial⟩ (by kernel_rfl) (v61 fu)
def rs164:List RVx := [(.tmp 3)]
def p164 (_:Nat):((Int)×((Int)×((Bool)×((Int)×(Unit)))))×(((Int)×(Unit))×(Unit))→Option ((Unit)×(Bool)) := fun ⟨⟨a,_,_,_,_⟩,⟨c,_⟩,_⟩ =>
some ((),(a==c))
def e164 (fu:Nat):Ent := ⟨164,(.cons (.agg 4 (.cons (.hole (.int .u64)) (.cons (.hole (.int .u64)) (.cons (.hole .bool) (.cons (.hole (.int .u64)) .nil))))) (.cons (.look (.cons (.hole (.int .u64)) .nil)) .nil)),.nil,(.hole .bool),p164 fu⟩
def d164 (_:Nat):DC := (.seq (.region [opD 2 (.box 77 4 (tD 0)),opD 3 (.mov (.const vB))] [[],[]] false) (.seq (.region [opD 4 (.faddr 0 (tD 2)),opD 5 (.load false 1 (tD 4)),opD 6 (.load false 1 (tD 1)),opD 7 (.bin .eql (tD 5) (tD 6)),mvD 3 7] [[],[0],[],[1,2],[3,0,1,2,3]] false) .ret))
theorem v164 (fu:Nat):evF fu (d164 fu) rs164 8 (e164 fu).ash (e164 fu).osh (e164 fu).vsh=p164 fu := by kernel_rfl
theorem b164 (fu:Nat):BodyD Tryz.prog 164 8 (d164 fu).erase rs164 := bodyD_mk Tryz.func164 (by kernel_rfl) (by kernel_rfl) (by kernel_rfl) (by kernel_rfl)
theorem g164 (fu:Nat):(e164 fu).Good Tryz.prog := good_by orders (b164 fu) (l := []) (by kernel_rfl) trivial (by kernel_rfl) (v164 fu)
def rs163:List RVx := [(.tmp 4),(.tmp 5)]
def p163 (fu:Nat):(List (D_api_Producer))×(((Unit)×(((Int)×(Unit))×(Unit)))×(Unit))→Option ((((Int)×(Unit))×(Unit))×((Int)×((Bool)×(Unit)))) := fun ⟨a,⟨_,⟨⟨c,_⟩,_⟩⟩,_⟩ =>
loopO (S := ((Int)×(Unit))×(Unit)) fu (fun ⟨⟨f,_⟩,_⟩ =>
 bif decide (f<(List.length a:Int)) then
 bif decide ((0:Int)≤f∧f<(List.length a:Int)) then
 bif decide (Int.toNat f<List.length a) then
 Option.bind (p164 fu (((List.getD a (Int.toNat f) (dflt T_api_Producer)).1,((List.getD a (Int.toNat f) (dflt T_api_Producer)).2).1,(((List.getD a (Int.toNat f) (dflt T_api_Producer)).2).2).1,(((List.getD a (Int.toNat f) (dflt T_api_Producer)).2).2).2,()),(c,()),())) fun ⟨_,h⟩ =>
 bif h then
 inrO (some (((c,()),()),(f,true,())))
 else
 some (.inl ((IntKind.wrap .i64 (f+(1:Int)),()),()))
 else none
 else none
 else
 inrO (some (((c,()),()),((List.length a:Int),false,()))))
 (((0:Int),()),())
def e163 (fu:Nat):Ent := ⟨163,(.cons (.hole (.sl T_api_Producer)) (.cons (.clo 164 0 .nil 1 (.cons (.box 24 1 (.cons (.hole (.int .u64)) .nil)) .nil)) .nil)),(.cons (.agg 1 (.cons (.hole (.int .u64)) .nil)) .nil),(.tup 2 (.cons (.hole (.int .i64)) (.cons (.hole .bool) .nil))),p163 fu⟩
def d163 (fu:Nat):DC := (.seq (.region [opD 4 (.mov (cD 0)),opD 5 (.mov (.const vB))] [[],[0]] false) (.seq (.seq (.region [mvD 8 0,opD 9 (.len false (tD 8)),opD 10 (.mov (cD 0))] [[],[0],[]] false) (.block 0 (.loop ⟨[10],(.cons (.hole (.int .i64)) .nil),[],.nil,[0,1,8,9],[0]⟩
 (.seq (.region [opD 11 (.bin .lss (tD 10) (tD 9))] [[]] false) (.seq (.cond (.tmp 11) .skip (.exit 0)) (.seq (.block 1 (.seq (.region [mvD 12 10,opD 13 (.iaddr 4 (tD 8) (tD 10)),opD 14 (.load true 4 (tD 13)),opD 7 (.alloc 77 4 [vU,vU,vB,vU]),mvD 6 12,onD (.store 4 (tD 7) (tD 14))] [[],[],[1],[],[0,0,1,2,3],[3,2,4,0,1,2,3,4]] false) (.seq (.region [mvD 15 1,opD 16 (.load true 4 (tD 7)),oqD 17 (.callv (tD 15) [(tD 16)]) (.ent (e164 fu))] [[],[],[0,1]] false) (.cond (.tmp 17) (.seq (.region [mvD 18 6,mvD 4 18,opD 5 (.mov (.const (.bool true)))] [[],[0,0],[1,0,1]] false) .ret) .skip)))) (.region [opD 19 (.bin .add (tD 10) (cD 1)),mvD 10 19] [[],[0]] false))))))) (.seq (.region [mvD 20 0,opD 21 (.len false (tD 20)),mvD 4 21,opD 5 (.mov (.const vB))] [[],[0],[1,0,1],[2,0,1,2]] false) .ret)))
theorem v163 (fu:Nat):evF fu (d163 fu) rs163 22 (e163 fu).ash (e163 fu).osh (e163 fu).vsh=p163 fu := by kernel_rfl
theorem b163 (fu:Nat):BodyD Tryz.prog 163 22 (d163 fu).erase rs163 := bodyD_mk Tryz.func163 (by kernel_rfl) (by kernel_rfl) (by kernel_rfl) (by kernel_rfl)
theorem g163 (fu:Nat):(e163 fu).Good Tryz.prog := good_by orders (b163 fu) (l := [e164 fu]) (by kernel_rfl) ⟨g164 fu,trivial⟩ (by kernel_rfl) (v163 fu)
def rs157:List RVx := [(.tmp 6),(.tmp 7)]
def p157 (fu:Nat):(List (D_api_Producer))×((Int)×((Int)×(Unit)))→Option ((Unit)×((Int)×((Int)×(Unit)))) := fun ⟨a,c,f,_⟩ =>
bif (c==(0:Int)) then
 some ((),((4:Int),(0:Int),()))
else
 Option.bind (p101 fu (f,())) fun ⟨_,h⟩ =>
 bif !h then
 some ((),((4:Int),(0:Int),()))
 else
 Option.bind (p163 fu (a,((),((c,()),())),())) fun ⟨⟨⟨_,_⟩,_⟩,⟨i,j,_⟩⟩ =>
 orK (E := ((Bool)×(Unit))×(Unit))
 (bif !j then
 some (.inl ((true,()),()))
 else
 bif decide ((0:Int)≤i∧i<(List.length a:Int)) then
 bif decide (Int.toNat i<List.length a) then
 some (.inl ((decide (f>(((List.getD a (Int.toNat i) (dflt T_api_Producer)).2).1)),()),()))
 else none
 else none)
 fun ⟨⟨k,_⟩,_⟩ =>
 bif k then
 some ((),((1:Int),(0:Int),()))
 else
 orK (E := ((Bool)×(Unit))×(Unit))
 (bif decide ((0:Int)≤i∧i<(List.length a:Int)) then
 bif decide (Int.toNat i<List.length a) then
 bif (f==(((List.getD a (Int.toNat i) (dflt T_api_Producer)).2).1)) then
 bif decide ((0:Int)≤i∧i<(List.length a:Int)) then
 bif decide (Int.toNat i<List.length a) then
 some (.inl (((((List.getD a (Int.toNat i) (dflt T_api_Producer)).2).2).1,()),()))
 else none
 else none
 else
 some (.inl ((false,()),()))
 else none
 else none)
 fun ⟨⟨l,_⟩,_⟩ =>
 bif l then
 bif decide ((0:Int)≤i∧i<(List.length a:Int)) then
 bif decide (Int.toNat i<List.length a) then
 some ((),((2:Int),(((List.getD a (Int.toNat i) (dflt T_api_Producer)).2).2).2,()))
 else none
 else none
 else
 some ((),((3:Int),(0:Int),()))
def e157 (fu:Nat):Ent := ⟨157,(.cons (.hole (.sl T_api_Producer)) (.cons (.hole (.int .u64)) (.cons (.hole (.int .u64)) .nil))),.nil,(.tup 2 (.cons (.hole (.int .i64)) (.cons (.hole (.int .u64)) .nil))),p157 fu⟩
def d157 (fu:Nat):DC := (.seq (.region [opD 4 (.box 24 1 (tD 1)),opD 6 (.mov (cD 0)),opD 7 (.mov (.const vU))] [[],[],[1]] false) (.seq (.seq (.region [opD 10 (.load false 1 (tD 4)),opD 11 (.bin .eql (tD 10) (.const vU)),mvD 12 11,ogD 13 12 false (.mov (tD 2)),(⟨(some 14),(some (12,false)),(.call 101 [(tD 13)])⟩,(.ent (e101 fu))),ogD 15 12 false (.not (tD 14)),opD 16 (.pick (tD 12) (.const (.bool true)) (tD 15))] [[],[0],[1],[2],[3,2,2],[4,2],[2,5]] false) (.cond (.tmp 16) (.seq (.region [opD 6 (.mov (cD 4)),opD 7 (.mov (.const vU))] [[],[0,0]] false) .ret) .skip)) (.seq (.region [mvD 18 0,opD 19 (.fn 164 [] [(tD 4)]),oqD 20 (.call 163 [(tD 18),(tD 19)]) (.ent (e163 fu)),mvD 17 20,opD 21 (.ext (tD 17) 0),opD 22 (.ext (tD 17) 1),mvD 8 21,mvD 9 22] [[],[],[0,1],[2],[3],[3],[4,2,0,1,2,3,4],[5,6,0,1,2,3,4,5,6]] false) (.seq (.block 0 (.join ⟨[23],(.cons (.hole .bool) .nil),[],.nil,[0,2,8],[]⟩
 (.region [mvD 24 9,opD 25 (.not (tD 24)),mvD 26 25,ogD 27 26 false (.mov (tD 2)),ogD 28 26 false (.mov (tD 0)),ogD 29 26 false (.mov (tD 8)),ogD 30 26 false (.iaddr 4 (tD 28) (tD 29)),ogD 31 26 false (.faddr 1 (tD 30)),ogD 32 26 false (.load false 1 (tD 31)),ogD 33 26 false (.bin .gtr (tD 27) (tD 32)),opD 34 (.pick (tD 26) (.const (.bool true)) (tD 33)),mvD 23 34] [[],[0],[1],[2],[2],[2],[4,5,2],[6,2],[7,2],[3,8,2],[2,9],[10,2]] false)
 (.cond (.tmp 23) (.seq (.region [opD 6 (.mov (cD 1)),opD 7 (.mov (.const vU))] [[],[0,0]] false) .ret) (.join ⟨[35],(.cons (.hole .bool) .nil),[],.nil,[0,8],[]⟩
 (.region [mvD 36 2,mvD 37 0,mvD 38 8,opD 39 (.iaddr 4 (tD 37) (tD 38)),opD 40 (.faddr 1 (tD 39)),opD 41 (.load false 1 (tD 40)),opD 42 (.bin .eql (tD 36) (tD 41)),mvD 43 42,ogD 44 43 true (.mov (tD 0)),ogD 45 43 true (.mov (tD 8)),ogD 46 43 true (.iaddr 4 (tD 44) (tD 45)),ogD 47 43 true (.faddr 2 (tD 46)),ogD 48 43 true (.load false 1 (tD 47)),opD 49 (.pick (tD 43) (tD 48) (.const vB)),mvD 35 49] [[],[],[],[1,2],[3],[4],[0,5],[6],[7],[7],[8,9,7],[10,7],[11,7],[7,12],[13,7]] false)
 (.cond (.tmp 35) (.seq (.region [mvD 50 0,mvD 51 8,opD 52 (.iaddr 4 (tD 50) (tD 51)),opD 53 (.faddr 3 (tD 52)),opD 54 (.load false 1 (tD 53)),opD 6 (.mov (cD 2)),mvD 7 54] [[],[],[0,1],[2],[3],[],[4,5,0,1,2,3,4,5]] true) .ret) .skip))))) (.seq (.region [opD 6 (.mov (cD 3)),opD 7 (.mov (.const vU))] [[],[0,0]] false) .ret)))))
theorem v157 (fu:Nat):evF fu (d157 fu) rs157 55 (e157 fu).ash (e157 fu).osh (e157 fu).vsh=p157 fu := by kernel_rfl
theorem b157 (fu:Nat):BodyD Tryz.prog 157 55 (d157 fu).erase rs157 := bodyD_mk Tryz.func157 (by kernel_rfl) (by kernel_rfl) (by kernel_rfl) (by kernel_rfl)
theorem g157 (fu:Nat):(e157 fu).Good Tryz.prog := good_by orders (b157 fu) (l := [e101 fu,e163 fu]) (by kernel_rfl) ⟨g101 fu,g163 fu,trivial⟩ (by kernel_rfl) (v157 fu)
def rs134:List RVx := [(.tmp 2)]
def p134 (fu:Nat):(Z8)×(Unit)→Option ((Unit)×(Bool)) := fun ⟨⟨_,_,a,c,_,_,_,_,_,_,_⟩,_⟩ =>
Option.bind (p157 fu ([],a,c,())) fun ⟨_,⟨f,_,_⟩⟩ =>
some ((),(f != (4:Int)))
def e134 (fu:Nat):Ent := ⟨134,(.cons Y6 .nil),.nil,(.hole .bool),p134 fu⟩
def d134 (fu:Nat):DC := (.seq (.region [opD 1 (.box 44 10 (tD 0)),opD 2 (.mov (.const vB))] [[],[]] false) (.seq (.region [opD 6 (.faddr 2 (tD 1)),opD 7 (.load false 1 (tD 6)),opD 8 (.faddr 3 (tD 1)),opD 9 (.load false 1 (tD 8)),oqD 10 (.call 157 [(.const vS),(tD 7),(tD 9)]) (.ent (e157 fu)),mvD 5 10,opD 11 (.ext (tD 5) 0),opD 12 (.ext (tD 5) 1),mvD 3 11,mvD 4 12] [[],[0],[],[2],[1,3],[4],[5],[5],[6,4,0,1,2,3,4,5,6],[7,8,0,1,2,3,4,5,6,7,8]] false) (.seq (.region [mvD 13 3,opD 14 (.bin .neq (tD 13) (cD 4)),mvD 2 14] [[],[0],[1,0,1]] false) .ret)))
theorem v134 (fu:Nat):evF fu (d134 fu) rs134 15 (e134 fu).ash (e134 fu).osh (e134 fu).vsh=p134 fu := by kernel_rfl
theorem b134 (fu:Nat):BodyD Tryz.prog 134 15 (d134 fu).erase rs134 := bodyD_mk Tryz.func134 (by kernel_rfl) (by kernel_rfl) (by kernel_rfl) (by kernel_rfl)
theorem g134 (fu:Nat):(e134 fu).Good Tryz.prog := good_by orders (b134 fu) (l := [e157 fu]) (by kernel_rfl) ⟨g157 fu,trivial⟩ (by kernel_rfl) (v134 fu)
def rs88:List RVx := [(.tmp 2)]
def p88 (fu:Nat):(Z8)×(Unit)→Option ((Unit)×(Bool)) := fun ⟨⟨a,c,f,h,i,j,k,l,m,n,_⟩,_⟩ =>
orK (E := (Unit)×(Unit))
 (orK (E := (Unit)×(Unit))
 (bif (a==(1:Int)) then
 Option.bind (p134 fu ((a,c,f,h,i,j,k,l,m,n,()),())) fun ⟨_,o⟩ =>
 bif o then
 bif decide ((ByteArray.size i:Int)≤(32:Int)) then
 inrO (inrO (some ((),decide ((List.length j:Int)≤(256:Int)))))
 else
 inrO (inrO (some ((),false)))
 else
 inrO (inrO (some ((),false)))
 else
 bif (a==(2:Int)) then
 bif decide (l≥(1:Int)) then
 inrO (inrO (some ((),decide (l≤(64:Int)))))
 else
 inrO (inrO (some ((),false)))
 else
 bif (a==(3:Int)) then
 Option.bind (p134 fu ((a,c,f,h,i,j,k,l,m,n,()),())) fun ⟨_,q⟩ =>
 bif !q then
 inrO (inrO (some ((),false)))
 else
 some (.inl ((),()))
 else
 bif (a==(4:Int)) then
 some (.inl ((),()))
 else
 bif (a==(5:Int)) then
 inrO (some (.inl ((),())))
 else
 bif (a==(6:Int)) then
 inrO (some (.inl ((),())))
 else
 inrO (inrO (some ((),false))))
 fun ⟨_,_⟩ =>
 Option.bind (p102 fu (m,())) fun ⟨_,s⟩ =>
 inrO (some ((),s)))
 fun ⟨_,_⟩ =>
some ((),(n != (0:Int)))
def e88 (fu:Nat):Ent := ⟨88,(.cons Y6 .nil),.nil,(.hole .bool),p88 fu⟩
def d88 (fu:Nat):DC := (.seq (.region [opD 1 (.box 44 10 (tD 0)),opD 2 (.mov (.const vB))] [[],[]] false) (.seq (.seq (.region [opD 3 (.faddr 0 (tD 1)),opD 4 (.load false 1 (tD 3))] [[],[0]] false) (.block 0 (.join ⟨[],.nil,[],.nil,[1],[0]⟩
 (.block 5 (.join ⟨[],.nil,[],.nil,[1],[0]⟩
 (.block 4 (.seq (.block 3 (.seq (.block 2 (.seq (.block 1 (.seq (.seq (.seq (.region [opD 6 (.bin .eql (tD 4) (cD 1)),mvD 5 6] [[],[0]] false) (.cond (.tmp 5) (.exit 1) .skip)) (.seq (.seq (.region [opD 8 (.bin .eql (tD 4) (cD 2)),mvD 7 8] [[],[0]] false) (.cond (.tmp 7) (.exit 2) .skip)) (.seq (.seq (.region [opD 10 (.bin .eql (tD 4) (cD 3)),mvD 9 10] [[],[0]] false) (.cond (.tmp 9) (.exit 3) .skip)) (.seq (.seq (.region [opD 12 (.bin .eql (tD 4) (cD 4)),mvD 11 12] [[],[0]] false) (.cond (.tmp 11) (.exit 4) .skip)) (.seq (.seq (.region [opD 14 (.bin .eql (tD 4) (cD 5)),mvD 13 14] [[],[0]] false) (.cond (.tmp 13) .skip (.region [opD 15 (.bin .eql (tD 4) (cD 6)),mvD 13 15] [[],[0]] false))) (.cond (.tmp 13) (.exit 5) .skip)))))) (.exit 0))) (.seq (.seq (.region [opD 16 (.load true 10 (tD 1)),oqD 17 (.call 134 [(tD 16)]) (.ent (e134 fu)),mvD 18 17,ogD 19 18 true (.faddr 4 (tD 1)),ogD 20 18 true (.load false 1 (tD 19)),ogD 21 18 true (.len true (tD 20)),ogD 22 18 true (.bin .leq (tD 21) (cD 32)),opD 23 (.pick (tD 18) (tD 22) (.const vB)),mvD 24 23,ogD 25 24 true (.faddr 5 (tD 1)),ogD 26 24 true (.load false 1 (tD 25)),ogD 27 24 true (.len false (tD 26)),ogD 28 24 true (.bin .leq (tD 27) (cD 256)),opD 29 (.pick (tD 24) (tD 28) (.const vB)),mvD 2 29] [[],[0],[1,1],[2],[3,2],[4,2],[5,2],[2,6],[7,2],[8],[9,8],[10,8],[11,8],[8,12],[13,8,0,1,2,3,4,5,6,7,8,9,10,11,12,13]] false) .ret) (.exit 0)))) (.seq (.seq (.region [opD 30 (.faddr 7 (tD 1)),opD 31 (.load false 1 (tD 30)),opD 32 (.bin .geq (tD 31) (cD 1)),mvD 33 32,ogD 34 33 true (.faddr 7 (tD 1)),ogD 35 33 true (.load false 1 (tD 34)),ogD 36 33 true (.bin .leq (tD 35) (cD 64)),opD 37 (.pick (tD 33) (tD 36) (.const vB)),mvD 2 37] [[],[0],[1],[2],[3],[4,3],[5,3],[3,6],[7,3,0,1,2,3,4,5,6,7]] false) .ret) (.exit 0)))) (.seq (.region [opD 38 (.load true 10 (tD 1)),oqD 39 (.call 134 [(tD 38)]) (.ent (e134 fu)),opD 40 (.not (tD 39))] [[],[0],[1]] false) (.cond (.tmp 40) (.seq (.region [opD 2 (.mov (.const vB))] [[]] false) .ret) .skip))))
 (.seq (.seq (.region [opD 41 (.faddr 8 (tD 1)),opD 42 (.load false 1 (tD 41)),oqD 43 (.call 102 [(tD 42)]) (.ent (e102 fu)),mvD 2 43] [[],[0],[1],[2,2,0,1,2]] false) .ret) (.exit 0))))
 (.seq (.seq (.region [opD 44 (.faddr 9 (tD 1)),opD 45 (.load false 1 (tD 44)),opD 46 (.bin .neq (tD 45) (.const vU)),mvD 2 46] [[],[0],[1],[2,0,1,2]] false) .ret) (.exit 0))))) (.seq (.region [opD 2 (.mov (.const vB))] [[]] false) .ret)))
theorem v88 (fu:Nat):evF fu (d88 fu) rs88 47 (e88 fu).ash (e88 fu).osh (e88 fu).vsh=p88 fu := by kernel_rfl
theorem b88 (fu:Nat):BodyD Tryz.prog 88 47 (d88 fu).erase rs88 := bodyD_mk Tryz.func88 (by kernel_rfl) (by kernel_rfl) (by kernel_rfl) (by kernel_rfl)
theorem g88 (fu:Nat):(e88 fu).Good Tryz.prog := good_by orders (b88 fu) (l := [e134 fu,e134 fu,e102 fu]) (by kernel_rfl) ⟨g134 fu,g134 fu,g102 fu,trivial⟩ (by kernel_rfl) (v88 fu)
def rs113:List RVx := [(.tmp 4)]
def p113 (_:Nat):(ByteArray)×((Int)×(Unit))→Option ((Unit)×((Bool)×((Unit)×((ByteArray)×((Int)×(Unit)))))) := fun ⟨a,c,_⟩ =>
bif (c==(0:Int)) then
 some ((),(true,(),dflt (.pair .str (.pair (.int .i64) .unit))))
else
 some ((),(false,dflt .unit,(a,c,())))
def e113 (fu:Nat):Ent := ⟨113,(.cons (.hole .str) (.cons (.hole (.int .i64)) .nil)),.nil,(.alt (.nilv 1) (.ifc 101 (.look (.cons (.hole .str) (.cons (.hole (.int .i64)) .nil))))),p113 fu⟩
def d113 (_:Nat):DC := (.seq (.region [opD 4 (.mov (.const .nilIface))] [[]] false) (.seq (.seq (.region [mvD 5 1,opD 6 (.bin .eql (tD 5) (cD 0))] [[],[0]] false) (.cond (.tmp 6) (.seq (.region [opD 4 (.mov (.const .nilIface))] [[]] false) .ret) .skip)) (.seq (.region [mvD 7 0,mvD 8 1,opD 9 (.build 2 [vT,vI] [(0,(1,(tD 7))),(1,(1,(tD 8)))]),opD 10 (.box 106 2 (tD 9)),opD 11 (.ifc 101 (tD 10)),mvD 4 11] [[],[],[0,1],[2],[3],[4,0,1,2,3,4]] false) .ret)))
theorem v113 (fu:Nat):evF fu (d113 fu) rs113 12 (e113 fu).ash (e113 fu).osh (e113 fu).vsh=p113 fu := by kernel_rfl
theorem b113 (fu:Nat):BodyD Tryz.prog 113 12 (d113 fu).erase rs113 := bodyD_mk Tryz.func113 (by kernel_rfl) (by kernel_rfl) (by kernel_rfl) (by kernel_rfl)
theorem g113 (fu:Nat):(e113 fu).Good Tryz.prog := good_by orders (b113 fu) (l := []) (by kernel_rfl) trivial (by kernel_rfl) (v113 fu)
def rs145:List RVx := [(.tmp 2)]
def p145_1 (fu:Nat):(Z0)×(Unit)→Option (((Z0)×((Unit)×((Unit)×((Unit)×(Unit)))))×((Bool)×((Unit)×((ByteArray)×((Int)×(Unit)))))) := fun ⟨⟨a,c,f,h,i,j,k,l,m,n,o,q,s,t,u,w,x,y,z,a0,_,_⟩,_⟩ =>
Option.bind (p106 fu ((a,c,()),q,())) fun ⟨_,c0⟩ =>
bif !c0 then
 Option.bind (p113 fu ((⟨#[97,32,107,101,121,32,111,102,32,97,110,111,116,104,101,114,32,114,97,110,103,101]⟩:ByteArray),(163:Int),())) fun ⟨_,⟨f0,_,⟨h0,i0,_⟩⟩⟩ =>
 bif f0 then
 bif decide (List.length i=List.length i) then
 bif decide (List.length j=List.length j) then
 bif decide (List.length k=List.length k) then
 some (((a,c,f,h,i,j,k,l,m,n,o,q,s,t,u,w,x,y,z,a0,(),()),(),(),(),()),(true,(),dflt (.pair .str (.pair (.int .i64) .unit))))
 else none
 else none
 else none
 else
 bif decide (List.length i=List.length i) then
 bif decide (List.length j=List.length j) then
 bif decide (List.length k=List.length k) then
 some (((a,c,f,h,i,j,k,l,m,n,o,q,s,t,u,w,x,y,z,a0,(),()),(),(),(),()),(false,dflt .unit,(h0,i0,())))
 else none
 else none
 else none
else
 bif decide (List.length i=List.length i) then
 bif decide (List.length j=List.length j) then
 bif decide (List.length k=List.length k) then
 some (((a,c,f,h,i,j,k,l,m,n,o,q,s,t,u,w,x,y,z,a0,(),()),(),(),(),()),(true,(),dflt (.pair .str (.pair (.int .i64) .unit))))
 else none
 else none
 else none
def e145_1 (fu:Nat):Ent := ⟨145,(.cons Y9 .nil),(.cons Y10 (.cons .dead (.cons .dead (.cons .dead .nil)))),(.alt (.nilv 1) (.ifc 101 (.look (.cons (.hole .str) (.cons (.hole (.int .i64)) .nil))))),p145_1 fu⟩
def d145_1 (fu:Nat):DC := (.seq (.region [opD 2 (.mov (.const .nilIface))] [[]] false) (.seq (.seq (.region [mvD 3 0,opD 4 (.pure .nilc [(tD 3)]),opD 5 (.faddr 0 (tD 4)),opD 6 (.faddr 0 (tD 5)),opD 7 (.load true 2 (tD 6)),mvD 8 0,opD 9 (.pure .nilc [(tD 8)]),opD 10 (.faddr 7 (tD 9)),opD 11 (.faddr 4 (tD 10)),opD 12 (.load false 1 (tD 11)),oqD 13 (.call 106 [(tD 7),(tD 12)]) (.ent (e106 fu)),opD 14 (.not (tD 13))] [[],[0],[1],[2],[3],[],[5],[6],[7],[8],[4,9],[10]] true) (.cond (.tmp 14) (.seq (.region [oqD 15 (.call 113 [(.const (.string ⟨#[97,32,107,101,121,32,111,102,32,97,110,111,116,104,101,114,32,114,97,110,103,101]⟩)),(cD 163)]) (.ent (e113 fu)),mvD 2 15] [[],[0,0,0]] false) .ret) .skip)) (.seq (.region [opD 2 (.mov (.const .nilIface))] [[]] false) .ret)))
theorem v145_1 (fu:Nat):evF fu (d145_1 fu) rs145 16 (e145_1 fu).ash (e145_1 fu).osh (e145_1 fu).vsh=p145_1 fu := by kernel_rfl
theorem b145_1 (fu:Nat):BodyD Tryz.prog 145 16 (d145_1 fu).erase rs145 := bodyD_mk Tryz.func145 (by kernel_rfl) (by kernel_rfl) (by kernel_rfl) (by kernel_rfl)
theorem g145_1 (fu:Nat):(e145_1 fu).Good Tryz.prog := good_by orders (b145_1 fu) (l := [e106 fu,e113 fu]) (by kernel_rfl) ⟨g106 fu,g113 fu,trivial⟩ (by kernel_rfl) (v145_1 fu)
def rs146:List RVx := [(.tmp 2)]
def p146 (fu:Nat):(Z0)×(Unit)→Option (((Z0)×((Unit)×((Unit)×((Unit)×(Unit)))))×((Bool)×((Unit)×((Bool)×((Unit)×((ByteArray)×((Int)×(Unit)))))))) := fun ⟨⟨a,c,f,h,i,j,k,l,m,n,o,q,s,t,u,w,x,y,z,a0,_,_⟩,_⟩ =>
bif decide (List.length j=List.length j) then
 Option.bind (p157 fu (j,n,o,())) fun ⟨_,⟨c0,f0,_⟩⟩ =>
 bif (c0==(1:Int)) then
 bif decide (List.length i=List.length i) then
 bif decide (List.length j=List.length j) then
 bif decide (List.length k=List.length k) then
 some (((a,c,f,h,i,j,k,l,m,n,o,q,s,t,u,w,x,y,z,a0,(),()),(),(),(),()),(true,(),dflt (.pair .bool (.pair .unit (.pair .str (.pair (.int .i64) .unit))))))
 else none
 else none
 else none
 else
 bif (l==(3:Int)) then
 bif decide (List.length i=List.length i) then
 bif decide (List.length j=List.length j) then
 bif decide (List.length k=List.length k) then
 some (((a,c,f,h,i,j,k,l,m,n,o,q,s,t,u,w,x,(0:Int),(0:Int),true,(),()),(),(),(),()),(false,dflt .unit,(true,(),dflt (.pair .str (.pair (.int .i64) .unit)))))
 else none
 else none
 else none
 else
 bif (c0==(2:Int)) then
 bif decide (List.length i=List.length i) then
 bif decide (List.length j=List.length j) then
 bif decide (List.length k=List.length k) then
 some (((a,c,f,h,i,j,k,l,m,n,o,q,s,t,u,w,x,(0:Int),f0,true,(),()),(),(),(),()),(false,dflt .unit,(true,(),dflt (.pair .str (.pair (.int .i64) .unit)))))
 else none
 else none
 else none
 else
 Option.bind (p113 fu ((⟨#[97,32,110,117,109,98,101,114,32,116,104,97,116,32,119,101,110,116,32,98,121]⟩:ByteArray),(152:Int),())) fun ⟨_,⟨h0,_,⟨i0,j0,_⟩⟩⟩ =>
 bif h0 then
 bif decide (List.length i=List.length i) then
 bif decide (List.length j=List.length j) then
 bif decide (List.length k=List.length k) then
 some (((a,c,f,h,i,j,k,l,m,n,o,q,s,t,u,w,x,y,z,a0,(),()),(),(),(),()),(true,(),dflt (.pair .bool (.pair .unit (.pair .str (.pair (.int .i64) .unit))))))
 else none
 else none
 else none
 else
 bif decide (List.length i=List.length i) then
 bif decide (List.length j=List.length j) then
 bif decide (List.length k=List.length k) then
 some (((a,c,f,h,i,j,k,l,m,n,o,q,s,t,u,w,x,y,z,a0,(),()),(),(),(),()),(false,dflt .unit,(false,dflt .unit,(i0,j0,()))))
 else none
 else none
 else none
else none
def e146 (fu:Nat):Ent := ⟨146,(.cons Y9 .nil),(.cons Y10 (.cons .dead (.cons .dead (.cons .dead .nil)))),(.alt (.nilv 1) (.alt (.cst 0 227) (.ifc 101 (.look (.cons (.hole .str) (.cons (.hole (.int .i64)) .nil)))))),p146 fu⟩
def d146 (fu:Nat):DC := (.seq (.region [opD 2 (.mov (.const .nilIface))] [[]] false) (.seq (.region [mvD 6 0,opD 7 (.pure .nilc [(tD 6)]),opD 8 (.faddr 7 (tD 7)),opD 9 (.load true 10 (tD 8)),opD 3 (.alloc 44 10 [vI,vU,vU,vU,vT,vS,vU,vI,vT,vU]),onD (.store 10 (tD 3) (tD 9))] [[],[0],[1],[2],[],[4,3,0,1,2,3,4]] false) (.seq (.region [mvD 11 0,opD 12 (.pure .nilc [(tD 11)]),opD 13 (.faddr 0 (tD 12)),opD 14 (.faddr 5 (tD 13)),opD 15 (.load false 1 (tD 14)),opD 16 (.faddr 2 (tD 3)),opD 17 (.load false 1 (tD 16)),opD 18 (.faddr 3 (tD 3)),opD 19 (.load false 1 (tD 18)),oqD 20 (.call 157 [(tD 15),(tD 17),(tD 19)]) (.ent (e157 fu)),mvD 10 20,opD 21 (.ext (tD 10) 0),opD 22 (.ext (tD 10) 1),mvD 4 21,mvD 5 22] [[],[0],[1],[2],[3],[],[5],[],[7],[4,6,8],[9],[10],[10],[11,9,0,1,2,3,4,5,6,7,8,9,10,11],[12,13,0,1,2,3,4,5,6,7,8,9,10,11,12,13]] true) (.seq (.block 0 (.seq (.region [mvD 24 4,opD 25 (.bin .eql (tD 24) (cD 1)),mvD 23 25] [[],[0],[1]] false) (.cond (.tmp 23) (.seq (.region [opD 2 (.mov (.const .nilIface))] [[]] false) .ret) (.seq (.region [opD 27 (.faddr 0 (tD 3)),opD 28 (.load false 1 (tD 27)),opD 29 (.bin .eql (tD 28) (cD 3)),mvD 26 29] [[],[0],[1],[2]] false) (.cond (.tmp 26) (.seq (.region [mvD 30 0,opD 31 (.build 4 [vI,vU,vB,vS] [(2,(1,(.const (.bool true))))]),opD 32 (.pure .nilc [(tD 30)]),opD 33 (.faddr 17 (tD 32)),onD (.store 4 (tD 33) (tD 31))] [[],[],[0,0,1],[2,0,1],[3,1,0,1]] false) (.seq (.region [opD 34 (.load false 1 (.global 0)),mvD 2 34] [[],[0,0]] false) .ret)) (.seq (.region [mvD 36 4,opD 37 (.bin .eql (tD 36) (cD 2)),mvD 35 37] [[],[0],[1]] false) (.cond (.tmp 35) (.seq (.region [mvD 38 0,mvD 39 5,opD 40 (.build 4 [vI,vU,vB,vS] [(1,(1,(tD 39))),(2,(1,(.const (.bool true))))]),opD 41 (.pure .nilc [(tD 38)]),opD 42 (.faddr 17 (tD 41)),onD (.store 4 (tD 42) (tD 40))] [[],[],[1],[0,0,1,2],[3,0,1,2],[4,2,0,1,2]] false) (.seq (.region [opD 43 (.load false 1 (.global 0)),mvD 2 43] [[],[0,0]] false) .ret)) .skip))))))) (.seq (.region [oqD 44 (.call 113 [(.const (.string ⟨#[97,32,110,117,109,98,101,114,32,116,104,97,116,32,119,101,110,116,32,98,121]⟩)),(cD 152)]) (.ent (e113 fu)),mvD 2 44] [[],[0,0,0]] false) .ret)))))
theorem v146 (fu:Nat):evF fu (d146 fu) rs146 45 (e146 fu).ash (e146 fu).osh (e146 fu).vsh=p146 fu := by kernel_rfl
theorem b146 (fu:Nat):BodyD Tryz.prog 146 45 (d146 fu).erase rs146 := bodyD_mk Tryz.func146 (by kernel_rfl) (by kernel_rfl) (by kernel_rfl) (by kernel_rfl)
theorem g146 (fu:Nat):(e146 fu).Good Tryz.prog := good_by orders (b146 fu) (l := [e157 fu,e113 fu]) (by kernel_rfl) ⟨g157 fu,g113 fu,trivial⟩ (by kernel_rfl) (v146 fu)
def rs114:List RVx := [(.tmp 2)]
def p114 (fu:Nat):(Z0)×(Unit)→Option (((Z0)×((Unit)×((Unit)×((Unit)×(Unit)))))×((Bool)×(((ByteArray)×((Int)×(Unit)))×((Bool)×((Unit)×(Unit)))))) := fun ⟨⟨a,c,f,h,i,j,k,l,m,n,o,q,s,t,u,w,x,y,z,a0,_,_⟩,_⟩ =>
orK (E := (Unit)×(Unit))
 (orK (E := (Unit)×((Z0)×(Unit)))
 (orK (E := (Unit)×((Z0)×(Unit)))
 (bif (l==(1:Int)) then
 orK (E := (((Bool)×((Unit)×((ByteArray)×((Int)×(Unit)))))×(Unit))×((Z0)×(Unit)))
 (bif decide (List.length i=List.length i) then
 bif decide (List.length j=List.length j) then
 bif decide (List.length k=List.length k) then
 Option.bind (p145_1 fu ((a,c,f,h,i,j,k,l,m,n,o,q,s,t,u,w,x,y,z,a0,(),()),())) fun ⟨⟨⟨c0,f0,h0,i0,j0,k0,l0,m0,n0,o0,q0,s0,t0,u0,w0,x0,y0,z0,a1,c1,_,_⟩,_,_,_,_⟩,⟨f1,_,⟨h1,i1,_⟩⟩⟩ =>
 bif f1 then
 bif decide (List.length j0=List.length j0) then
 bif decide (List.length k0=List.length k0) then
 bif decide (List.length l0=List.length l0) then
 some (.inl (((true,(),dflt (.pair .str (.pair (.int .i64) .unit))),()),((c0,f0,h0,i0,j0,k0,l0,m0,n0,o0,q0,s0,t0,u0,w0,x0,y0,z0,a1,c1,(),()),())))
 else none
 else none
 else none
 else
 bif decide (List.length j0=List.length j0) then
 bif decide (List.length k0=List.length k0) then
 bif decide (List.length l0=List.length l0) then
 some (.inl (((false,dflt .unit,(h1,i1,())),()),((c0,f0,h0,i0,j0,k0,l0,m0,n0,o0,q0,s0,t0,u0,w0,x0,y0,z0,a1,c1,(),()),())))
 else none
 else none
 else none
 else none
 else none
 else none)
 fun ⟨⟨⟨j1,_,⟨k1,l1,_⟩⟩,_⟩,⟨⟨m1,n1,o1,q1,s1,t1,u1,w1,x1,y1,z1,a2,c2,f2,h2,i2,j2,k2,l2,m2,_,_⟩,_⟩⟩ =>
 bif j1 then
 bif decide (List.length s1=List.length s1) then
 bif decide (List.length t1=List.length t1) then
 bif decide (List.length u1=List.length u1) then
 some (.inl ((),((m1,n1,o1,q1,s1,t1,u1,w1,x1,y1,z1,a2,c2,f2,h2,i2,j2,k2,l2,m2,(),()),())))
 else none
 else none
 else none
 else
 inrO (inrO (inrO (bif decide (List.length s1=List.length s1) then
 bif decide (List.length t1=List.length t1) then
 bif decide (List.length u1=List.length u1) then
 some (((m1,n1,o1,q1,s1,t1,u1,w1,x1,y1,z1,a2,c2,f2,h2,i2,j2,k2,l2,m2,(),()),(),(),(),()),(true,(k1,l1,()),dflt (.pair .bool (.pair .unit .unit))))
 else none
 else none
 else none)))
 else
 bif (l==(3:Int)) then
 bif decide (List.length i=List.length i) then
 bif decide (List.length j=List.length j) then
 bif decide (List.length k=List.length k) then
 some (.inl ((),((a,c,f,h,i,j,k,l,m,n,o,q,s,t,u,w,x,y,z,a0,(),()),())))
 else none
 else none
 else none
 else
 bif (l==(2:Int)) then
 inrO (bif decide (List.length i=List.length i) then
 bif decide (List.length j=List.length j) then
 bif decide (List.length k=List.length k) then
 some (.inl ((),((a,c,f,h,i,j,k,l,m,n,o,q,s,t,u,w,x,y,z,a0,(),()),())))
 else none
 else none
 else none)
 else
 bif (l==(4:Int)) then
 inrO (bif decide (List.length i=List.length i) then
 bif decide (List.length j=List.length j) then
 bif decide (List.length k=List.length k) then
 some (.inl ((),((a,c,f,h,i,j,k,l,m,n,o,q,s,t,u,w,x,y,z,a0,(),()),())))
 else none
 else none
 else none)
 else
 bif (l==(5:Int)) then
 inrO (inrO (some (.inl ((),()))))
 else
 bif (l==(6:Int)) then
 inrO (inrO (some (.inl ((),()))))
 else
 inrO (inrO (inrO (bif decide (List.length i=List.length i) then
 bif decide (List.length j=List.length j) then
 bif decide (List.length k=List.length k) then
 some (((a,c,f,h,i,j,k,l,m,n,o,q,s,t,u,w,x,y,z,a0,(),()),(),(),(),()),(false,dflt (.pair .str (.pair (.int .i64) .unit)),(true,(),dflt .unit)))
 else none
 else none
 else none))))
 fun ⟨_,⟨⟨m1,n1,o1,q1,s1,t1,u1,w1,x1,y1,z1,a2,c2,f2,h2,i2,j2,k2,l2,m2,_,_⟩,_⟩⟩ =>
 orK (E := ((Z1)×(Unit))×((Z0)×(Unit)))
 (bif decide (List.length s1=List.length s1) then
 bif decide (List.length t1=List.length t1) then
 bif decide (List.length u1=List.length u1) then
 Option.bind (p146 fu ((m1,n1,o1,q1,s1,t1,u1,w1,x1,y1,z1,a2,c2,f2,h2,i2,j2,k2,l2,m2,(),()),())) fun ⟨⟨⟨n2,o2,q2,s2,t2,u2,w2,x2,y2,z2,a3,c3,f3,h3,i3,j3,k3,l3,m3,n3,_,_⟩,_,_,_,_⟩,⟨o3,_,⟨q3,_,⟨s3,t3,_⟩⟩⟩⟩ =>
 bif o3 then
 bif decide (List.length t2=List.length t2) then
 bif decide (List.length u2=List.length u2) then
 bif decide (List.length w2=List.length w2) then
 some (.inl (((true,(),dflt (.pair .bool (.pair .unit (.pair .str (.pair (.int .i64) .unit))))),()),((n2,o2,q2,s2,t2,u2,w2,x2,y2,z2,a3,c3,f3,h3,i3,j3,k3,l3,m3,n3,(),()),())))
 else none
 else none
 else none
 else
 bif q3 then
 bif decide (List.length t2=List.length t2) then
 bif decide (List.length u2=List.length u2) then
 bif decide (List.length w2=List.length w2) then
 some (.inl (((false,dflt .unit,(true,(),dflt (.pair .str (.pair (.int .i64) .unit)))),()),((n2,o2,q2,s2,t2,u2,w2,x2,y2,z2,a3,c3,f3,h3,i3,j3,k3,l3,m3,n3,(),()),())))
 else none
 else none
 else none
 else
 bif decide (List.length t2=List.length t2) then
 bif decide (List.length u2=List.length u2) then
 bif decide (List.length w2=List.length w2) then
 some (.inl (((false,dflt .unit,(false,dflt .unit,(s3,t3,()))),()),((n2,o2,q2,s2,t2,u2,w2,x2,y2,z2,a3,c3,f3,h3,i3,j3,k3,l3,m3,n3,(),()),())))
 else none
 else none
 else none
 else none
 else none
 else none)
 fun ⟨⟨⟨u3,_,⟨w3,_,⟨x3,y3,_⟩⟩⟩,_⟩,⟨⟨m1,n1,o1,q1,s1,t1,u1,w1,x1,y1,z1,a2,c2,f2,h2,i2,j2,k2,l2,m2,_,_⟩,_⟩⟩ =>
 bif u3 then
 bif decide (List.length s1=List.length s1) then
 bif decide (List.length t1=List.length t1) then
 bif decide (List.length u1=List.length u1) then
 some (.inl ((),((m1,n1,o1,q1,s1,t1,u1,w1,x1,y1,z1,a2,c2,f2,h2,i2,j2,k2,l2,m2,(),()),())))
 else none
 else none
 else none
 else
 bif w3 then
 inrO (inrO (bif decide (List.length s1=List.length s1) then
 bif decide (List.length t1=List.length t1) then
 bif decide (List.length u1=List.length u1) then
 some (((m1,n1,o1,q1,s1,t1,u1,w1,x1,y1,z1,a2,c2,f2,h2,i2,j2,k2,l2,m2,(),()),(),(),(),()),(false,dflt (.pair .str (.pair (.int .i64) .unit)),(false,dflt .unit,())))
 else none
 else none
 else none))
 else
 inrO (inrO (bif decide (List.length s1=List.length s1) then
 bif decide (List.length t1=List.length t1) then
 bif decide (List.length u1=List.length u1) then
 some (((m1,n1,o1,q1,s1,t1,u1,w1,x1,y1,z1,a2,c2,f2,h2,i2,j2,k2,l2,m2,(),()),(),(),(),()),(true,(x3,y3,()),dflt (.pair .bool (.pair .unit .unit))))
 else none
 else none
 else none)))
 fun ⟨_,⟨⟨m1,n1,o1,q1,s1,t1,u1,w1,x1,y1,z1,a2,c2,f2,h2,i2,j2,k2,l2,m2,_,_⟩,_⟩⟩ =>
 bif (h != (0:Int)) then
 Option.bind (p113 fu ((⟨#[102,114,111,122,101,110]⟩:ByteArray),(164:Int),())) fun ⟨_,⟨z3,_,⟨a4,c4,_⟩⟩⟩ =>
 bif z3 then
 inrO (bif decide (List.length s1=List.length s1) then
 bif decide (List.length t1=List.length t1) then
 bif decide (List.length u1=List.length u1) then
 some (((m1,n1,o1,q1,s1,t1,u1,w1,x1,y1,z1,a2,c2,f2,h2,i2,j2,k2,l2,m2,(),()),(),(),(),()),(false,dflt (.pair .str (.pair (.int .i64) .unit)),(true,(),dflt .unit)))
 else none
 else none
 else none)
 else
 inrO (bif decide (List.length s1=List.length s1) then
 bif decide (List.length t1=List.length t1) then
 bif decide (List.length u1=List.length u1) then
 some (((m1,n1,o1,q1,s1,t1,u1,w1,x1,y1,z1,a2,c2,f2,h2,i2,j2,k2,l2,m2,(),()),(),(),(),()),(true,(a4,c4,()),dflt (.pair .bool (.pair .unit .unit))))
 else none
 else none
 else none)
 else
 inrO (bif decide (List.length s1=List.length s1) then
 bif decide (List.length t1=List.length t1) then
 bif decide (List.length u1=List.length u1) then
 some (((m1,n1,o1,q1,s1,t1,u1,w1,x1,y1,z1,a2,c2,f2,h2,i2,j2,k2,l2,m2,(),()),(),(),(),()),(false,dflt (.pair .str (.pair (.int .i64) .unit)),(true,(),dflt .unit)))
 else none
 else none
 else none))
 fun ⟨_,_⟩ =>
bif (h != (0:Int)) then
 bif (h != x) then
 Option.bind (p113 fu ((⟨#[102,114,111,122,101,110,32,98,121,32,97,110,111,116,104,101,114,32,112,108,97,110]⟩:ByteArray),(164:Int),())) fun ⟨_,⟨f4,_,⟨h4,i4,_⟩⟩⟩ =>
 bif f4 then
 bif decide (List.length i=List.length i) then
 bif decide (List.length j=List.length j) then
 bif decide (List.length k=List.length k) then
 some (((a,c,f,h,i,j,k,l,m,n,o,q,s,t,u,w,x,y,z,a0,(),()),(),(),(),()),(false,dflt (.pair .str (.pair (.int .i64) .unit)),(true,(),dflt .unit)))
 else none
 else none
 else none
 else
 bif decide (List.length i=List.length i) then
 bif decide (List.length j=List.length j) then
 bif decide (List.length k=List.length k) then
 some (((a,c,f,h,i,j,k,l,m,n,o,q,s,t,u,w,x,y,z,a0,(),()),(),(),(),()),(true,(h4,i4,()),dflt (.pair .bool (.pair .unit .unit))))
 else none
 else none
 else none
 else
 bif decide (List.length i=List.length i) then
 bif decide (List.length j=List.length j) then
 bif decide (List.length k=List.length k) then
 some (((a,c,f,h,i,j,k,l,m,n,o,q,s,t,u,w,x,y,z,a0,(),()),(),(),(),()),(false,dflt (.pair .str (.pair (.int .i64) .unit)),(true,(),dflt .unit)))
 else none
 else none
 else none
else
 bif decide (List.length i=List.length i) then
 bif decide (List.length j=List.length j) then
 bif decide (List.length k=List.length k) then
 some (((a,c,f,h,i,j,k,l,m,n,o,q,s,t,u,w,x,y,z,a0,(),()),(),(),(),()),(false,dflt (.pair .str (.pair (.int .i64) .unit)),(true,(),dflt .unit)))
 else none
 else none
 else none
def e114 (fu:Nat):Ent := ⟨114,(.cons Y9 .nil),(.cons Y10 (.cons .dead (.cons .dead (.cons .dead .nil)))),(.alt (.ifc 101 (.look (.cons (.hole .str) (.cons (.hole (.int .i64)) .nil)))) (.alt (.nilv 1) (.cst 0 227))),p114 fu⟩
def d114 (fu:Nat):DC := (.seq (.region [opD 2 (.mov (.const .nilIface))] [[]] false) (.seq (.region [mvD 7 0,opD 8 (.pure .nilc [(tD 7)]),opD 9 (.faddr 7 (tD 8)),opD 10 (.load true 10 (tD 9)),opD 3 (.alloc 44 10 [vI,vU,vU,vU,vT,vS,vU,vI,vT,vU]),onD (.store 10 (tD 3) (tD 10))] [[],[0],[1],[2],[],[4,3,0,1,2,3,4]] false) (.seq (.region [mvD 11 0,opD 12 (.pure .nilc [(tD 11)]),opD 13 (.faddr 0 (tD 12)),opD 14 (.faddr 3 (tD 13)),opD 15 (.load false 1 (tD 14)),opD 16 (.bin .neq (tD 15) (.const vU)),mvD 4 16] [[],[0],[1],[2],[3],[4],[5,0,1,2,3,4,5]] false) (.seq (.seq (.region [opD 17 (.faddr 0 (tD 3)),opD 18 (.load false 1 (tD 17))] [[],[0]] false) (.block 0 (.join ⟨[],.nil,[],.nil,[0,3,4],[0,1,2,3,5,6,7,88]⟩
 (.block 4 (.join ⟨[],.nil,[(0,97,21)],(.cons Y10 .nil),[4],[1,2,3]⟩
 (.block 3 (.join ⟨[],.nil,[(0,97,21)],(.cons Y10 .nil),[0,4],[1,2,3]⟩
 (.block 2 (.seq (.block 1 (.seq (.seq (.seq (.region [opD 20 (.bin .eql (tD 18) (cD 1)),mvD 19 20] [[],[0]] false) (.cond (.tmp 19) (.exit 1) .skip)) (.seq (.seq (.region [opD 22 (.bin .eql (tD 18) (cD 3)),mvD 21 22] [[],[0]] false) (.cond (.tmp 21) (.exit 2) .skip)) (.seq (.seq (.seq (.region [opD 24 (.bin .eql (tD 18) (cD 2)),mvD 23 24] [[],[0]] false) (.cond (.tmp 23) .skip (.region [opD 25 (.bin .eql (tD 18) (cD 4)),mvD 23 25] [[],[0]] false))) (.cond (.tmp 23) (.exit 3) .skip)) (.seq (.seq (.region [opD 27 (.bin .eql (tD 18) (cD 5)),mvD 26 27] [[],[0]] false) (.cond (.tmp 26) .skip (.region [opD 28 (.bin .eql (tD 18) (cD 6)),mvD 26 28] [[],[0]] false))) (.cond (.tmp 26) (.exit 4) .skip))))) (.exit 0))) (.join ⟨[5],(.cons (.alt (.nilv 1) (.ifc 101 (.look (.cons (.hole .str) (.cons (.hole (.int .i64)) .nil))))) .nil),[(0,97,21)],(.cons Y10 .nil),[0,4],[1,2,3]⟩
 (.region [mvD 29 0,oqD 30 (.call 145 [(tD 29)]) (.ent (e145_1 fu)),mvD 5 30] [[],[0],[1,1,0,1]] false)
 (.seq (.region [mvD 31 5,opD 32 (.pure (.nilq 1 true) [(tD 31)])] [[],[0]] false) (.cond (.tmp 32) (.seq (.region [mvD 33 5,mvD 2 33] [[],[0,0]] false) .ret) .skip)))))
 (.join ⟨[6],(.cons (.alt (.nilv 1) (.alt (.cst 0 227) (.ifc 101 (.look (.cons (.hole .str) (.cons (.hole (.int .i64)) .nil)))))) .nil),[(0,97,21)],(.cons Y10 .nil),[4],[1,2,3]⟩
 (.region [mvD 34 0,oqD 35 (.call 146 [(tD 34)]) (.ent (e146 fu)),mvD 6 35] [[],[0],[1,1,0,1]] false)
 (.seq (.region [mvD 36 6,opD 37 (.pure (.nilq 1 true) [(tD 36)])] [[],[0]] false) (.cond (.tmp 37) (.seq (.region [mvD 38 6,mvD 2 38] [[],[0,0]] false) .ret) .skip)))))
 (.seq (.seq (.region [mvD 39 4] [[]] false) (.cond (.tmp 39) (.seq (.region [oqD 40 (.call 113 [(.const (.string ⟨#[102,114,111,122,101,110]⟩)),(cD 164)]) (.ent (e113 fu)),mvD 2 40] [[],[0,0,0]] false) .ret) .skip)) (.exit 0))))
 (.seq (.seq (.region [mvD 41 4,mvD 42 41,ogD 43 42 true (.mov (tD 0)),ogD 44 42 true (.pure .nilc [(tD 43)]),ogD 45 42 true (.faddr 0 (tD 44)),ogD 46 42 true (.faddr 3 (tD 45)),ogD 47 42 true (.load false 1 (tD 46)),ogD 48 42 true (.faddr 9 (tD 3)),ogD 49 42 true (.load false 1 (tD 48)),ogD 50 42 true (.bin .neq (tD 47) (tD 49)),opD 51 (.pick (tD 42) (tD 50) (.const vB))] [[],[0],[1],[2,1],[3,1],[4,1],[5,1],[1],[7,1],[6,8,1],[1,9]] true) (.cond (.tmp 51) (.seq (.region [oqD 52 (.call 113 [(.const (.string ⟨#[102,114,111,122,101,110,32,98,121,32,97,110,111,116,104,101,114,32,112,108,97,110]⟩)),(cD 164)]) (.ent (e113 fu)),mvD 2 52] [[],[0,0,0]] false) .ret) .skip)) (.exit 0))))) (.seq (.region [opD 2 (.mov (.const .nilIface))] [[]] false) .ret)))))
theorem v114 (fu:Nat):evF fu (d114 fu) rs114 53 (e114 fu).ash (e114 fu).osh (e114 fu).vsh=p114 fu := by kernel_rfl
theorem b114 (fu:Nat):BodyD Tryz.prog 114 53 (d114 fu).erase rs114 := bodyD_mk Tryz.func114 (by kernel_rfl) (by kernel_rfl) (by kernel_rfl) (by kernel_rfl)
theorem g114 (fu:Nat):(e114 fu).Good Tryz.prog := good_by orders (b114 fu) (l := [e145_1 fu,e146 fu,e113 fu,e113 fu]) (by kernel_rfl) ⟨g145_1 fu,g146 fu,g113 fu,g113 fu,trivial⟩ (by kernel_rfl) (v114 fu)
def rs172:List RVx := [(.tmp 2)]
def p172 (_:Nat):(List (Int))×(Unit)→Option ((Unit)×(List (Int))) := fun ⟨a,_⟩ =>
bif ((List.length a:Int)==(0:Int)) then
 some ((),[])
else
 bif decide ((0:Int)≤(List.length a:Int)∧((List.length a:Int):Int)≤(List.length a:Int)∧((List.length a:Int):Int)≤9223372036854775807∧(1:Int) * (List.length a:Int)≤140737488355328) then
 bif decide (Int.toNat (List.length a:Int)=List.length (List.replicate (Int.toNat (List.length a:Int)) (0:Int):List (Int))) then
 bif decide (Int.toNat (List.length a:Int)=List.length (copyL (List.replicate (Int.toNat (List.length a:Int)) (0:Int):List (Int)) 0 (Int.toNat (List.length a:Int)) a)) then
 some ((),(copyL (List.replicate (Int.toNat (List.length a:Int)) (0:Int):List (Int)) 0 (Int.toNat (List.length a:Int)) a))
 else none
 else none
 else none
def e172 (fu:Nat):Ent := ⟨172,(.cons (.hole (.sl (.int .u8))) .nil),.nil,(.own .own 5 (.int .u8)),p172 fu⟩
def d172 (_:Nat):DC := (.seq (.region [opD 2 (.mov (.const vS))] [[]] false) (.seq (.seq (.region [mvD 4 0,opD 5 (.len false (tD 4)),opD 6 (.bin .eql (tD 5) (cD 0))] [[],[0],[1]] false) (.cond (.tmp 6) (.seq (.region [opD 2 (.mov (.const vS))] [[]] false) .ret) .skip)) (.seq (.region [mvD 7 0,opD 8 (.len false (tD 7)),oqD 9 (.make false 5 1 [(.int .u8 0)] 1 (tD 8) (tD 8)) (.ty (.int .u8)),mvD 3 9] [[],[0],[1,1],[2,0,1,2]] false) (.seq (.region [mvD 10 3,mvD 11 0,opD 12 (.copy 1 (tD 10) (tD 11))] [[],[],[0,1]] false) (.seq (.region [mvD 13 3,mvD 2 13] [[],[0,0]] false) .ret)))))
theorem v172 (fu:Nat):evF fu (d172 fu) rs172 14 (e172 fu).ash (e172 fu).osh (e172 fu).vsh=p172 fu := by kernel_rfl
theorem b172 (fu:Nat):BodyD Tryz.prog 172 14 (d172 fu).erase rs172 := bodyD_mk Tryz.func172 (by kernel_rfl) (by kernel_rfl) (by kernel_rfl) (by kernel_rfl)
theorem g172 (fu:Nat):(e172 fu).Good Tryz.prog := good_by orders (b172 fu) (l := []) (by kernel_rfl) trivial (by kernel_rfl) (v172 fu)
def rs165:List RVx := [(.cell 2 true 5)]
def p165 (fu:Nat):((Int)×((ByteArray)×((List (Int))×((Int)×((Int)×(Unit))))))×(Unit)→Option ((Unit)×((Int)×((ByteArray)×((List (Int))×((Int)×((Int)×(Unit))))))) := fun ⟨⟨a,c,f,h,i,_⟩,_⟩ =>
Option.bind (p172 fu (f,())) fun ⟨_,j⟩ =>
bif decide (List.length j=List.length j) then
 some ((),(a,c,j,h,i,()))
else none
def e165 (fu:Nat):Ent := ⟨165,(.cons Y4 .nil),.nil,Y11,p165 fu⟩
def d165 (fu:Nat):DC := (.seq (.region [opD 1 (.box 49 5 (tD 0)),opD 2 (.alloc 49 5 [vU,vT,vS,vU,vU])] [[],[]] false) (.seq (.region [opD 3 (.faddr 2 (tD 1)),opD 4 (.load false 1 (tD 3)),oqD 5 (.call 172 [(tD 4)]) (.ent (e172 fu)),opD 6 (.faddr 2 (tD 1)),onD (.store 1 (tD 6) (tD 5))] [[],[0],[1],[0,1,2],[3,2,2,0,1,2]] false) (.seq (.region [opD 7 (.load true 5 (tD 1)),onD (.store 5 (tD 2) (tD 7))] [[],[0,0]] false) .ret)))
theorem v165 (fu:Nat):evF fu (d165 fu) rs165 8 (e165 fu).ash (e165 fu).osh (e165 fu).vsh=p165 fu := by kernel_rfl
theorem b165 (fu:Nat):BodyD Tryz.prog 165 8 (d165 fu).erase rs165 := bodyD_mk Tryz.func165 (by kernel_rfl) (by kernel_rfl) (by kernel_rfl) (by kernel_rfl)
theorem g165 (fu:Nat):(e165 fu).Good Tryz.prog := good_by orders (b165 fu) (l := [e172 fu]) (by kernel_rfl) ⟨g172 fu,trivial⟩ (by kernel_rfl) (v165 fu)
def rs159:List RVx := [(.tmp 4)]
def p159 (fu:Nat):(List (D_api_Record))×(((Int)×((ByteArray)×((List (Int))×((Int)×((Int)×(Unit))))))×(Unit))→Option (((Unit)×(Unit))×(List (D_api_Record))) := fun ⟨a,⟨c,f,h,i,j,_⟩,_⟩ =>
Option.bind (p165 fu ((c,f,h,i,j,()),())) fun ⟨_,⟨_,k,l,m,n,_⟩⟩ =>
bif decide (List.length l=List.length l) then
 bif decide (List.length a=List.length a) then
 bif decide (List.length a+List.length ([(IntKind.wrap .u64 ((List.length a):Int),k,l,m,n)])≤maxLen∧(List.length a+List.length ([(IntKind.wrap .u64 ((List.length a):Int),k,l,m,n)])) * 64≤140737488355328) then
 bif decide (List.length (a ++ [(IntKind.wrap .u64 ((List.length a):Int),k,l,m,n)])=List.length (a ++ [(IntKind.wrap .u64 ((List.length a):Int),k,l,m,n)])) then
 some (((),()),(a ++ [(IntKind.wrap .u64 ((List.length a):Int),k,l,m,n)]))
 else none
 else none
 else none
else none
def e159 (fu:Nat):Ent := ⟨159,(.cons (.own .own 49 T_api_Record) (.cons Y4 .nil)),(.cons .dead .nil),(.own .own 49 T_api_Record),p159 fu⟩
def d159 (fu:Nat):DC := (.seq (.region [opD 3 (.box 49 5 (tD 1)),opD 4 (.mov (.const vS))] [[],[]] false) (.seq (.region [opD 5 (.load true 5 (tD 3)),oqD 6 (.call 165 [(tD 5)]) (.ent (e165 fu)),onD (.store 5 (tD 3) (tD 6))] [[],[0],[1,1,0,1]] false) (.seq (.region [mvD 7 0,opD 8 (.len false (tD 7)),opD 9 (.conv .u64 (tD 8)),opD 10 (.faddr 0 (tD 3)),onD (.store 1 (tD 10) (tD 9))] [[],[0],[1],[0,1,2],[3,2,0,1,2]] false) (.seq (.region [mvD 11 0,opD 12 (.load true 5 (tD 3)),oqD 13 (.bslice 49 5 1 [vU,vT,vS,vU,vU] [(0,(tD 12))]) (.ty T_api_Record),oqD 14 (.app 49 5 [vU,vT,vS,vU,vU] 64 (tD 11) (tD 13)) (.ty T_api_Record),mvD 4 14] [[],[],[1],[0,2],[3,3,0,1,2,3]] false) .ret))))
theorem v159 (fu:Nat):evF fu (d159 fu) rs159 15 (e159 fu).ash (e159 fu).osh (e159 fu).vsh=p159 fu := by kernel_rfl
theorem b159 (fu:Nat):BodyD Tryz.prog 159 15 (d159 fu).erase rs159 := bodyD_mk Tryz.func159 (by kernel_rfl) (by kernel_rfl) (by kernel_rfl) (by kernel_rfl)
theorem g159 (fu:Nat):(e159 fu).Good Tryz.prog := good_by orders (b159 fu) (l := [e165 fu]) (by kernel_rfl) ⟨g165 fu,trivial⟩ (by kernel_rfl) (v159 fu)
def rs147:List RVx := [(.tmp 4),(.tmp 5),(.tmp 6)]
def p147 (fu:Nat):(List (D_api_Record))×(((Int)×((ByteArray)×((List (Int))×((Int)×((Int)×(Unit))))))×(Unit))→Option ((Unit)×((List (D_api_Record))×((Int)×((Int)×(Unit))))) := fun ⟨a,⟨c,f,h,i,j,_⟩,_⟩ =>
Option.bind (p37 fu (a,())) fun ⟨_,k⟩ =>
bif !k then
 some ((),([],(0:Int),(1:Int),()))
else
 Option.bind (p99 fu ((c,f,h,i,j,()),())) fun ⟨_,l⟩ =>
 bif (l != (0:Int)) then
 some ((),([],(0:Int),l,()))
 else
 bif decide ((List.length a:Int)≥(4096:Int)) then
 some ((),([],(0:Int),(143:Int),()))
 else
 Option.bind (p110 fu (a,())) fun ⟨_,m⟩ =>
 bif decide (List.length m=List.length m) then
 Option.bind (p159 fu (m,(c,f,h,i,j,()),())) fun ⟨⟨_,_⟩,n⟩ =>
 bif decide (List.length n=List.length n) then
 some ((),(n,IntKind.wrap .u64 (List.length a:Int),(0:Int),()))
 else none
 else none
def e147 (fu:Nat):Ent := ⟨147,(.cons (.hole (.sl T_api_Record)) (.cons Y4 .nil)),.nil,(.tup 3 (.cons (.own .own 49 T_api_Record) (.cons (.hole (.int .u64)) (.cons (.hole (.int .i64)) .nil)))),p147 fu⟩
def d147 (fu:Nat):DC := (.seq (.region [opD 3 (.box 49 5 (tD 1)),opD 4 (.mov (.const vS)),opD 5 (.mov (.const vU)),opD 6 (.mov (cD 0))] [[],[],[1],[2]] false) (.seq (.seq (.region [mvD 8 0,oqD 9 (.call 37 [(tD 8)]) (.ent (e37 fu)),opD 10 (.not (tD 9))] [[],[0],[1]] false) (.cond (.tmp 10) (.seq (.region [opD 4 (.mov (.const vS)),opD 5 (.mov (.const vU)),opD 6 (.mov (cD 1))] [[],[0,0],[1,0,1]] false) .ret) .skip)) (.seq (.seq (.region [opD 11 (.load true 5 (tD 3)),oqD 12 (.call 99 [(tD 11)]) (.ent (e99 fu)),mvD 7 12] [[],[0],[1,1,0,1]] false) (.seq (.region [mvD 13 7,opD 14 (.bin .neq (tD 13) (cD 0))] [[],[0]] false) (.cond (.tmp 14) (.seq (.region [mvD 15 7,opD 4 (.mov (.const vS)),opD 5 (.mov (.const vU)),mvD 6 15] [[],[],[1,1],[0,2,0,1,2]] false) .ret) .skip))) (.seq (.seq (.region [mvD 16 0,opD 17 (.len false (tD 16)),opD 18 (.bin .geq (tD 17) (cD 4096))] [[],[0],[1]] false) (.cond (.tmp 18) (.seq (.region [opD 4 (.mov (.const vS)),opD 5 (.mov (.const vU)),opD 6 (.mov (cD 143))] [[],[0,0],[1,0,1]] false) .ret) .skip)) (.seq (.region [mvD 19 0,oqD 20 (.call 110 [(tD 19)]) (.ent (e110 fu)),opD 21 (.load true 5 (tD 3)),oqD 22 (.call 159 [(tD 20),(tD 21)]) (.ent (e159 fu)),mvD 23 0,opD 24 (.len false (tD 23)),opD 25 (.conv .u64 (tD 24)),mvD 4 22,mvD 5 25,opD 6 (.mov (cD 0))] [[],[0],[],[1,2,1],[],[4],[5],[3,3,0,1,2,3],[6,7,0,1,2,3,4,5,6,7],[8,0,1,2,3,4,5,6,7,8]] true) .ret)))))
theorem v147 (fu:Nat):evF fu (d147 fu) rs147 26 (e147 fu).ash (e147 fu).osh (e147 fu).vsh=p147 fu := by kernel_rfl
theorem b147 (fu:Nat):BodyD Tryz.prog 147 26 (d147 fu).erase rs147 := bodyD_mk Tryz.func147 (by kernel_rfl) (by kernel_rfl) (by kernel_rfl) (by kernel_rfl)
theorem g147 (fu:Nat):(e147 fu).Good Tryz.prog := good_by orders (b147 fu) (l := [e37 fu,e99 fu,e110 fu,e159 fu]) (by kernel_rfl) ⟨g37 fu,g99 fu,g110 fu,g159 fu,trivial⟩ (by kernel_rfl) (v147 fu)
def rs166:List RVx := [(.cell 4 true 4)]
def p166 (_:Nat):((Int)×((Int)×((Bool)×((Int)×(Unit)))))×(((Int)×((Int)×((Bool)×((Int)×(Unit)))))×(Unit))→Option ((Unit)×((Int)×((Int)×((Bool)×((Int)×(Unit)))))) := fun ⟨⟨_,_,_,_,_⟩,⟨a,c,f,h,_⟩,_⟩ =>
some ((),(a,c,f,h,()))
def e166 (fu:Nat):Ent := ⟨166,(.cons (.agg 4 (.cons (.hole (.int .u64)) (.cons (.hole (.int .u64)) (.cons (.hole .bool) (.cons (.hole (.int .u64)) .nil))))) (.cons (.agg 4 (.cons (.hole (.int .u64)) (.cons (.hole (.int .u64)) (.cons (.hole .bool) (.cons (.hole (.int .u64)) .nil))))) .nil)),.nil,(.agg 4 (.cons (.hole (.int .u64)) (.cons (.hole (.int .u64)) (.cons (.hole .bool) (.cons (.hole (.int .u64)) .nil))))),p166 fu⟩
def d166 (_:Nat):DC := (.seq (.region [opD 2 (.box 77 4 (tD 0)),opD 3 (.box 77 4 (tD 1)),opD 4 (.alloc 77 4 [vU,vU,vB,vU])] [[],[],[]] false) (.seq (.region [opD 5 (.load true 4 (tD 3)),onD (.store 4 (tD 4) (tD 5))] [[],[0,0]] false) .ret))
theorem v166 (fu:Nat):evF fu (d166 fu) rs166 6 (e166 fu).ash (e166 fu).osh (e166 fu).vsh=p166 fu := by kernel_rfl
theorem b166 (fu:Nat):BodyD Tryz.prog 166 6 (d166 fu).erase rs166 := bodyD_mk Tryz.func166 (by kernel_rfl) (by kernel_rfl) (by kernel_rfl) (by kernel_rfl)
theorem g166 (fu:Nat):(e166 fu).Good Tryz.prog := good_by orders (b166 fu) (l := []) (by kernel_rfl) trivial (by kernel_rfl) (v166 fu)
def rs168:List RVx := [(.tmp 8)]
def p168 (fu:Nat):(List (D_api_Producer))×((List (D_api_Producer))×(((Unit)×(Unit))×(((Unit)×(Unit))×(Unit))))→Option ((Unit)×(List (D_api_Producer))) := fun ⟨a,c,⟨_,_⟩,⟨_,_⟩,_⟩ =>
orK (E := ((List (D_api_Producer))×((List (D_api_Producer))×((List (D_api_Producer))×(Unit))))×(Unit))
 (loopO (S := ((List (D_api_Producer))×((List (D_api_Producer))×((List (D_api_Producer))×(Unit))))×(Unit)) fu (fun ⟨⟨f,h,i,_⟩,_⟩ =>
 bif decide ((List.length f:Int)>(0:Int)) then
 bif decide ((List.length h:Int)>(0:Int)) then
 bif decide ((0:Int)≤0∧0<(List.length f:Int)) then
 bif decide (0<List.length f) then
 bif decide ((0:Int)≤0∧0<(List.length h:Int)) then
 bif decide (0<List.length h) then
 Option.bind (p100 fu (((List.getD f 0 (dflt T_api_Producer)).1,((List.getD f 0 (dflt T_api_Producer)).2).1,(((List.getD f 0 (dflt T_api_Producer)).2).2).1,(((List.getD f 0 (dflt T_api_Producer)).2).2).2,()),((List.getD h 0 (dflt T_api_Producer)).1,((List.getD h 0 (dflt T_api_Producer)).2).1,(((List.getD h 0 (dflt T_api_Producer)).2).2).1,(((List.getD h 0 (dflt T_api_Producer)).2).2).2,()),())) fun ⟨_,j⟩ =>
 bif decide (j<(0:Int)) then
 bif decide ((0:Int)≤0∧0<(List.length f:Int)) then
 bif decide (0<List.length f) then
 bif decide (List.length i=List.length i) then
 bif decide (List.length i+List.length ([((List.getD f 0 (dflt T_api_Producer)).1,((List.getD f 0 (dflt T_api_Producer)).2).1,(((List.getD f 0 (dflt T_api_Producer)).2).2).1,(((List.getD f 0 (dflt T_api_Producer)).2).2).2)])≤maxLen∧(List.length i+List.length ([((List.getD f 0 (dflt T_api_Producer)).1,((List.getD f 0 (dflt T_api_Producer)).2).1,(((List.getD f 0 (dflt T_api_Producer)).2).2).1,(((List.getD f 0 (dflt T_api_Producer)).2).2).2)])) * 32≤140737488355328) then
 bif decide (1≤List.length f) then
 bif decide (List.length (i ++ [((List.getD f 0 (dflt T_api_Producer)).1,((List.getD f 0 (dflt T_api_Producer)).2).1,(((List.getD f 0 (dflt T_api_Producer)).2).2).1,(((List.getD f 0 (dflt T_api_Producer)).2).2).2)])=List.length (i ++ [((List.getD f 0 (dflt T_api_Producer)).1,((List.getD f 0 (dflt T_api_Producer)).2).1,(((List.getD f 0 (dflt T_api_Producer)).2).2).1,(((List.getD f 0 (dflt T_api_Producer)).2).2).2)])) then
 some (.inl ((List.drop 1 f,h,(i ++ [((List.getD f 0 (dflt T_api_Producer)).1,((List.getD f 0 (dflt T_api_Producer)).2).1,(((List.getD f 0 (dflt T_api_Producer)).2).2).1,(((List.getD f 0 (dflt T_api_Producer)).2).2).2)]),()),()))
 else none
 else none
 else none
 else none
 else none
 else none
 else
 bif decide (j>(0:Int)) then
 bif decide ((0:Int)≤0∧0<(List.length h:Int)) then
 bif decide (0<List.length h) then
 bif decide (List.length i=List.length i) then
 bif decide (List.length i+List.length ([((List.getD h 0 (dflt T_api_Producer)).1,((List.getD h 0 (dflt T_api_Producer)).2).1,(((List.getD h 0 (dflt T_api_Producer)).2).2).1,(((List.getD h 0 (dflt T_api_Producer)).2).2).2)])≤maxLen∧(List.length i+List.length ([((List.getD h 0 (dflt T_api_Producer)).1,((List.getD h 0 (dflt T_api_Producer)).2).1,(((List.getD h 0 (dflt T_api_Producer)).2).2).1,(((List.getD h 0 (dflt T_api_Producer)).2).2).2)])) * 32≤140737488355328) then
 bif decide (1≤List.length h) then
 bif decide (List.length (i ++ [((List.getD h 0 (dflt T_api_Producer)).1,((List.getD h 0 (dflt T_api_Producer)).2).1,(((List.getD h 0 (dflt T_api_Producer)).2).2).1,(((List.getD h 0 (dflt T_api_Producer)).2).2).2)])=List.length (i ++ [((List.getD h 0 (dflt T_api_Producer)).1,((List.getD h 0 (dflt T_api_Producer)).2).1,(((List.getD h 0 (dflt T_api_Producer)).2).2).1,(((List.getD h 0 (dflt T_api_Producer)).2).2).2)])) then
 some (.inl ((f,List.drop 1 h,(i ++ [((List.getD h 0 (dflt T_api_Producer)).1,((List.getD h 0 (dflt T_api_Producer)).2).1,(((List.getD h 0 (dflt T_api_Producer)).2).2).1,(((List.getD h 0 (dflt T_api_Producer)).2).2).2)]),()),()))
 else none
 else none
 else none
 else none
 else none
 else none
 else
 bif decide ((0:Int)≤0∧0<(List.length f:Int)) then
 bif decide (0<List.length f) then
 bif decide ((0:Int)≤0∧0<(List.length h:Int)) then
 bif decide (0<List.length h) then
 Option.bind (p166 fu (((List.getD f 0 (dflt T_api_Producer)).1,((List.getD f 0 (dflt T_api_Producer)).2).1,(((List.getD f 0 (dflt T_api_Producer)).2).2).1,(((List.getD f 0 (dflt T_api_Producer)).2).2).2,()),((List.getD h 0 (dflt T_api_Producer)).1,((List.getD h 0 (dflt T_api_Producer)).2).1,(((List.getD h 0 (dflt T_api_Producer)).2).2).1,(((List.getD h 0 (dflt T_api_Producer)).2).2).2,()),())) fun ⟨_,⟨k,l,m,n,_⟩⟩ =>
 bif decide (List.length i=List.length i) then
 bif decide (List.length i+List.length ([(k,l,m,n)])≤maxLen∧(List.length i+List.length ([(k,l,m,n)])) * 32≤140737488355328) then
 bif decide (1≤List.length f) then
 bif decide (1≤List.length h) then
 bif decide (List.length (i ++ [(k,l,m,n)])=List.length (i ++ [(k,l,m,n)])) then
 some (.inl ((List.drop 1 f,List.drop 1 h,(i ++ [(k,l,m,n)]),()),()))
 else none
 else none
 else none
 else none
 else none
 else none
 else none
 else none
 else none
 else none
 else none
 else none
 else none
 else
 inrO (bif decide (List.length i=List.length i) then
 some (.inl ((f,h,i,()),()))
 else none)
 else
 inrO (bif decide (List.length i=List.length i) then
 some (.inl ((f,h,i,()),()))
 else none))
 ((a,c,[],()),()))
 fun ⟨⟨f,h,i,_⟩,_⟩ =>
bif decide (List.length i=List.length i) then
 bif decide (List.length i+List.length f≤maxLen∧(List.length i+List.length f) * 32≤140737488355328) then
 bif decide (List.length (i ++ f)=List.length (i ++ f)) then
 bif decide (List.length (i ++ f)+List.length h≤maxLen∧(List.length (i ++ f)+List.length h) * 32≤140737488355328) then
 bif decide (List.length ((i ++ f) ++ h)=List.length ((i ++ f) ++ h)) then
 some ((),((i ++ f) ++ h))
 else none
 else none
 else none
 else none
else none
def e168 (fu:Nat):Ent := ⟨168,(.cons (.hole (.sl T_api_Producer)) (.cons (.hole (.sl T_api_Producer)) (.cons (.clo 100 0 .nil 0 .nil) (.cons (.clo 166 0 .nil 0 .nil) .nil)))),.nil,(.own .own 77 T_api_Producer),p168 fu⟩
def d168 (fu:Nat):DC := (.seq (.region [opD 8 (.mov (.const vS))] [[]] false) (.seq (.region [opD 9 (.mov (.const vS))] [[]] false) (.join ⟨[0,1,9],(.cons (.hole (.sl T_api_Producer)) (.cons (.hole (.sl T_api_Producer)) (.cons (.own .own 77 T_api_Producer) .nil))),[],.nil,[],[]⟩
 (.block 0 (.loop ⟨[0,1,9],(.cons (.hole (.sl T_api_Producer)) (.cons (.hole (.sl T_api_Producer)) (.cons (.own .own 77 T_api_Producer) .nil))),[],.nil,[2,3],[]⟩
 (.seq (.seq (.region [mvD 11 0,opD 12 (.len false (tD 11)),opD 13 (.bin .gtr (tD 12) (cD 0)),mvD 14 13,ogD 15 14 true (.mov (tD 1)),ogD 16 14 true (.len false (tD 15)),ogD 17 14 true (.bin .gtr (tD 16) (cD 0)),opD 18 (.pick (tD 14) (tD 17) (.const vB))] [[],[0],[1],[2],[3],[4,3],[5,3],[3,6]] false) (.cond (.tmp 18) .skip (.exit 0))) (.block 1 (.seq (.region [mvD 19 2,mvD 20 0,opD 21 (.iaddr 4 (tD 20) (cD 0)),opD 22 (.load true 4 (tD 21)),mvD 23 1,opD 24 (.iaddr 4 (tD 23) (cD 0)),opD 25 (.load true 4 (tD 24)),oqD 26 (.callv (tD 19) [(tD 22),(tD 25)]) (.ent (e100 fu)),mvD 10 26] [[],[],[1],[2],[],[4],[5],[0,3,6],[7,7,0,1,2,3,4,5,6,7]] true) (.block 2 (.seq (.region [mvD 43 10,opD 44 (.bin .lss (tD 43) (cD 0)),mvD 42 44] [[],[0],[1]] false) (.cond (.tmp 42) (.region [mvD 45 9,mvD 46 0,opD 47 (.iaddr 4 (tD 46) (cD 0)),opD 48 (.load true 4 (tD 47)),oqD 49 (.bslice 77 4 1 [vU,vU,vB,vU] [(0,(tD 48))]) (.ty T_api_Producer),oqD 50 (.app 77 4 [vU,vU,vB,vU] 32 (tD 45) (tD 49)) (.ty T_api_Producer),mvD 51 0,opD 52 (.slc 4 (tD 51) (some (cD 1)) none),mvD 9 50,mvD 0 52] [[],[],[1],[2],[3],[0,4],[],[6],[5,5,0,1,2,3,4,5],[7,8,0,1,2,3,4,5,6,7,8]] true) (.seq (.region [mvD 54 10,opD 55 (.bin .gtr (tD 54) (cD 0)),mvD 53 55] [[],[0],[1]] false) (.cond (.tmp 53) (.region [mvD 56 9,mvD 57 1,opD 58 (.iaddr 4 (tD 57) (cD 0)),opD 59 (.load true 4 (tD 58)),oqD 60 (.bslice 77 4 1 [vU,vU,vB,vU] [(0,(tD 59))]) (.ty T_api_Producer),oqD 61 (.app 77 4 [vU,vU,vB,vU] 32 (tD 56) (tD 60)) (.ty T_api_Producer),mvD 62 1,opD 63 (.slc 4 (tD 62) (some (cD 1)) none),mvD 9 61,mvD 1 63] [[],[],[1],[2],[3],[0,4],[],[6],[5,5,0,1,2,3,4,5],[7,8,0,1,2,3,4,5,6,7,8]] true) (.region [mvD 27 9,mvD 28 3,mvD 29 0,opD 30 (.iaddr 4 (tD 29) (cD 0)),opD 31 (.load true 4 (tD 30)),mvD 32 1,opD 33 (.iaddr 4 (tD 32) (cD 0)),opD 34 (.load true 4 (tD 33)),oqD 35 (.callv (tD 28) [(tD 31),(tD 34)]) (.ent (e166 fu)),oqD 36 (.bslice 77 4 1 [vU,vU,vB,vU] [(0,(tD 35))]) (.ty T_api_Producer),oqD 37 (.app 77 4 [vU,vU,vB,vU] 32 (tD 27) (tD 36)) (.ty T_api_Producer),mvD 38 0,opD 39 (.slc 4 (tD 38) (some (cD 1)) none),mvD 40 1,opD 41 (.slc 4 (tD 40) (some (cD 1)) none),mvD 9 37,mvD 0 39,mvD 1 41] [[],[],[],[2],[3],[],[5],[6],[1,4,7],[8],[0,9,8],[],[11],[],[13],[10,10,0,1,2,3,4,5,6,7,8,9,10],[12,15,0,1,2,3,4,5,6,7,8,9,10,11,12,15],[14,16,0,1,2,3,4,5,6,7,8,9,10,11,12,13,14,15,16]] true)))))))))))
 (.seq (.region [mvD 64 9,mvD 65 0,oqD 66 (.app 77 4 [vU,vU,vB,vU] 32 (tD 64) (tD 65)) (.ty T_api_Producer),mvD 67 1,oqD 68 (.app 77 4 [vU,vU,vB,vU] 32 (tD 66) (tD 67)) (.ty T_api_Producer),mvD 8 68] [[],[],[0,1],[],[2,3,2],[4,4,0,1,2,3,4]] false) .ret))))
theorem v168 (fu:Nat):evF fu (d168 fu) rs168 69 (e168 fu).ash (e168 fu).osh (e168 fu).vsh=p168 fu := by kernel_rfl
theorem b168 (fu:Nat):BodyD Tryz.prog 168 69 (d168 fu).erase rs168 := bodyD_mk Tryz.func168 (by kernel_rfl) (by kernel_rfl) (by kernel_rfl) (by kernel_rfl)
theorem g168 (fu:Nat):(e168 fu).Good Tryz.prog := good_by orders (b168 fu) (l := [e100 fu,e166 fu]) (by kernel_rfl) ⟨g100 fu,g166 fu,trivial⟩ (by kernel_rfl) (v168 fu)
def rs167:List RVx := [(.tmp 2),(.tmp 3)]
def p167_1 (_:Nat):(List (D_api_Producer))×(Unit)→Option (((Unit)×(Unit))×((List (D_api_Producer))×((Int)×(Unit)))) := fun ⟨a,_⟩ =>
bif decide (((List.length a):Int)>(256:Int)) then
 some (((),()),([],(153:Int),()))
else
 bif decide (List.length a=List.length a) then
 some (((),()),(a,(0:Int),()))
 else none
def e167_1 (fu:Nat):Ent := ⟨167,(.cons (.own .own 77 T_api_Producer) .nil),(.cons .dead .nil),(.tup 2 (.cons (.own .own 77 T_api_Producer) (.cons (.hole (.int .i64)) .nil))),p167_1 fu⟩
def d167_1 (_:Nat):DC := (.seq (.region [opD 2 (.mov (.const vS)),opD 3 (.mov (cD 0))] [[],[0]] false) (.seq (.seq (.region [mvD 4 0,opD 5 (.len false (tD 4)),opD 6 (.bin .gtr (tD 5) (cD 256))] [[],[0],[1]] false) (.cond (.tmp 6) (.seq (.region [opD 2 (.mov (.const vS)),opD 3 (.mov (cD 153))] [[],[0,0]] false) .ret) .skip)) (.seq (.region [mvD 7 0,mvD 2 7,opD 3 (.mov (cD 0))] [[],[0,0],[1,0,1]] false) .ret)))
theorem v167_1 (fu:Nat):evF fu (d167_1 fu) rs167 8 (e167_1 fu).ash (e167_1 fu).osh (e167_1 fu).vsh=p167_1 fu := by kernel_rfl
theorem b167_1 (fu:Nat):BodyD Tryz.prog 167 8 (d167_1 fu).erase rs167 := bodyD_mk Tryz.func167 (by kernel_rfl) (by kernel_rfl) (by kernel_rfl) (by kernel_rfl)
theorem g167_1 (fu:Nat):(e167_1 fu).Good Tryz.prog := good_by orders (b167_1 fu) (l := []) (by kernel_rfl) trivial (by kernel_rfl) (v167_1 fu)
def rs160:List RVx := [(.tmp 4),(.tmp 5)]
def p160 (fu:Nat):(List (D_api_Producer))×(((Int)×((Int)×((Bool)×((Int)×(Unit)))))×(Unit))→Option ((Unit)×((List (D_api_Producer))×((Int)×(Unit)))) := fun ⟨a,⟨c,f,h,i,_⟩,_⟩ =>
Option.bind (p38 fu (a,())) fun ⟨_,j⟩ =>
bif !j then
 some ((),([],(1:Int),()))
else
 Option.bind (p157 fu (a,c,f,())) fun ⟨_,⟨k,_,_⟩⟩ =>
 bif (k==(4:Int)) then
 some ((),([],(151:Int),()))
 else
 bif (k==(2:Int)) then
 some ((),([],(152:Int),()))
 else
 bif (k==(3:Int)) then
 some ((),([],(152:Int),()))
 else
 Option.bind (p168 fu (a,[(c,f,h,i)],((),()),((),()),())) fun ⟨_,l⟩ =>
 bif decide (List.length l=List.length l) then
 Option.bind (p167_1 fu (l,())) fun ⟨⟨_,_⟩,⟨m,n,_⟩⟩ =>
 bif decide (List.length m=List.length m) then
 some ((),(m,n,()))
 else none
 else none
def e160 (fu:Nat):Ent := ⟨160,(.cons (.hole (.sl T_api_Producer)) (.cons (.agg 4 (.cons (.hole (.int .u64)) (.cons (.hole (.int .u64)) (.cons (.hole .bool) (.cons (.hole (.int .u64)) .nil))))) .nil)),.nil,(.tup 2 (.cons (.own .own 77 T_api_Producer) (.cons (.hole (.int .i64)) .nil))),p160 fu⟩
def d160 (fu:Nat):DC := (.seq (.region [opD 3 (.box 77 4 (tD 1)),opD 4 (.mov (.const vS)),opD 5 (.mov (cD 0))] [[],[],[1]] false) (.seq (.seq (.region [mvD 9 0,oqD 10 (.call 38 [(tD 9)]) (.ent (e38 fu)),opD 11 (.not (tD 10))] [[],[0],[1]] false) (.cond (.tmp 11) (.seq (.region [opD 4 (.mov (.const vS)),opD 5 (.mov (cD 1))] [[],[0,0]] false) .ret) .skip)) (.seq (.seq (.region [mvD 13 0,opD 14 (.faddr 0 (tD 3)),opD 15 (.load false 1 (tD 14)),opD 16 (.faddr 1 (tD 3)),opD 17 (.load false 1 (tD 16)),oqD 18 (.call 157 [(tD 13),(tD 15),(tD 17)]) (.ent (e157 fu)),mvD 12 18,opD 19 (.ext (tD 12) 0),opD 20 (.ext (tD 12) 1),mvD 6 19,mvD 7 20] [[],[],[1],[],[3],[0,2,4],[5],[6],[6],[7,5,0,1,2,3,4,5,6,7],[8,9,0,1,2,3,4,5,6,7,8,9]] false) (.seq (.region [mvD 21 6] [[]] false) (.block 0 (.seq (.region [opD 23 (.bin .eql (tD 21) (cD 4)),mvD 22 23] [[],[0]] false) (.cond (.tmp 22) (.seq (.region [opD 4 (.mov (.const vS)),opD 5 (.mov (cD 151))] [[],[0,0]] false) .ret) (.seq (.seq (.region [opD 25 (.bin .eql (tD 21) (cD 2)),mvD 24 25] [[],[0]] false) (.cond (.tmp 24) .skip (.region [opD 26 (.bin .eql (tD 21) (cD 3)),mvD 24 26] [[],[0]] false))) (.cond (.tmp 24) (.seq (.region [opD 4 (.mov (.const vS)),opD 5 (.mov (cD 152))] [[],[0,0]] false) .ret) .skip))))))) (.seq (.region [opD 8 (.mov (.func 166))] [[]] false) (.seq (.region [mvD 27 0,opD 28 (.load true 4 (tD 3)),oqD 29 (.bslice 77 4 1 [vU,vU,vB,vU] [(0,(tD 28))]) (.ty T_api_Producer),mvD 30 8,oqD 31 (.call 168 [(tD 27),(tD 29),(.func 100),(tD 30)]) (.ent (e168 fu)),oqD 32 (.call 167 [(tD 31)]) (.ent (e167_1 fu)),opD 33 (.ext (tD 32) 0),opD 34 (.ext (tD 32) 1),mvD 4 33,mvD 5 34] [[],[],[1],[],[0,2,3],[4,4],[5],[5],[6,5,0,1,2,3,4,5,6,7],[7,8,0,1,2,3,4,5,6,7,8]] false) .ret)))))
theorem v160 (fu:Nat):evF fu (d160 fu) rs160 35 (e160 fu).ash (e160 fu).osh (e160 fu).vsh=p160 fu := by kernel_rfl
theorem b160 (fu:Nat):BodyD Tryz.prog 160 35 (d160 fu).erase rs160 := bodyD_mk Tryz.func160 (by kernel_rfl) (by kernel_rfl) (by kernel_rfl) (by kernel_rfl)
theorem g160 (fu:Nat):(e160 fu).Good Tryz.prog := good_by orders (b160 fu) (l := [e38 fu,e157 fu,e168 fu,e167_1 fu]) (by kernel_rfl) ⟨g38 fu,g157 fu,g168 fu,g167_1 fu,trivial⟩ (by kernel_rfl) (v160 fu)
def rs148:List RVx := [(.tmp 8),(.tmp 9)]
def p148 (fu:Nat):(List (D_api_Producer))×((Int)×((Int)×((Int)×(Unit))))→Option ((Unit)×((List (D_api_Producer))×((Int)×(Unit)))) := fun ⟨a,c,f,h,_⟩ =>
Option.bind (p160 fu (a,(c,f,true,h,()),())) fun ⟨_,⟨i,j,_⟩⟩ =>
bif decide (List.length i=List.length i) then
 some ((),(i,j,()))
else none
def e148 (fu:Nat):Ent := ⟨148,(.cons (.hole (.sl T_api_Producer)) (.cons (.hole (.int .u64)) (.cons (.hole (.int .u64)) (.cons (.hole (.int .u64)) .nil)))),.nil,(.tup 2 (.cons (.own .own 77 T_api_Producer) (.cons (.hole (.int .i64)) .nil))),p148 fu⟩
def d148 (fu:Nat):DC := (.seq (.region [opD 8 (.mov (.const vS)),opD 9 (.mov (cD 0))] [[],[0]] false) (.seq (.region [mvD 10 0,mvD 11 1,mvD 12 2,mvD 13 3,opD 14 (.build 4 [vU,vU,vB,vU] [(0,(1,(tD 11))),(1,(1,(tD 12))),(2,(1,(.const (.bool true)))),(3,(1,(tD 13)))]),oqD 15 (.call 160 [(tD 10),(tD 14)]) (.ent (e160 fu)),opD 16 (.ext (tD 15) 0),opD 17 (.ext (tD 15) 1),mvD 8 16,mvD 9 17] [[],[],[],[],[1,2,3],[0,4],[5],[5],[6,5,0,1,2,3,4,5,6,7],[7,8,0,1,2,3,4,5,6,7,8]] false) .ret))
theorem v148 (fu:Nat):evF fu (d148 fu) rs148 18 (e148 fu).ash (e148 fu).osh (e148 fu).vsh=p148 fu := by kernel_rfl
theorem b148 (fu:Nat):BodyD Tryz.prog 148 18 (d148 fu).erase rs148 := bodyD_mk Tryz.func148 (by kernel_rfl) (by kernel_rfl) (by kernel_rfl) (by kernel_rfl)
theorem g148 (fu:Nat):(e148 fu).Good Tryz.prog := good_by orders (b148 fu) (l := [e160 fu]) (by kernel_rfl) ⟨g160 fu,trivial⟩ (by kernel_rfl) (v148 fu)
def rs115:List RVx := [(.tmp 2)]
def p115 (fu:Nat):(Z0)×(Unit)→Option (((Z0)×((Unit)×((Unit)×((Unit)×(Unit)))))×((Bool)×((Unit)×((ByteArray)×((Int)×(Unit)))))) := fun ⟨⟨a,c,f,h,i,j,k,l,m,n,o,q,s,t,u,w,x,y,z,a0,_,_⟩,_⟩ =>
bif decide (List.length i=List.length i) then
 Option.bind (p147 fu (i,((0:Int),q,s,n,o,()),())) fun ⟨_,⟨c0,f0,h0,_⟩⟩ =>
 bif (h0 != (0:Int)) then
 Option.bind (p113 fu ((⟨#[97,32,114,101,99,111,114,100]⟩:ByteArray),h0,())) fun ⟨_,⟨i0,_,⟨j0,k0,_⟩⟩⟩ =>
 bif i0 then
 bif decide (List.length i=List.length i) then
 bif decide (List.length j=List.length j) then
 bif decide (List.length k=List.length k) then
 some (((a,c,f,h,i,j,k,l,m,n,o,q,s,t,u,w,x,y,z,a0,(),()),(),(),(),()),(true,(),dflt (.pair .str (.pair (.int .i64) .unit))))
 else none
 else none
 else none
 else
 bif decide (List.length i=List.length i) then
 bif decide (List.length j=List.length j) then
 bif decide (List.length k=List.length k) then
 some (((a,c,f,h,i,j,k,l,m,n,o,q,s,t,u,w,x,y,z,a0,(),()),(),(),(),()),(false,dflt .unit,(j0,k0,())))
 else none
 else none
 else none
 else
 bif decide (List.length j=List.length j) then
 Option.bind (p148 fu (j,n,o,f0,())) fun ⟨_,⟨l0,m0,_⟩⟩ =>
 bif (m0 != (0:Int)) then
 Option.bind (p113 fu ((⟨#[97,32,112,114,111,100,117,99,101,114]⟩:ByteArray),m0,())) fun ⟨_,⟨n0,_,⟨o0,q0,_⟩⟩⟩ =>
 bif n0 then
 bif decide (List.length i=List.length i) then
 bif decide (List.length j=List.length j) then
 bif decide (List.length k=List.length k) then
 some (((a,c,f,h,i,j,k,l,m,n,o,q,s,t,u,w,x,y,z,a0,(),()),(),(),(),()),(true,(),dflt (.pair .str (.pair (.int .i64) .unit))))
 else none
 else none
 else none
 else
 bif decide (List.length i=List.length i) then
 bif decide (List.length j=List.length j) then
 bif decide (List.length k=List.length k) then
 some (((a,c,f,h,i,j,k,l,m,n,o,q,s,t,u,w,x,y,z,a0,(),()),(),(),(),()),(false,dflt .unit,(o0,q0,())))
 else none
 else none
 else none
 else
 bif decide (List.length c0=List.length c0) then
 bif decide (List.length l0=List.length l0) then
 bif decide (List.length k=List.length k) then
 some (((a,c,f,h,c0,l0,k,l,m,n,o,q,s,t,u,w,x,y,f0,a0,(),()),(),(),(),()),(true,(),dflt (.pair .str (.pair (.int .i64) .unit))))
 else none
 else none
 else none
 else none
else none
def e115 (fu:Nat):Ent := ⟨115,(.cons Y9 .nil),(.cons Y12 (.cons .dead (.cons .dead (.cons .dead .nil)))),(.alt (.nilv 1) (.ifc 101 (.look (.cons (.hole .str) (.cons (.hole (.int .i64)) .nil))))),p115 fu⟩
def d115 (fu:Nat):DC := (.seq (.region [opD 2 (.mov (.const .nilIface))] [[]] false) (.seq (.region [mvD 9 0,opD 10 (.pure .nilc [(tD 9)]),opD 11 (.faddr 7 (tD 10)),opD 12 (.load true 10 (tD 11)),opD 3 (.alloc 44 10 [vI,vU,vU,vU,vT,vS,vU,vI,vT,vU]),onD (.store 10 (tD 3) (tD 12))] [[],[0],[1],[2],[],[4,3,0,1,2,3,4]] false) (.seq (.region [opD 13 (.faddr 4 (tD 3)),opD 14 (.load false 1 (tD 13)),opD 15 (.faddr 5 (tD 3)),opD 16 (.load false 1 (tD 15)),opD 17 (.faddr 2 (tD 3)),opD 18 (.load false 1 (tD 17)),opD 19 (.faddr 3 (tD 3)),opD 20 (.load false 1 (tD 19)),opD 21 (.build 5 [vU,vT,vS,vU,vU] [(1,(1,(tD 14))),(2,(1,(tD 16))),(3,(1,(tD 18))),(4,(1,(tD 20)))]),opD 4 (.alloc 49 5 [vU,vT,vS,vU,vU]),onD (.store 5 (tD 4) (tD 21))] [[],[0],[],[2],[],[4],[],[6],[1,3,5,7],[],[9,8,0,1,2,3,4,5,6,7,8,9]] false) (.seq (.region [mvD 23 0,opD 24 (.pure .nilc [(tD 23)]),opD 25 (.faddr 0 (tD 24)),opD 26 (.faddr 4 (tD 25)),opD 27 (.load false 1 (tD 26)),opD 28 (.load true 5 (tD 4)),oqD 29 (.call 147 [(tD 27),(tD 28)]) (.ent (e147 fu)),mvD 22 29,opD 30 (.ext (tD 22) 0),opD 31 (.ext (tD 22) 1),opD 32 (.ext (tD 22) 2),mvD 5 30,mvD 6 31,mvD 7 32] [[],[0],[1],[2],[3],[],[4,5],[6],[7],[7],[7],[8,6,0,1,2,3,4,5,6,7,8],[9,11,0,1,2,3,4,5,6,7,8,9,11],[10,12,0,1,2,3,4,5,6,7,8,9,10,11,12]] true) (.seq (.seq (.region [mvD 33 7,opD 34 (.bin .neq (tD 33) (cD 0))] [[],[0]] false) (.cond (.tmp 34) (.seq (.region [mvD 35 7,oqD 36 (.call 113 [(.const (.string ⟨#[97,32,114,101,99,111,114,100]⟩)),(tD 35)]) (.ent (e113 fu)),mvD 2 36] [[],[0],[1,1,0,1]] false) .ret) .skip)) (.seq (.region [mvD 38 0,opD 39 (.pure .nilc [(tD 38)]),opD 40 (.faddr 0 (tD 39)),opD 41 (.faddr 5 (tD 40)),opD 42 (.load false 1 (tD 41)),opD 43 (.faddr 2 (tD 3)),opD 44 (.load false 1 (tD 43)),opD 45 (.faddr 3 (tD 3)),opD 46 (.load false 1 (tD 45)),mvD 47 6,oqD 48 (.call 148 [(tD 42),(tD 44),(tD 46),(tD 47)]) (.ent (e148 fu)),mvD 37 48,opD 49 (.ext (tD 37) 0),opD 50 (.ext (tD 37) 1),mvD 8 49,mvD 7 50] [[],[0],[1],[2],[3],[],[5],[],[7],[],[4,6,8,9],[10],[11],[11],[12,10,0,1,2,3,4,5,6,7,8,9,10,11,12],[13,14,0,1,2,3,4,5,6,7,8,9,10,11,12,13,14]] true) (.seq (.seq (.region [mvD 51 7,opD 52 (.bin .neq (tD 51) (cD 0))] [[],[0]] false) (.cond (.tmp 52) (.seq (.region [mvD 53 7,oqD 54 (.call 113 [(.const (.string ⟨#[97,32,112,114,111,100,117,99,101,114]⟩)),(tD 53)]) (.ent (e113 fu)),mvD 2 54] [[],[0],[1,1,0,1]] false) .ret) .skip)) (.seq (.region [mvD 55 0,mvD 56 0,mvD 57 5,mvD 58 8,opD 59 (.pure .nilc [(tD 55)]),opD 60 (.faddr 0 (tD 59)),opD 61 (.faddr 4 (tD 60)),onD (.store 1 (tD 61) (tD 57)),opD 62 (.pure .nilc [(tD 56)]),opD 63 (.faddr 0 (tD 62)),opD 64 (.faddr 5 (tD 63)),onD (.store 1 (tD 64) (tD 58))] [[],[],[],[],[0,0,2],[4,0,2],[5,0,2],[6,2,0,2],[1,0,1,2,3,4,5,6,7],[8,0,1,2,3,4,5,6,7],[9,0,1,2,3,4,5,6,7],[10,3,7,0,1,2,3,4,5,6,7]] false) (.seq (.region [mvD 65 0,mvD 66 6,opD 67 (.pure .nilc [(tD 65)]),opD 68 (.faddr 17 (tD 67)),opD 69 (.faddr 1 (tD 68)),onD (.store 1 (tD 69) (tD 66))] [[],[],[0,0,1],[2,0,1],[3,0,1],[4,1,0,1]] false) (.seq (.region [opD 2 (.mov (.const .nilIface))] [[]] false) .ret))))))))))
theorem v115 (fu:Nat):evF fu (d115 fu) rs115 70 (e115 fu).ash (e115 fu).osh (e115 fu).vsh=p115 fu := by kernel_rfl
theorem b115 (fu:Nat):BodyD Tryz.prog 115 70 (d115 fu).erase rs115 := bodyD_mk Tryz.func115 (by kernel_rfl) (by kernel_rfl) (by kernel_rfl) (by kernel_rfl)
theorem g115 (fu:Nat):(e115 fu).Good Tryz.prog := good_by orders (b115 fu) (l := [e147 fu,e113 fu,e148 fu,e113 fu]) (by kernel_rfl) ⟨g147 fu,g113 fu,g148 fu,g113 fu,trivial⟩ (by kernel_rfl) (v115 fu)
def rs149:List RVx := [(.tmp 6),(.tmp 7)]
def p149 (fu:Nat):(List (D_api_Record))×((Int)×((Int)×(Unit)))→Option ((Unit)×((List (D_api_Record))×((Int)×(Unit)))) := fun ⟨a,c,f,_⟩ =>
Option.bind (p37 fu (a,())) fun ⟨_,h⟩ =>
bif !h then
 some ((),([],(1:Int),()))
else
 bif decide (c>(IntKind.wrap .u64 (List.length a:Int))) then
 some ((),([],(141:Int),()))
 else
 bif decide ((0:Int)≤c) then
 bif decide (Int.toNat c≤List.length a) then
 bif decide ((0:Int)≤(if (List.length (slice' a (Int.toNat c) none):Int)<(if (64:Int)<(if (0:Int)>f then (0:Int) else f) then (64:Int) else (if (0:Int)>f then (0:Int) else f)) then (List.length (slice' a (Int.toNat c) none):Int) else (if (64:Int)<(if (0:Int)>f then (0:Int) else f) then (64:Int) else (if (0:Int)>f then (0:Int) else f)))) then
 bif decide (0≤Int.toNat (if (List.length (slice' a (Int.toNat c) none):Int)<(if (64:Int)<(if (0:Int)>f then (0:Int) else f) then (64:Int) else (if (0:Int)>f then (0:Int) else f)) then (List.length (slice' a (Int.toNat c) none):Int) else (if (64:Int)<(if (0:Int)>f then (0:Int) else f) then (64:Int) else (if (0:Int)>f then (0:Int) else f)))∧Int.toNat (if (List.length (slice' a (Int.toNat c) none):Int)<(if (64:Int)<(if (0:Int)>f then (0:Int) else f) then (64:Int) else (if (0:Int)>f then (0:Int) else f)) then (List.length (slice' a (Int.toNat c) none):Int) else (if (64:Int)<(if (0:Int)>f then (0:Int) else f) then (64:Int) else (if (0:Int)>f then (0:Int) else f)))≤List.length (slice' a (Int.toNat c) none)) then
 Option.bind (p110 fu (List.take (Int.toNat (if (List.length (slice' a (Int.toNat c) none):Int)<(if (64:Int)<(if (0:Int)>f then (0:Int) else f) then (64:Int) else (if (0:Int)>f then (0:Int) else f)) then (List.length (slice' a (Int.toNat c) none):Int) else (if (64:Int)<(if (0:Int)>f then (0:Int) else f) then (64:Int) else (if (0:Int)>f then (0:Int) else f)))) (slice' a (Int.toNat c) none),())) fun ⟨_,i⟩ =>
 bif decide (List.length i=List.length i) then
 some ((),(i,(0:Int),()))
 else none
 else none
 else none
 else none
 else none
def e149 (fu:Nat):Ent := ⟨149,(.cons (.hole (.sl T_api_Record)) (.cons (.hole (.int .u64)) (.cons (.hole (.int .i64)) .nil))),.nil,(.tup 2 (.cons (.own .own 49 T_api_Record) (.cons (.hole (.int .i64)) .nil))),p149 fu⟩
def d149 (fu:Nat):DC := (.seq (.region [opD 6 (.mov (.const vS)),opD 7 (.mov (cD 0))] [[],[0]] false) (.seq (.seq (.region [mvD 9 0,oqD 10 (.call 37 [(tD 9)]) (.ent (e37 fu)),opD 11 (.not (tD 10))] [[],[0],[1]] false) (.cond (.tmp 11) (.seq (.region [opD 6 (.mov (.const vS)),opD 7 (.mov (cD 1))] [[],[0,0]] false) .ret) .skip)) (.seq (.seq (.region [mvD 12 1,mvD 13 0,opD 14 (.len false (tD 13)),opD 15 (.conv .u64 (tD 14)),opD 16 (.bin .gtr (tD 12) (tD 15))] [[],[],[1],[2],[0,3]] false) (.cond (.tmp 16) (.seq (.region [opD 6 (.mov (.const vS)),opD 7 (.mov (cD 141))] [[],[0,0]] false) .ret) .skip)) (.seq (.region [mvD 17 0,mvD 18 1,opD 19 (.slc 5 (tD 17) (some (tD 18)) none),mvD 8 19] [[],[],[0,1],[2,0,1,2]] false) (.seq (.region [mvD 20 8,mvD 21 2,opD 22 (.mm true (tD 21) (cD 0)),mvD 23 8,opD 24 (.len false (tD 23)),opD 25 (.pure (.mm3 false) [(tD 22),(cD 64),(tD 24)]),opD 26 (.slc 5 (tD 20) none (some (tD 25))),oqD 27 (.call 110 [(tD 26)]) (.ent (e110 fu)),mvD 6 27,opD 7 (.mov (cD 0))] [[],[],[1],[],[3],[2,4],[0,5],[6],[7,7,0,1,2,3,4,5,6,7],[8,0,1,2,3,4,5,6,7,8]] false) .ret)))))
theorem v149 (fu:Nat):evF fu (d149 fu) rs149 28 (e149 fu).ash (e149 fu).osh (e149 fu).vsh=p149 fu := by kernel_rfl
theorem b149 (fu:Nat):BodyD Tryz.prog 149 28 (d149 fu).erase rs149 := bodyD_mk Tryz.func149 (by kernel_rfl) (by kernel_rfl) (by kernel_rfl) (by kernel_rfl)
theorem g149 (fu:Nat):(e149 fu).Good Tryz.prog := good_by orders (b149 fu) (l := [e37 fu,e110 fu]) (by kernel_rfl) ⟨g37 fu,g110 fu,trivial⟩ (by kernel_rfl) (v149 fu)
def rs116:List RVx := [(.tmp 2)]
def p116 (fu:Nat):(Z0)×(Unit)→Option (((Z2)×((Unit)×((Unit)×((Unit)×(Unit)))))×((Bool)×((Unit)×((ByteArray)×((Int)×(Unit)))))) := fun ⟨⟨a,c,f,h,i,j,k,l,m,n,o,q,s,t,u,w,x,y,z,a0,_,_⟩,_⟩ =>
bif decide (List.length i=List.length i) then
 Option.bind (p149 fu (i,t,u,())) fun ⟨_,⟨c0,f0,_⟩⟩ =>
 bif (f0 != (0:Int)) then
 Option.bind (p113 fu ((⟨#[97,32,102,101,116,99,104]⟩:ByteArray),f0,())) fun ⟨_,⟨h0,_,⟨i0,j0,_⟩⟩⟩ =>
 bif h0 then
 bif decide (List.length i=List.length i) then
 bif decide (List.length j=List.length j) then
 bif decide (List.length k=List.length k) then
 some (((a,c,f,h,i,j,k,l,m,n,o,q,s,t,u,w,x,y,z,a0,[],()),(),(),(),()),(true,(),dflt (.pair .str (.pair (.int .i64) .unit))))
 else none
 else none
 else none
 else
 bif decide (List.length i=List.length i) then
 bif decide (List.length j=List.length j) then
 bif decide (List.length k=List.length k) then
 some (((a,c,f,h,i,j,k,l,m,n,o,q,s,t,u,w,x,y,z,a0,[],()),(),(),(),()),(false,dflt .unit,(i0,j0,())))
 else none
 else none
 else none
 else
 bif decide (List.length i=List.length i) then
 bif decide (List.length j=List.length j) then
 bif decide (List.length k=List.length k) then
 bif decide (List.length c0=List.length c0) then
 some (((a,c,f,h,i,j,k,l,m,n,o,q,s,t,u,w,x,y,IntKind.wrap .u64 (t+(IntKind.wrap .u64 ((List.length c0):Int))),a0,c0,()),(),(),(),()),(true,(),dflt (.pair .str (.pair (.int .i64) .unit))))
 else none
 else none
 else none
 else none
else none
def e116 (fu:Nat):Ent := ⟨116,(.cons Y9 .nil),(.cons Y13 (.cons .dead (.cons .dead (.cons .dead .nil)))),(.alt (.nilv 1) (.ifc 101 (.look (.cons (.hole .str) (.cons (.hole (.int .i64)) .nil))))),p116 fu⟩
def d116 (fu:Nat):DC := (.seq (.region [opD 2 (.mov (.const .nilIface))] [[]] false) (.seq (.region [mvD 6 0,opD 7 (.pure .nilc [(tD 6)]),opD 8 (.faddr 0 (tD 7)),opD 9 (.faddr 4 (tD 8)),opD 10 (.load false 1 (tD 9)),mvD 11 0,opD 12 (.pure .nilc [(tD 11)]),opD 13 (.faddr 7 (tD 12)),opD 14 (.faddr 6 (tD 13)),opD 15 (.load false 1 (tD 14)),mvD 16 0,opD 17 (.pure .nilc [(tD 16)]),opD 18 (.faddr 7 (tD 17)),opD 19 (.faddr 7 (tD 18)),opD 20 (.load false 1 (tD 19)),oqD 21 (.call 149 [(tD 10),(tD 15),(tD 20)]) (.ent (e149 fu)),mvD 5 21,opD 22 (.ext (tD 5) 0),opD 23 (.ext (tD 5) 1),mvD 3 22,mvD 4 23] [[],[0],[1],[2],[3],[],[5],[6],[7],[8],[],[10],[11],[12],[13],[4,9,14],[15],[16],[16],[17,15,0,1,2,3,4,5,6,7,8,9,10,11,12,13,14,15,16,17],[18,19,0,1,2,3,4,5,6,7,8,9,10,11,12,13,14,15,16,17,18,19]] true) (.seq (.seq (.region [mvD 24 4,opD 25 (.bin .neq (tD 24) (cD 0))] [[],[0]] false) (.cond (.tmp 25) (.seq (.region [mvD 26 4,oqD 27 (.call 113 [(.const (.string ⟨#[97,32,102,101,116,99,104]⟩)),(tD 26)]) (.ent (e113 fu)),mvD 2 27] [[],[0],[1,1,0,1]] false) .ret) .skip)) (.seq (.region [mvD 28 0,mvD 29 0,mvD 30 3,mvD 31 0,opD 32 (.pure .nilc [(tD 31)]),opD 33 (.faddr 7 (tD 32)),opD 34 (.faddr 6 (tD 33)),opD 35 (.load false 1 (tD 34)),mvD 36 3,opD 37 (.len false (tD 36)),opD 38 (.conv .u64 (tD 37)),opD 39 (.bin .add (tD 35) (tD 38)),opD 40 (.pure .nilc [(tD 28)]),opD 41 (.faddr 17 (tD 40)),opD 42 (.faddr 3 (tD 41)),onD (.store 1 (tD 42) (tD 30)),opD 43 (.pure .nilc [(tD 29)]),opD 44 (.faddr 17 (tD 43)),opD 45 (.faddr 1 (tD 44)),onD (.store 1 (tD 45) (tD 39))] [[],[],[],[],[3],[4],[5],[6],[],[8],[9],[7,10],[0,0,2,7],[12,0,2,7],[13,0,2,7],[14,2,0,2,7],[1,0,1,2,3,4,5,6,7,8,9,10,11,12,13,14,15],[16,0,1,2,3,4,5,6,7,8,9,10,11,12,13,14,15],[17,0,1,2,3,4,5,6,7,8,9,10,11,12,13,14,15],[18,11,15,0,1,2,3,4,5,6,7,8,9,10,11,12,13,14,15]] false) (.seq (.region [opD 2 (.mov (.const .nilIface))] [[]] false) .ret)))))
theorem v116 (fu:Nat):evF fu (d116 fu) rs116 46 (e116 fu).ash (e116 fu).osh (e116 fu).vsh=p116 fu := by kernel_rfl
theorem b116 (fu:Nat):BodyD Tryz.prog 116 46 (d116 fu).erase rs116 := bodyD_mk Tryz.func116 (by kernel_rfl) (by kernel_rfl) (by kernel_rfl) (by kernel_rfl)
theorem g116 (fu:Nat):(e116 fu).Good Tryz.prog := good_by orders (b116 fu) (l := [e149 fu,e113 fu]) (by kernel_rfl) ⟨g149 fu,g113 fu,trivial⟩ (by kernel_rfl) (v116 fu)
def rs171:List RVx := [(.tmp 4)]
def p171 (fu:Nat):(ByteArray)×((ByteArray)×(Unit))→Option ((Unit)×(Int)) := fun ⟨a,c,_⟩ =>
Option.bind (pCmpS fu (a,c,())) fun ⟨_,f⟩ =>
some ((),f)
def e171 (fu:Nat):Ent := ⟨171,(.cons (.hole .str) (.cons (.hole .str) .nil)),.nil,(.hole (.int .i64)),p171 fu⟩
def d171 (fu:Nat):DC := (.seq (.region [opD 4 (.mov (cD 0))] [[]] false) (.seq (.region [mvD 5 0,mvD 6 1,oqD 7 (.call 175 [(tD 5),(tD 6)]) (.ent (eCmpS fu)),mvD 4 7] [[],[],[0,1],[2,2,0,1,2]] false) .ret))
theorem v171 (fu:Nat):evF fu (d171 fu) rs171 8 (e171 fu).ash (e171 fu).osh (e171 fu).vsh=p171 fu := by kernel_rfl
theorem b171 (fu:Nat):BodyD Tryz.prog 171 8 (d171 fu).erase rs171 := bodyD_mk Tryz.func171 (by kernel_rfl) (by kernel_rfl) (by kernel_rfl) (by kernel_rfl)
theorem g171 (fu:Nat):(e171 fu).Good Tryz.prog := good_by orders (b171 fu) (l := [eCmpS fu]) (by kernel_rfl) ⟨gCmpS fu,trivial⟩ (by kernel_rfl) (v171 fu)
def rs162:List RVx := [(.tmp 4)]
def p162 (fu:Nat):((ByteArray)×((Int)×(Unit)))×(((ByteArray)×((Int)×(Unit)))×(Unit))→Option ((Unit)×(Int)) := fun ⟨⟨a,_,_⟩,⟨c,_,_⟩,_⟩ =>
Option.bind (p171 fu (a,c,())) fun ⟨_,f⟩ =>
some ((),f)
def e162 (fu:Nat):Ent := ⟨162,(.cons (.agg 2 (.cons (.hole .str) (.cons (.hole (.int .u64)) .nil))) (.cons (.agg 2 (.cons (.hole .str) (.cons (.hole (.int .u64)) .nil))) .nil)),.nil,(.hole (.int .i64)),p162 fu⟩
def d162 (fu:Nat):DC := (.seq (.region [opD 2 (.box 79 2 (tD 0)),opD 3 (.box 79 2 (tD 1)),opD 4 (.mov (cD 0))] [[],[],[]] false) (.seq (.region [opD 5 (.faddr 0 (tD 2)),opD 6 (.load false 1 (tD 5)),opD 7 (.faddr 0 (tD 3)),opD 8 (.load false 1 (tD 7)),oqD 9 (.call 171 [(tD 6),(tD 8)]) (.ent (e171 fu)),mvD 4 9] [[],[0],[],[2],[1,3],[4,4,0,1,2,3,4]] false) .ret))
theorem v162 (fu:Nat):evF fu (d162 fu) rs162 10 (e162 fu).ash (e162 fu).osh (e162 fu).vsh=p162 fu := by kernel_rfl
theorem b162 (fu:Nat):BodyD Tryz.prog 162 10 (d162 fu).erase rs162 := bodyD_mk Tryz.func162 (by kernel_rfl) (by kernel_rfl) (by kernel_rfl) (by kernel_rfl)
theorem g162 (fu:Nat):(e162 fu).Good Tryz.prog := good_by orders (b162 fu) (l := [e171 fu]) (by kernel_rfl) ⟨g171 fu,trivial⟩ (by kernel_rfl) (v162 fu)
def rs169:List RVx := [(.tmp 6),(.tmp 7)]
def p169 (fu:Nat):(List (D_runtime_errorAddressString))×(((ByteArray)×((Int)×(Unit)))×(((Unit)×(Unit))×(Unit)))→Option ((Unit)×((Int)×((Bool)×(Unit)))) := fun ⟨a,⟨c,f,_⟩,⟨_,_⟩,_⟩ =>
loopO (S := ((Int)×((Int)×(Unit)))×(Unit)) fu (fun ⟨⟨h,i,_⟩,_⟩ =>
 bif decide (h<i) then
 bif decide ((0:Int)≤IntKind.wrap .i64 (Int.fdiv (IntKind.wrap .u64 (IntKind.wrap .i64 (h+i))) (2 ^ (min (Int.toNat (1:Int)) (IntKind.bits .u64))))∧IntKind.wrap .i64 (Int.fdiv (IntKind.wrap .u64 (IntKind.wrap .i64 (h+i))) (2 ^ (min (Int.toNat (1:Int)) (IntKind.bits .u64))))<(List.length a:Int)) then
 bif decide (Int.toNat (IntKind.wrap .i64 (Int.fdiv (IntKind.wrap .u64 (IntKind.wrap .i64 (h+i))) (2 ^ (min (Int.toNat (1:Int)) (IntKind.bits .u64)))))<List.length a) then
 Option.bind (p162 fu (((List.getD a (Int.toNat (IntKind.wrap .i64 (Int.fdiv (IntKind.wrap .u64 (IntKind.wrap .i64 (h+i))) (2 ^ (min (Int.toNat (1:Int)) (IntKind.bits .u64)))))) (dflt T_runtime_errorAddressString)).1,(List.getD a (Int.toNat (IntKind.wrap .i64 (Int.fdiv (IntKind.wrap .u64 (IntKind.wrap .i64 (h+i))) (2 ^ (min (Int.toNat (1:Int)) (IntKind.bits .u64)))))) (dflt T_runtime_errorAddressString)).2,()),(c,f,()),())) fun ⟨_,j⟩ =>
 bif decide (j<(0:Int)) then
 some (.inl ((IntKind.wrap .i64 ((IntKind.wrap .i64 (Int.fdiv (IntKind.wrap .u64 (IntKind.wrap .i64 (h+i))) (2 ^ (min (Int.toNat (1:Int)) (IntKind.bits .u64)))))+(1:Int)),i,()),()))
 else
 some (.inl ((h,IntKind.wrap .i64 (Int.fdiv (IntKind.wrap .u64 (IntKind.wrap .i64 (h+i))) (2 ^ (min (Int.toNat (1:Int)) (IntKind.bits .u64)))),()),()))
 else none
 else none
 else
 inrO (bif decide (h<(List.length a:Int)) then
 bif decide ((0:Int)≤h∧h<(List.length a:Int)) then
 bif decide (Int.toNat h<List.length a) then
 Option.bind (p162 fu (((List.getD a (Int.toNat h) (dflt T_runtime_errorAddressString)).1,(List.getD a (Int.toNat h) (dflt T_runtime_errorAddressString)).2,()),(c,f,()),())) fun ⟨_,k⟩ =>
 some ((),(h,(k==(0:Int)),()))
 else none
 else none
 else
 some ((),(h,false,()))))
 (((0:Int),(List.length a:Int),()),())
def e169 (fu:Nat):Ent := ⟨169,(.cons (.hole (.sl T_runtime_errorAddressString)) (.cons (.agg 2 (.cons (.hole .str) (.cons (.hole (.int .u64)) .nil))) (.cons (.clo 162 0 .nil 0 .nil) .nil))),.nil,(.tup 2 (.cons (.hole (.int .i64)) (.cons (.hole .bool) .nil))),p169 fu⟩
def d169 (fu:Nat):DC := (.seq (.region [opD 4 (.box 79 2 (tD 1)),opD 6 (.mov (cD 0)),opD 7 (.mov (.const vB))] [[],[],[1]] false) (.seq (.region [mvD 12 0,opD 13 (.len false (tD 12)),mvD 8 13] [[],[0],[1,0,1]] false) (.seq (.region [mvD 14 8,opD 9 (.mov (cD 0)),mvD 10 14] [[],[],[0,1,0,1]] false) (.seq (.block 0 (.loop ⟨[9,10],(.cons (.hole (.int .i64)) (.cons (.hole (.int .i64)) .nil)),[],.nil,[0,2,4,8],[0]⟩
 (.seq (.seq (.region [mvD 15 9,mvD 16 10,opD 17 (.bin .lss (tD 15) (tD 16))] [[],[],[0,1]] false) (.cond (.tmp 17) .skip (.exit 0))) (.block 1 (.seq (.region [mvD 18 9,mvD 19 10,opD 20 (.bin .add (tD 18) (tD 19)),opD 21 (.conv .u64 (tD 20)),opD 22 (.bin .shr (tD 21) (.const (.int .u64 1))),opD 23 (.conv .i64 (tD 22)),mvD 11 23] [[],[],[0,1],[2],[3],[4],[5,0,1,2,3,4,5]] false) (.seq (.region [mvD 24 2,mvD 25 0,mvD 26 11,opD 27 (.iaddr 2 (tD 25) (tD 26)),opD 28 (.load true 2 (tD 27)),opD 29 (.load true 2 (tD 4)),oqD 30 (.callv (tD 24) [(tD 28),(tD 29)]) (.ent (e162 fu)),opD 31 (.bin .lss (tD 30) (cD 0))] [[],[],[],[1,2],[3],[],[0,4,5],[6]] true) (.cond (.tmp 31) (.region [mvD 32 11,opD 33 (.bin .add (tD 32) (cD 1)),mvD 9 33] [[],[0],[1,0,1]] false) (.region [mvD 34 11,mvD 10 34] [[],[0,0]] false)))))))) (.seq (.region [mvD 35 9,mvD 36 9,mvD 37 8,opD 38 (.bin .lss (tD 36) (tD 37)),mvD 39 38,ogD 40 39 true (.mov (tD 2)),ogD 41 39 true (.mov (tD 0)),ogD 42 39 true (.mov (tD 9)),ogD 43 39 true (.iaddr 2 (tD 41) (tD 42)),ogD 44 39 true (.load true 2 (tD 43)),ogD 45 39 true (.load true 2 (tD 4)),(⟨(some 46),(some (39,true)),(.callv (tD 40) [(tD 44),(tD 45)])⟩,(.ent (e162 fu))),ogD 47 39 true (.bin .eql (tD 46) (cD 0)),opD 48 (.pick (tD 39) (tD 47) (.const vB)),mvD 6 35,mvD 7 48] [[],[],[],[1,2],[3],[4],[4],[4],[6,7,4],[8,4],[4],[5,9,10,4,4],[11,4],[4,12],[0,11,0],[13,14,0,1,2,3,4,5,6,7,8,9,10,11,12,13,14]] true) .ret)))))
theorem v169 (fu:Nat):evF fu (d169 fu) rs169 49 (e169 fu).ash (e169 fu).osh (e169 fu).vsh=p169 fu := by kernel_rfl
theorem b169 (fu:Nat):BodyD Tryz.prog 169 49 (d169 fu).erase rs169 := bodyD_mk Tryz.func169 (by kernel_rfl) (by kernel_rfl) (by kernel_rfl) (by kernel_rfl)
theorem g169 (fu:Nat):(e169 fu).Good Tryz.prog := good_by orders (b169 fu) (l := [e162 fu,e162 fu]) (by kernel_rfl) ⟨g162 fu,g162 fu,trivial⟩ (by kernel_rfl) (v169 fu)
def rs161:List RVx := [(.tmp 6)]
def p161 (fu:Nat):(List (D_runtime_errorAddressString))×(((ByteArray)×((Int)×(Unit)))×(((Unit)×(Unit))×(Unit)))→Option ((Unit)×(List (D_runtime_errorAddressString))) := fun ⟨a,⟨c,f,_⟩,⟨_,_⟩,_⟩ =>
Option.bind (p169 fu (a,(c,f,()),((),()),())) fun ⟨_,⟨h,i,_⟩⟩ =>
Option.bind (p112 fu (a,())) fun ⟨_,j⟩ =>
bif i then
 bif decide ((0:Int)≤h∧h<(List.length j:Int)) then
 bif decide (Int.toNat h<List.length j) then
 bif decide (List.length j=List.length (List.set j (Int.toNat h) (c,f))) then
 some ((),(List.set j (Int.toNat h) (c,f)))
 else none
 else none
 else none
else
 bif decide (List.length j=List.length j) then
 Option.bind (pInsertC fu (j,h,[(c,f)],())) fun ⟨⟨_,_,_⟩,k⟩ =>
 bif decide (List.length k=List.length k) then
 some ((),k)
 else none
 else none
def e161 (fu:Nat):Ent := ⟨161,(.cons (.hole (.sl T_runtime_errorAddressString)) (.cons (.agg 2 (.cons (.hole .str) (.cons (.hole (.int .u64)) .nil))) (.cons (.clo 162 0 .nil 0 .nil) .nil))),.nil,(.own .own 79 T_runtime_errorAddressString),p161 fu⟩
def d161 (fu:Nat):DC := (.seq (.region [opD 4 (.box 79 2 (tD 1)),opD 6 (.mov (.const vS))] [[],[]] false) (.seq (.region [mvD 11 0,opD 12 (.load true 2 (tD 4)),mvD 13 2,oqD 14 (.call 169 [(tD 11),(tD 12),(tD 13)]) (.ent (e169 fu)),mvD 10 14,opD 15 (.ext (tD 10) 0),opD 16 (.ext (tD 10) 1),mvD 7 15,mvD 8 16] [[],[],[],[0,1,2],[3],[4],[4],[5,3,0,1,2,3,4,5],[6,7,0,1,2,3,4,5,6,7]] false) (.seq (.region [mvD 17 0,oqD 18 (.call 112 [(tD 17)]) (.ent (e112 fu)),mvD 9 18] [[],[0],[1,1,0,1]] false) (.seq (.seq (.region [mvD 19 8] [[]] false) (.cond (.tmp 19) (.seq (.region [mvD 20 9,mvD 21 7,opD 22 (.load true 2 (tD 4)),opD 23 (.iaddr 2 (tD 20) (tD 21)),onD (.store 2 (tD 23) (tD 22))] [[],[],[],[0,1,0,1,2],[3,2,0,1,2]] false) (.seq (.region [mvD 24 9,mvD 6 24] [[],[0,0]] false) .ret)) .skip)) (.seq (.region [mvD 25 9,mvD 26 7,opD 27 (.load true 2 (tD 4)),oqD 28 (.bslice 79 2 1 [vT,vU] [(0,(tD 27))]) (.ty T_runtime_errorAddressString),oqD 29 (.call 170 [(tD 25),(tD 26),(tD 28)]) (.ent (eInsertC fu)),mvD 6 29] [[],[],[],[2],[0,1,3],[4,4,0,1,2,3,4]] false) .ret)))))
theorem v161 (fu:Nat):evF fu (d161 fu) rs161 30 (e161 fu).ash (e161 fu).osh (e161 fu).vsh=p161 fu := by kernel_rfl
theorem b161 (fu:Nat):BodyD Tryz.prog 161 30 (d161 fu).erase rs161 := bodyD_mk Tryz.func161 (by kernel_rfl) (by kernel_rfl) (by kernel_rfl) (by kernel_rfl)
theorem g161 (fu:Nat):(e161 fu).Good Tryz.prog := good_by orders (b161 fu) (l := [e169 fu,e112 fu,eInsertC fu]) (by kernel_rfl) ⟨g169 fu,g112 fu,gInsertC fu,trivial⟩ (by kernel_rfl) (v161 fu)
def rs150:List RVx := [(.tmp 6),(.tmp 7)]
def p150 (fu:Nat):(List (D_runtime_errorAddressString))×(((ByteArray)×((Int)×(Unit)))×((Int)×(Unit)))→Option ((Unit)×((List (D_runtime_errorAddressString))×((Int)×(Unit)))) := fun ⟨a,⟨c,f,_⟩,h,_⟩ =>
Option.bind (p39 fu (a,())) fun ⟨_,i⟩ =>
bif !i then
 some ((),([],(1:Int),()))
else
 Option.bind (p102 fu (c,())) fun ⟨_,j⟩ =>
 bif !j then
 some ((),([],(142:Int),()))
 else
 bif decide (f>h) then
 some ((),([],(141:Int),()))
 else
 Option.bind (p161 fu (a,(c,f,()),((),()),())) fun ⟨_,k⟩ =>
 bif decide (((List.length k):Int)≤(64:Int)) then
 bif decide (List.length k=List.length k) then
 some ((),(k,(0:Int),()))
 else none
 else
 some ((),([],(143:Int),()))
def e150 (fu:Nat):Ent := ⟨150,(.cons (.hole (.sl T_runtime_errorAddressString)) (.cons (.agg 2 (.cons (.hole .str) (.cons (.hole (.int .u64)) .nil))) (.cons (.hole (.int .u64)) .nil))),.nil,(.tup 2 (.cons (.own .own 79 T_runtime_errorAddressString) (.cons (.hole (.int .i64)) .nil))),p150 fu⟩
def d150 (fu:Nat):DC := (.seq (.region [opD 4 (.box 79 2 (tD 1)),opD 6 (.mov (.const vS)),opD 7 (.mov (cD 0))] [[],[],[1]] false) (.seq (.block 0 (.seq (.region [mvD 10 0,oqD 11 (.call 39 [(tD 10)]) (.ent (e39 fu)),opD 12 (.not (tD 11)),mvD 9 12] [[],[0],[1],[2,1]] false) (.cond (.tmp 9) (.seq (.region [opD 6 (.mov (.const vS)),opD 7 (.mov (cD 1))] [[],[0,0]] false) .ret) (.seq (.region [opD 14 (.faddr 0 (tD 4)),opD 15 (.load false 1 (tD 14)),oqD 16 (.call 102 [(tD 15)]) (.ent (e102 fu)),opD 17 (.not (tD 16)),mvD 13 17] [[],[0],[1],[2],[3,2]] false) (.cond (.tmp 13) (.seq (.region [opD 6 (.mov (.const vS)),opD 7 (.mov (cD 142))] [[],[0,0]] false) .ret) (.seq (.region [opD 19 (.faddr 1 (tD 4)),opD 20 (.load false 1 (tD 19)),mvD 21 2,opD 22 (.bin .gtr (tD 20) (tD 21)),mvD 18 22] [[],[0],[],[1,2],[3]] false) (.cond (.tmp 18) (.seq (.region [opD 6 (.mov (.const vS)),opD 7 (.mov (cD 141))] [[],[0,0]] false) .ret) .skip))))))) (.seq (.seq (.region [mvD 23 0,opD 24 (.load true 2 (tD 4)),oqD 25 (.call 161 [(tD 23),(tD 24),(.func 162)]) (.ent (e161 fu)),mvD 8 25] [[],[],[0,1],[2,2,0,1,2]] false) (.seq (.region [mvD 26 8,opD 27 (.len false (tD 26)),opD 28 (.bin .leq (tD 27) (cD 64))] [[],[0],[1]] false) (.cond (.tmp 28) (.seq (.region [mvD 29 8,mvD 6 29,opD 7 (.mov (cD 0))] [[],[0,0],[1,0,1]] false) .ret) .skip))) (.seq (.region [opD 6 (.mov (.const vS)),opD 7 (.mov (cD 143))] [[],[0,0]] false) .ret))))
theorem v150 (fu:Nat):evF fu (d150 fu) rs150 30 (e150 fu).ash (e150 fu).osh (e150 fu).vsh=p150 fu := by kernel_rfl
theorem b150 (fu:Nat):BodyD Tryz.prog 150 30 (d150 fu).erase rs150 := bodyD_mk Tryz.func150 (by kernel_rfl) (by kernel_rfl) (by kernel_rfl) (by kernel_rfl)
theorem g150 (fu:Nat):(e150 fu).Good Tryz.prog := good_by orders (b150 fu) (l := [e39 fu,e102 fu,e161 fu]) (by kernel_rfl) ⟨g39 fu,g102 fu,g161 fu,trivial⟩ (by kernel_rfl) (v150 fu)
def rs151:List RVx := [(.tmp 6),(.tmp 7)]
def p151 (fu:Nat):(List (D_api_Producer))×((Int)×((Int)×(Unit)))→Option ((Unit)×((List (D_api_Producer))×((Int)×(Unit)))) := fun ⟨a,c,f,_⟩ =>
Option.bind (p160 fu (a,(c,f,false,(0:Int),()),())) fun ⟨_,⟨h,i,_⟩⟩ =>
bif decide (List.length h=List.length h) then
 some ((),(h,i,()))
else none
def e151 (fu:Nat):Ent := ⟨151,(.cons (.hole (.sl T_api_Producer)) (.cons (.hole (.int .u64)) (.cons (.hole (.int .u64)) .nil))),.nil,(.tup 2 (.cons (.own .own 77 T_api_Producer) (.cons (.hole (.int .i64)) .nil))),p151 fu⟩
def d151 (fu:Nat):DC := (.seq (.region [opD 6 (.mov (.const vS)),opD 7 (.mov (cD 0))] [[],[0]] false) (.seq (.region [mvD 8 0,mvD 9 1,mvD 10 2,opD 11 (.build 4 [vU,vU,vB,vU] [(0,(1,(tD 9))),(1,(1,(tD 10)))]),oqD 12 (.call 160 [(tD 8),(tD 11)]) (.ent (e160 fu)),opD 13 (.ext (tD 12) 0),opD 14 (.ext (tD 12) 1),mvD 6 13,mvD 7 14] [[],[],[],[1,2],[0,3],[4],[4],[5,4,0,1,2,3,4,5,6],[6,7,0,1,2,3,4,5,6,7]] false) .ret))
theorem v151 (fu:Nat):evF fu (d151 fu) rs151 15 (e151 fu).ash (e151 fu).osh (e151 fu).vsh=p151 fu := by kernel_rfl
theorem b151 (fu:Nat):BodyD Tryz.prog 151 15 (d151 fu).erase rs151 := bodyD_mk Tryz.func151 (by kernel_rfl) (by kernel_rfl) (by kernel_rfl) (by kernel_rfl)
theorem g151 (fu:Nat):(e151 fu).Good Tryz.prog := good_by orders (b151 fu) (l := [e160 fu]) (by kernel_rfl) ⟨g160 fu,trivial⟩ (by kernel_rfl) (v151 fu)
def rs117:List RVx := [(.tmp 2)]
def p117 (fu:Nat):(Z0)×(Unit)→Option (((Z0)×((Unit)×((Unit)×((Unit)×(Unit)))))×((Bool)×((Unit)×((ByteArray)×((Int)×(Unit)))))) := fun ⟨⟨a,c,f,h,i,j,k,l,m,n,o,q,s,t,u,w,x,y,z,a0,_,_⟩,_⟩ =>
bif decide (List.length k=List.length k) then
 Option.bind (p150 fu (k,(w,t,()),IntKind.wrap .u64 ((List.length i):Int),())) fun ⟨_,⟨c0,f0,_⟩⟩ =>
 bif (f0 != (0:Int)) then
 Option.bind (p113 fu ((⟨#[97,32,99,111,110,115,117,109,101,114]⟩:ByteArray),f0,())) fun ⟨_,⟨h0,_,⟨i0,j0,_⟩⟩⟩ =>
 bif h0 then
 bif decide (List.length i=List.length i) then
 bif decide (List.length j=List.length j) then
 bif decide (List.length k=List.length k) then
 some (((a,c,f,h,i,j,k,l,m,n,o,q,s,t,u,w,x,y,z,a0,(),()),(),(),(),()),(true,(),dflt (.pair .str (.pair (.int .i64) .unit))))
 else none
 else none
 else none
 else
 bif decide (List.length i=List.length i) then
 bif decide (List.length j=List.length j) then
 bif decide (List.length k=List.length k) then
 some (((a,c,f,h,i,j,k,l,m,n,o,q,s,t,u,w,x,y,z,a0,(),()),(),(),(),()),(false,dflt .unit,(i0,j0,())))
 else none
 else none
 else none
 else
 bif decide (List.length j=List.length j) then
 Option.bind (p151 fu (j,n,o,())) fun ⟨_,⟨k0,l0,_⟩⟩ =>
 bif (l0 != (0:Int)) then
 Option.bind (p113 fu ((⟨#[97,32,112,114,111,100,117,99,101,114]⟩:ByteArray),l0,())) fun ⟨_,⟨m0,_,⟨n0,o0,_⟩⟩⟩ =>
 bif m0 then
 bif decide (List.length i=List.length i) then
 bif decide (List.length j=List.length j) then
 bif decide (List.length k=List.length k) then
 some (((a,c,f,h,i,j,k,l,m,n,o,q,s,t,u,w,x,y,z,a0,(),()),(),(),(),()),(true,(),dflt (.pair .str (.pair (.int .i64) .unit))))
 else none
 else none
 else none
 else
 bif decide (List.length i=List.length i) then
 bif decide (List.length j=List.length j) then
 bif decide (List.length k=List.length k) then
 some (((a,c,f,h,i,j,k,l,m,n,o,q,s,t,u,w,x,y,z,a0,(),()),(),(),(),()),(false,dflt .unit,(n0,o0,())))
 else none
 else none
 else none
 else
 bif decide (List.length i=List.length i) then
 bif decide (List.length k0=List.length k0) then
 bif decide (List.length c0=List.length c0) then
 some (((a,c,f,h,i,k0,c0,l,m,n,o,q,s,t,u,w,x,y,t,a0,(),()),(),(),(),()),(true,(),dflt (.pair .str (.pair (.int .i64) .unit))))
 else none
 else none
 else none
 else none
else none
def e117 (fu:Nat):Ent := ⟨117,(.cons Y9 .nil),(.cons Y10 (.cons .dead (.cons .dead (.cons .dead .nil)))),(.alt (.nilv 1) (.ifc 101 (.look (.cons (.hole .str) (.cons (.hole (.int .i64)) .nil))))),p117 fu⟩
def d117 (fu:Nat):DC := (.seq (.region [opD 2 (.mov (.const .nilIface))] [[]] false) (.seq (.region [mvD 7 0,opD 8 (.pure .nilc [(tD 7)]),opD 9 (.faddr 7 (tD 8)),opD 10 (.load true 10 (tD 9)),opD 3 (.alloc 44 10 [vI,vU,vU,vU,vT,vS,vU,vI,vT,vU]),onD (.store 10 (tD 3) (tD 10))] [[],[0],[1],[2],[],[4,3,0,1,2,3,4]] false) (.seq (.region [mvD 12 0,opD 13 (.pure .nilc [(tD 12)]),opD 14 (.faddr 0 (tD 13)),opD 15 (.faddr 6 (tD 14)),opD 16 (.load false 1 (tD 15)),opD 17 (.faddr 8 (tD 3)),opD 18 (.load false 1 (tD 17)),opD 19 (.faddr 6 (tD 3)),opD 20 (.load false 1 (tD 19)),opD 21 (.build 2 [vT,vU] [(0,(1,(tD 18))),(1,(1,(tD 20)))]),mvD 22 0,opD 23 (.pure .nilc [(tD 22)]),opD 24 (.faddr 0 (tD 23)),opD 25 (.faddr 4 (tD 24)),opD 26 (.load false 1 (tD 25)),opD 27 (.len false (tD 26)),opD 28 (.conv .u64 (tD 27)),oqD 29 (.call 150 [(tD 16),(tD 21),(tD 28)]) (.ent (e150 fu)),mvD 11 29,opD 30 (.ext (tD 11) 0),opD 31 (.ext (tD 11) 1),mvD 4 30,mvD 5 31] [[],[0],[1],[2],[3],[],[5],[],[7],[6,8],[],[10],[11],[12],[13],[14],[15],[4,9,16],[17],[18],[18],[19,17,0,1,2,3,4,5,6,7,8,9,10,11,12,13,14,15,16,17,18,19],[20,21,0,1,2,3,4,5,6,7,8,9,10,11,12,13,14,15,16,17,18,19,20,21]] true) (.seq (.seq (.region [mvD 32 5,opD 33 (.bin .neq (tD 32) (cD 0))] [[],[0]] false) (.cond (.tmp 33) (.seq (.region [mvD 34 5,oqD 35 (.call 113 [(.const (.string ⟨#[97,32,99,111,110,115,117,109,101,114]⟩)),(tD 34)]) (.ent (e113 fu)),mvD 2 35] [[],[0],[1,1,0,1]] false) .ret) .skip)) (.seq (.region [mvD 37 0,opD 38 (.pure .nilc [(tD 37)]),opD 39 (.faddr 0 (tD 38)),opD 40 (.faddr 5 (tD 39)),opD 41 (.load false 1 (tD 40)),opD 42 (.faddr 2 (tD 3)),opD 43 (.load false 1 (tD 42)),opD 44 (.faddr 3 (tD 3)),opD 45 (.load false 1 (tD 44)),oqD 46 (.call 151 [(tD 41),(tD 43),(tD 45)]) (.ent (e151 fu)),mvD 36 46,opD 47 (.ext (tD 36) 0),opD 48 (.ext (tD 36) 1),mvD 6 47,mvD 5 48] [[],[0],[1],[2],[3],[],[5],[],[7],[4,6,8],[9],[10],[10],[11,9,0,1,2,3,4,5,6,7,8,9,10,11],[12,13,0,1,2,3,4,5,6,7,8,9,10,11,12,13]] true) (.seq (.seq (.region [mvD 49 5,opD 50 (.bin .neq (tD 49) (cD 0))] [[],[0]] false) (.cond (.tmp 50) (.seq (.region [mvD 51 5,oqD 52 (.call 113 [(.const (.string ⟨#[97,32,112,114,111,100,117,99,101,114]⟩)),(tD 51)]) (.ent (e113 fu)),mvD 2 52] [[],[0],[1,1,0,1]] false) .ret) .skip)) (.seq (.region [mvD 53 0,mvD 54 0,mvD 55 4,mvD 56 6,opD 57 (.pure .nilc [(tD 53)]),opD 58 (.faddr 0 (tD 57)),opD 59 (.faddr 6 (tD 58)),onD (.store 1 (tD 59) (tD 55)),opD 60 (.pure .nilc [(tD 54)]),opD 61 (.faddr 0 (tD 60)),opD 62 (.faddr 5 (tD 61)),onD (.store 1 (tD 62) (tD 56))] [[],[],[],[],[0,0,2],[4,0,2],[5,0,2],[6,2,0,2],[1,0,1,2,3,4,5,6,7],[8,0,1,2,3,4,5,6,7],[9,0,1,2,3,4,5,6,7],[10,3,7,0,1,2,3,4,5,6,7]] false) (.seq (.region [mvD 63 0,opD 64 (.faddr 6 (tD 3)),opD 65 (.load false 1 (tD 64)),opD 66 (.pure .nilc [(tD 63)]),opD 67 (.faddr 17 (tD 66)),opD 68 (.faddr 1 (tD 67)),onD (.store 1 (tD 68) (tD 65))] [[],[],[1],[0,0,1,2],[3,0,1,2],[4,0,1,2],[5,2,0,1,2]] false) (.seq (.region [opD 2 (.mov (.const .nilIface))] [[]] false) .ret)))))))))
theorem v117 (fu:Nat):evF fu (d117 fu) rs117 69 (e117 fu).ash (e117 fu).osh (e117 fu).vsh=p117 fu := by kernel_rfl
theorem b117 (fu:Nat):BodyD Tryz.prog 117 69 (d117 fu).erase rs117 := bodyD_mk Tryz.func117 (by kernel_rfl) (by kernel_rfl) (by kernel_rfl) (by kernel_rfl)
theorem g117 (fu:Nat):(e117 fu).Good Tryz.prog := good_by orders (b117 fu) (l := [e150 fu,e113 fu,e151 fu,e113 fu]) (by kernel_rfl) ⟨g150 fu,g113 fu,g151 fu,g113 fu,trivial⟩ (by kernel_rfl) (v117 fu)
def rs118:List RVx := [(.tmp 4),(.tmp 5)]
def p118 (fu:Nat):(List (D_runtime_errorAddressString))×((ByteArray)×(Unit))→Option ((Unit)×((Int)×((Bool)×(Unit)))) := fun ⟨a,c,_⟩ =>
loopO (S := ((Int)×(Unit))×(Unit)) fu (fun ⟨⟨f,_⟩,_⟩ =>
 bif decide (f<(List.length a:Int)) then
 bif decide ((0:Int)≤f∧f<(List.length a:Int)) then
 bif decide (Int.toNat f<List.length a) then
 bif ByteArray.toList ((List.getD a (Int.toNat f) (dflt T_runtime_errorAddressString)).1)==ByteArray.toList c then
 inrO (some ((),((List.getD a (Int.toNat f) (dflt T_runtime_errorAddressString)).2,true,())))
 else
 some (.inl ((IntKind.wrap .i64 (f+(1:Int)),()),()))
 else none
 else none
 else
 inrO (some ((),((0:Int),false,()))))
 (((0:Int),()),())
def e118 (fu:Nat):Ent := ⟨118,(.cons (.hole (.sl T_runtime_errorAddressString)) (.cons (.hole .str) .nil)),.nil,(.tup 2 (.cons (.hole (.int .u64)) (.cons (.hole .bool) .nil))),p118 fu⟩
def d118 (_:Nat):DC := (.seq (.region [opD 4 (.mov (.const vU)),opD 5 (.mov (.const vB))] [[],[0]] false) (.seq (.seq (.region [mvD 8 0,opD 9 (.len false (tD 8)),opD 10 (.mov (cD 0))] [[],[0],[]] false) (.block 0 (.loop ⟨[10],(.cons (.hole (.int .i64)) .nil),[],.nil,[1,8,9],[]⟩
 (.seq (.region [opD 11 (.bin .lss (tD 10) (tD 9))] [[]] false) (.seq (.cond (.tmp 11) .skip (.exit 0)) (.seq (.block 1 (.seq (.region [opD 12 (.iaddr 2 (tD 8) (tD 10)),opD 13 (.load true 2 (tD 12)),opD 7 (.alloc 79 2 [vT,vU]),onD (.store 2 (tD 7) (tD 13))] [[],[0],[],[2,1,0,1,2]] false) (.seq (.region [opD 14 (.faddr 0 (tD 7)),opD 15 (.load false 1 (tD 14)),mvD 16 1,opD 17 (.bin .eql (tD 15) (tD 16))] [[],[0],[],[1,2]] false) (.cond (.tmp 17) (.seq (.region [opD 18 (.faddr 1 (tD 7)),opD 19 (.load false 1 (tD 18)),mvD 4 19,opD 5 (.mov (.const (.bool true)))] [[],[0],[1,0,1],[2,0,1,2]] false) .ret) .skip)))) (.region [opD 20 (.bin .add (tD 10) (cD 1)),mvD 10 20] [[],[0]] false))))))) (.seq (.region [opD 4 (.mov (.const vU)),opD 5 (.mov (.const vB))] [[],[0,0]] false) .ret)))
theorem v118 (fu:Nat):evF fu (d118 fu) rs118 21 (e118 fu).ash (e118 fu).osh (e118 fu).vsh=p118 fu := by kernel_rfl
theorem b118 (fu:Nat):BodyD Tryz.prog 118 21 (d118 fu).erase rs118 := bodyD_mk Tryz.func118 (by kernel_rfl) (by kernel_rfl) (by kernel_rfl) (by kernel_rfl)
theorem g118 (fu:Nat):(e118 fu).Good Tryz.prog := good_by orders (b118 fu) (l := []) (by kernel_rfl) trivial (by kernel_rfl) (v118 fu)
def rs62:List RVx := [(.tmp 2)]
def p62 (fu:Nat):(Z0)×(Unit)→Option (((Z2)×((Unit)×((Unit)×((Unit)×(Unit)))))×((Bool)×((Unit)×((Bool)×(((ByteArray)×((Int)×(Unit)))×(Unit)))))) := fun ⟨⟨a,c,f,h,i,j,k,l,m,n,o,q,s,t,u,w,x,y,z,a0,_,_⟩,_⟩ =>
Option.bind (p88 fu ((l,m,n,o,q,s,t,u,w,x,()),())) fun ⟨_,c0⟩ =>
bif !c0 then
 Option.bind (p113 fu ((⟨#[97,32,99,111,109,109,97,110,100,32,116,104,97,116,32,105,115,32,110,111,116,32,119,101,108,108,32,102,111,114,109,101,100]⟩:ByteArray),(161:Int),())) fun ⟨_,⟨f0,_,⟨h0,i0,_⟩⟩⟩ =>
 bif f0 then
 bif decide (List.length i=List.length i) then
 bif decide (List.length j=List.length j) then
 bif decide (List.length k=List.length k) then
 some (((a,c,f,h,i,j,k,l,m,n,o,q,s,t,u,w,x,y,z,a0,[],()),(),(),(),()),(true,(),dflt (.pair .bool (.pair (.pair .str (.pair (.int .i64) .unit)) .unit))))
 else none
 else none
 else none
 else
 bif decide (List.length i=List.length i) then
 bif decide (List.length j=List.length j) then
 bif decide (List.length k=List.length k) then
 some (((a,c,f,h,i,j,k,l,m,n,o,q,s,t,u,w,x,y,z,a0,[],()),(),(),(),()),(false,dflt .unit,(true,(h0,i0,()),dflt .unit)))
 else none
 else none
 else none
else
 bif (m != f) then
 Option.bind (p113 fu ((⟨#[97,110,111,116,104,101,114,32,101,112,111,99,104]⟩:ByteArray),(162:Int),())) fun ⟨_,⟨j0,_,⟨k0,l0,_⟩⟩⟩ =>
 bif j0 then
 bif decide (List.length i=List.length i) then
 bif decide (List.length j=List.length j) then
 bif decide (List.length k=List.length k) then
 some (((a,c,f,h,i,j,k,l,m,n,o,q,s,t,u,w,x,y,z,a0,[],()),(),(),(),()),(true,(),dflt (.pair .bool (.pair (.pair .str (.pair (.int .i64) .unit)) .unit))))
 else none
 else none
 else none
 else
 bif decide (List.length i=List.length i) then
 bif decide (List.length j=List.length j) then
 bif decide (List.length k=List.length k) then
 some (((a,c,f,h,i,j,k,l,m,n,o,q,s,t,u,w,x,y,z,a0,[],()),(),(),(),()),(false,dflt .unit,(true,(k0,l0,()),dflt .unit)))
 else none
 else none
 else none
 else
 orK (E := (((Bool)×(((ByteArray)×((Int)×(Unit)))×((Bool)×((Unit)×(Unit)))))×(Unit))×((Z0)×(Unit)))
 (bif decide (List.length i=List.length i) then
 bif decide (List.length j=List.length j) then
 bif decide (List.length k=List.length k) then
 Option.bind (p114 fu ((a,c,f,h,i,j,k,l,m,n,o,q,s,t,u,w,x,y,z,a0,(),()),())) fun ⟨⟨⟨m0,n0,o0,q0,s0,t0,u0,w0,x0,y0,z0,a1,c1,f1,h1,i1,j1,k1,l1,m1,_,_⟩,_,_,_,_⟩,⟨n1,⟨o1,q1,_⟩,⟨s1,_,_⟩⟩⟩ =>
 bif n1 then
 bif decide (List.length s0=List.length s0) then
 bif decide (List.length t0=List.length t0) then
 bif decide (List.length u0=List.length u0) then
 some (.inl (((true,(o1,q1,()),dflt (.pair .bool (.pair .unit .unit))),()),((m0,n0,o0,q0,s0,t0,u0,w0,x0,y0,z0,a1,c1,f1,h1,i1,j1,k1,l1,m1,(),()),())))
 else none
 else none
 else none
 else
 bif s1 then
 bif decide (List.length s0=List.length s0) then
 bif decide (List.length t0=List.length t0) then
 bif decide (List.length u0=List.length u0) then
 some (.inl (((false,dflt (.pair .str (.pair (.int .i64) .unit)),(true,(),dflt .unit)),()),((m0,n0,o0,q0,s0,t0,u0,w0,x0,y0,z0,a1,c1,f1,h1,i1,j1,k1,l1,m1,(),()),())))
 else none
 else none
 else none
 else
 bif decide (List.length s0=List.length s0) then
 bif decide (List.length t0=List.length t0) then
 bif decide (List.length u0=List.length u0) then
 some (.inl (((false,dflt (.pair .str (.pair (.int .i64) .unit)),(false,dflt .unit,())),()),((m0,n0,o0,q0,s0,t0,u0,w0,x0,y0,z0,a1,c1,f1,h1,i1,j1,k1,l1,m1,(),()),())))
 else none
 else none
 else none
 else none
 else none
 else none)
 fun ⟨⟨⟨t1,⟨u1,w1,_⟩,⟨x1,_,_⟩⟩,_⟩,⟨⟨y1,z1,a2,c2,f2,h2,i2,j2,k2,l2,m2,n2,o2,q2,s2,t2,u2,w2,x2,y2,_,_⟩,_⟩⟩ =>
 bif t1 then
 bif decide (List.length f2=List.length f2) then
 bif decide (List.length h2=List.length h2) then
 bif decide (List.length i2=List.length i2) then
 some (((y1,z1,a2,c2,f2,h2,i2,j2,k2,l2,m2,n2,o2,q2,s2,t2,u2,w2,x2,y2,[],()),(),(),(),()),(false,dflt .unit,(true,(u1,w1,()),dflt .unit)))
 else none
 else none
 else none
 else
 bif x1 then
 bif (j2==(1:Int)) then
 bif decide (List.length f2=List.length f2) then
 bif decide (List.length h2=List.length h2) then
 bif decide (List.length i2=List.length i2) then
 Option.bind (p115 fu ((y1,z1,a2,c2,f2,h2,i2,j2,k2,l2,m2,n2,o2,q2,s2,t2,u2,w2,x2,y2,(),()),())) fun ⟨⟨⟨z2,a3,c3,f3,h3,i3,j3,k3,l3,m3,n3,o3,q3,s3,t3,u3,w3,x3,y3,z3,_,_⟩,_,_,_,_⟩,⟨a4,_,⟨c4,f4,_⟩⟩⟩ =>
 bif a4 then
 bif decide (List.length i3=List.length i3) then
 bif decide (List.length j3=List.length j3) then
 some (((z2,a3,c3,f3,h3,i3,j3,k3,l3,m3,n3,o3,q3,s3,t3,u3,w3,x3,y3,z3,[],()),(),(),(),()),(true,(),dflt (.pair .bool (.pair (.pair .str (.pair (.int .i64) .unit)) .unit))))
 else none
 else none
 else
 bif decide (List.length i3=List.length i3) then
 bif decide (List.length j3=List.length j3) then
 some (((z2,a3,c3,f3,h3,i3,j3,k3,l3,m3,n3,o3,q3,s3,t3,u3,w3,x3,y3,z3,[],()),(),(),(),()),(false,dflt .unit,(true,(c4,f4,()),dflt .unit)))
 else none
 else none
 else none
 else none
 else none
 else
 bif (j2==(2:Int)) then
 bif decide (List.length f2=List.length f2) then
 bif decide (List.length h2=List.length h2) then
 bif decide (List.length i2=List.length i2) then
 Option.bind (p116 fu ((y1,z1,a2,c2,f2,h2,i2,j2,k2,l2,m2,n2,o2,q2,s2,t2,u2,w2,x2,y2,(),()),())) fun ⟨⟨⟨h4,i4,j4,k4,l4,m4,n4,o4,q4,s4,t4,u4,w4,x4,y4,z4,a5,c5,f5,h5,i5,_⟩,_,_,_,_⟩,⟨j5,_,⟨k5,l5,_⟩⟩⟩ =>
 bif j5 then
 bif decide (List.length m4=List.length m4) then
 bif decide (List.length n4=List.length n4) then
 bif decide (List.length i5=List.length i5) then
 some (((h4,i4,j4,k4,l4,m4,n4,o4,q4,s4,t4,u4,w4,x4,y4,z4,a5,c5,f5,h5,i5,()),(),(),(),()),(true,(),dflt (.pair .bool (.pair (.pair .str (.pair (.int .i64) .unit)) .unit))))
 else none
 else none
 else none
 else
 bif decide (List.length m4=List.length m4) then
 bif decide (List.length n4=List.length n4) then
 bif decide (List.length i5=List.length i5) then
 some (((h4,i4,j4,k4,l4,m4,n4,o4,q4,s4,t4,u4,w4,x4,y4,z4,a5,c5,f5,h5,i5,()),(),(),(),()),(false,dflt .unit,(true,(k5,l5,()),dflt .unit)))
 else none
 else none
 else none
 else none
 else none
 else none
 else
 bif (j2==(3:Int)) then
 bif decide (List.length f2=List.length f2) then
 bif decide (List.length h2=List.length h2) then
 bif decide (List.length i2=List.length i2) then
 Option.bind (p117 fu ((y1,z1,a2,c2,f2,h2,i2,j2,k2,l2,m2,n2,o2,q2,s2,t2,u2,w2,x2,y2,(),()),())) fun ⟨⟨⟨m5,n5,o5,q5,s5,t5,u5,w5,x5,y5,z5,a6,c6,f6,h6,i6,j6,k6,l6,m6,_,_⟩,_,_,_,_⟩,⟨n6,_,⟨o6,q6,_⟩⟩⟩ =>
 bif n6 then
 bif decide (List.length s5=List.length s5) then
 bif decide (List.length t5=List.length t5) then
 bif decide (List.length u5=List.length u5) then
 some (((m5,n5,o5,q5,s5,t5,u5,w5,x5,y5,z5,a6,c6,f6,h6,i6,j6,k6,l6,m6,[],()),(),(),(),()),(true,(),dflt (.pair .bool (.pair (.pair .str (.pair (.int .i64) .unit)) .unit))))
 else none
 else none
 else none
 else
 bif decide (List.length s5=List.length s5) then
 bif decide (List.length t5=List.length t5) then
 bif decide (List.length u5=List.length u5) then
 some (((m5,n5,o5,q5,s5,t5,u5,w5,x5,y5,z5,a6,c6,f6,h6,i6,j6,k6,l6,m6,[],()),(),(),(),()),(false,dflt .unit,(true,(o6,q6,()),dflt .unit)))
 else none
 else none
 else none
 else none
 else none
 else none
 else
 bif (j2==(4:Int)) then
 bif decide (List.length i2=List.length i2) then
 Option.bind (p118 fu (i2,t2,())) fun ⟨_,⟨s6,t6,_⟩⟩ =>
 bif decide (List.length f2=List.length f2) then
 bif decide (List.length h2=List.length h2) then
 bif decide (List.length i2=List.length i2) then
 some (((y1,z1,a2,c2,f2,h2,i2,j2,k2,l2,m2,n2,o2,q2,s2,t2,u2,w2,s6,t6,[],()),(),(),(),()),(true,(),dflt (.pair .bool (.pair (.pair .str (.pair (.int .i64) .unit)) .unit))))
 else none
 else none
 else none
 else none
 else
 bif (j2==(5:Int)) then
 bif decide (List.length f2=List.length f2) then
 bif decide (List.length h2=List.length h2) then
 bif decide (List.length i2=List.length i2) then
 some (((y1,z1,a2,u2,f2,h2,i2,j2,k2,l2,m2,n2,o2,q2,s2,t2,u2,w2,x2,(c2 != (0:Int)),[],()),(),(),(),()),(true,(),dflt (.pair .bool (.pair (.pair .str (.pair (.int .i64) .unit)) .unit))))
 else none
 else none
 else none
 else
 bif (j2==(6:Int)) then
 bif decide (List.length f2=List.length f2) then
 bif decide (List.length h2=List.length h2) then
 bif decide (List.length i2=List.length i2) then
 some (((y1,z1,a2,(0:Int),f2,h2,i2,j2,k2,l2,m2,n2,o2,q2,s2,t2,u2,w2,x2,(c2==(0:Int)),[],()),(),(),(),()),(true,(),dflt (.pair .bool (.pair (.pair .str (.pair (.int .i64) .unit)) .unit))))
 else none
 else none
 else none
 else
 bif decide (List.length f2=List.length f2) then
 bif decide (List.length h2=List.length h2) then
 bif decide (List.length i2=List.length i2) then
 some (((y1,z1,a2,c2,f2,h2,i2,j2,k2,l2,m2,n2,o2,q2,s2,t2,u2,w2,x2,y2,[],()),(),(),(),()),(true,(),dflt (.pair .bool (.pair (.pair .str (.pair (.int .i64) .unit)) .unit))))
 else none
 else none
 else none
 else
 bif decide (List.length f2=List.length f2) then
 bif decide (List.length h2=List.length h2) then
 bif decide (List.length i2=List.length i2) then
 some (((y1,z1,a2,c2,f2,h2,i2,j2,k2,l2,m2,n2,o2,q2,s2,t2,u2,w2,x2,y2,[],()),(),(),(),()),(false,dflt .unit,(false,dflt (.pair .str (.pair (.int .i64) .unit)),())))
 else none
 else none
 else none
def e62 (fu:Nat):Ent := ⟨62,(.cons Y9 .nil),(.cons Y13 (.cons .dead (.cons .dead (.cons .dead .nil)))),(.alt (.nilv 1) (.alt (.ifc 101 (.look (.cons (.hole .str) (.cons (.hole (.int .i64)) .nil)))) (.cst 0 227))),p62 fu⟩
def d62 (fu:Nat):DC := (.seq (.region [opD 2 (.mov (.const .nilIface))] [[]] false) (.seq (.seq (.region [mvD 4 0,opD 5 (.pure .nilc [(tD 4)]),opD 6 (.faddr 7 (tD 5)),opD 7 (.load true 10 (tD 6)),oqD 8 (.call 88 [(tD 7)]) (.ent (e88 fu)),opD 9 (.not (tD 8))] [[],[0],[1],[2],[3],[4]] false) (.cond (.tmp 9) (.seq (.region [oqD 10 (.call 113 [(.const (.string ⟨#[97,32,99,111,109,109,97,110,100,32,116,104,97,116,32,105,115,32,110,111,116,32,119,101,108,108,32,102,111,114,109,101,100]⟩)),(cD 161)]) (.ent (e113 fu)),mvD 2 10] [[],[0,0,0]] false) .ret) .skip)) (.seq (.seq (.region [mvD 11 0,opD 12 (.pure .nilc [(tD 11)]),opD 13 (.faddr 7 (tD 12)),opD 14 (.faddr 1 (tD 13)),opD 15 (.load false 1 (tD 14)),mvD 16 0,opD 17 (.pure .nilc [(tD 16)]),opD 18 (.faddr 0 (tD 17)),opD 19 (.faddr 2 (tD 18)),opD 20 (.load false 1 (tD 19)),opD 21 (.bin .neq (tD 15) (tD 20))] [[],[0],[1],[2],[3],[],[5],[6],[7],[8],[4,9]] true) (.cond (.tmp 21) (.seq (.region [oqD 22 (.call 113 [(.const (.string ⟨#[97,110,111,116,104,101,114,32,101,112,111,99,104]⟩)),(cD 162)]) (.ent (e113 fu)),mvD 2 22] [[],[0,0,0]] false) .ret) .skip)) (.seq (.join ⟨[3],(.cons (.alt (.ifc 101 (.look (.cons (.hole .str) (.cons (.hole (.int .i64)) .nil)))) (.alt (.nilv 1) (.cst 0 227))) .nil),[(0,97,21)],(.cons Y10 .nil),[0],[1,2,3]⟩
 (.region [mvD 23 0,oqD 24 (.call 114 [(tD 23)]) (.ent (e114 fu)),mvD 3 24] [[],[0],[1,1,0,1]] false)
 (.seq (.region [mvD 25 3,opD 26 (.pure (.nilq 1 true) [(tD 25)])] [[],[0]] false) (.cond (.tmp 26) (.seq (.region [mvD 27 3,mvD 2 27] [[],[0,0]] false) .ret) .skip))) (.seq (.seq (.region [mvD 28 0,opD 29 (.pure .nilc [(tD 28)]),opD 30 (.faddr 7 (tD 29)),opD 31 (.faddr 0 (tD 30)),opD 32 (.load false 1 (tD 31))] [[],[0],[1],[2],[3]] false) (.block 0 (.seq (.region [opD 34 (.bin .eql (tD 32) (cD 1)),mvD 33 34] [[],[0]] false) (.cond (.tmp 33) (.seq (.region [mvD 35 0,oqD 36 (.call 115 [(tD 35)]) (.ent (e115 fu)),mvD 2 36] [[],[0],[1,1,0,1]] false) .ret) (.seq (.region [opD 38 (.bin .eql (tD 32) (cD 2)),mvD 37 38] [[],[0]] false) (.cond (.tmp 37) (.seq (.region [mvD 39 0,oqD 40 (.call 116 [(tD 39)]) (.ent (e116 fu)),mvD 2 40] [[],[0],[1,1,0,1]] false) .ret) (.seq (.region [opD 42 (.bin .eql (tD 32) (cD 3)),mvD 41 42] [[],[0]] false) (.cond (.tmp 41) (.seq (.region [mvD 43 0,oqD 44 (.call 117 [(tD 43)]) (.ent (e117 fu)),mvD 2 44] [[],[0],[1,1,0,1]] false) .ret) (.seq (.region [opD 46 (.bin .eql (tD 32) (cD 4)),mvD 45 46] [[],[0]] false) (.cond (.tmp 45) (.region [mvD 48 0,mvD 49 0,mvD 50 0,opD 51 (.pure .nilc [(tD 50)]),opD 52 (.faddr 0 (tD 51)),opD 53 (.faddr 6 (tD 52)),opD 54 (.load false 1 (tD 53)),mvD 55 0,opD 56 (.pure .nilc [(tD 55)]),opD 57 (.faddr 7 (tD 56)),opD 58 (.faddr 8 (tD 57)),opD 59 (.load false 1 (tD 58)),oqD 60 (.call 118 [(tD 54),(tD 59)]) (.ent (e118 fu)),mvD 47 60,opD 61 (.ext (tD 47) 0),opD 62 (.ext (tD 47) 1),opD 63 (.pure .nilc [(tD 48)]),opD 64 (.faddr 17 (tD 63)),opD 65 (.faddr 1 (tD 64)),onD (.store 1 (tD 65) (tD 61)),opD 66 (.pure .nilc [(tD 49)]),opD 67 (.faddr 17 (tD 66)),opD 68 (.faddr 2 (tD 67)),onD (.store 1 (tD 68) (tD 62))] [[],[],[],[2],[3],[4],[5],[],[7],[8],[9],[10],[6,11],[12],[13],[13],[0,0,2,3,4,5,6,7,8,9,10,11,12,13,14],[16,0,2,3,4,5,6,7,8,9,10,11,12,13,14],[17,0,2,3,4,5,6,7,8,9,10,11,12,13,14],[18,14,12,0,2,3,4,5,6,7,8,9,10,11,12,13,14],[1,0,1,2,3,4,5,6,7,8,9,10,11,12,13,14,15,16,17,18,19],[20,0,1,2,3,4,5,6,7,8,9,10,11,12,13,14,15,16,17,18,19],[21,0,1,2,3,4,5,6,7,8,9,10,11,12,13,14,15,16,17,18,19],[22,15,19,0,1,2,3,4,5,6,7,8,9,10,11,12,13,14,15,16,17,18,19]] true) (.seq (.region [opD 70 (.bin .eql (tD 32) (cD 5)),mvD 69 70] [[],[0]] false) (.cond (.tmp 69) (.seq (.region [mvD 71 0,mvD 72 0,opD 73 (.pure .nilc [(tD 72)]),opD 74 (.faddr 0 (tD 73)),opD 75 (.faddr 3 (tD 74)),opD 76 (.load false 1 (tD 75)),opD 77 (.bin .neq (tD 76) (.const vU)),opD 78 (.pure .nilc [(tD 71)]),opD 79 (.faddr 17 (tD 78)),opD 80 (.faddr 2 (tD 79)),onD (.store 1 (tD 80) (tD 77))] [[],[],[1],[2],[3],[4],[5],[0,0,1,2,3,4,5,6],[7,0,1,2,3,4,5,6],[8,0,1,2,3,4,5,6],[9,6,0,1,2,3,4,5,6]] false) (.region [mvD 81 0,mvD 82 0,opD 83 (.pure .nilc [(tD 82)]),opD 84 (.faddr 7 (tD 83)),opD 85 (.faddr 9 (tD 84)),opD 86 (.load false 1 (tD 85)),opD 87 (.pure .nilc [(tD 81)]),opD 88 (.faddr 0 (tD 87)),opD 89 (.faddr 3 (tD 88)),onD (.store 1 (tD 89) (tD 86))] [[],[],[1],[2],[3],[4],[0,0,1,2,3,4,5],[6,0,1,2,3,4,5],[7,0,1,2,3,4,5],[8,5,0,1,2,3,4,5]] false)) (.seq (.region [opD 91 (.bin .eql (tD 32) (cD 6)),mvD 90 91] [[],[0]] false) (.cond (.tmp 90) (.seq (.region [mvD 92 0,mvD 93 0,opD 94 (.pure .nilc [(tD 93)]),opD 95 (.faddr 0 (tD 94)),opD 96 (.faddr 3 (tD 95)),opD 97 (.load false 1 (tD 96)),opD 98 (.bin .eql (tD 97) (.const vU)),opD 99 (.pure .nilc [(tD 92)]),opD 100 (.faddr 17 (tD 99)),opD 101 (.faddr 2 (tD 100)),onD (.store 1 (tD 101) (tD 98))] [[],[],[1],[2],[3],[4],[5],[0,0,1,2,3,4,5,6],[7,0,1,2,3,4,5,6],[8,0,1,2,3,4,5,6],[9,6,0,1,2,3,4,5,6]] false) (.region [mvD 102 0,opD 103 (.pure .nilc [(tD 102)]),opD 104 (.faddr 0 (tD 103)),opD 105 (.faddr 3 (tD 104)),onD (.store 1 (tD 105) (.const vU))] [[],[0,0],[1,0],[2,0],[3,0]] false)) .skip)))))))))))))) (.seq (.region [opD 2 (.mov (.const .nilIface))] [[]] false) .ret))))))
theorem v62 (fu:Nat):evF fu (d62 fu) rs62 106 (e62 fu).ash (e62 fu).osh (e62 fu).vsh=p62 fu := by kernel_rfl
theorem b62 (fu:Nat):BodyD Tryz.prog 62 106 (d62 fu).erase rs62 := bodyD_mk Tryz.func62 (by kernel_rfl) (by kernel_rfl) (by kernel_rfl) (by kernel_rfl)
theorem g62 (fu:Nat):(e62 fu).Good Tryz.prog := good_by orders (b62 fu) (l := [e88 fu,e113 fu,e113 fu,e114 fu,e115 fu,e116 fu,e117 fu,e118 fu]) (by kernel_rfl) ⟨g88 fu,g113 fu,g113 fu,g114 fu,g115 fu,g116 fu,g117 fu,g118 fu,trivial⟩ (by kernel_rfl) (v62 fu)
def rs14:List RVx := [(.cell 4 true 7),(.cell 5 true 4)]
def p14 (fu:Nat):(Z3)×((Z8)×(Unit))→Option ((Unit)×((Z3)×(((Int)×((Int)×((Bool)×((List (D_api_Record))×(Unit)))))×(Unit)))) := fun ⟨⟨a,c,f,h,i,j,k,_⟩,⟨l,m,n,o,q,s,t,u,w,x,_⟩,_⟩ =>
Option.bind (p10 fu ((a,c,f,h,i,j,k,()),())) fun ⟨_,y⟩ =>
bif (y != (0:Int)) then
 some ((),(((⟨#[]⟩:ByteArray),(⟨#[]⟩:ByteArray),(0:Int),(0:Int),[],[],[],()),(y,(0:Int),false,[],()),()))
else
 Option.bind (p61 fu ((a,c,f,h,i,j,k,()),())) fun ⟨_,⟨z,a0,c0,f0,h0,i0,j0,_⟩⟩ =>
 orK (E := (((Bool)×((Unit)×((Bool)×(((ByteArray)×((Int)×(Unit)))×(Unit)))))×(Unit))×((Z2)×(Unit)))
 (bif decide (List.length h0=List.length h0) then
 bif decide (List.length i0=List.length i0) then
 bif decide (List.length j0=List.length j0) then
 Option.bind (p62 fu ((z,a0,c0,f0,h0,i0,j0,l,m,n,o,q,s,t,u,w,x,(0:Int),(0:Int),false,(),()),())) fun ⟨⟨⟨k0,l0,m0,n0,o0,q0,s0,t0,u0,w0,x0,y0,z0,a1,c1,f1,h1,i1,j1,k1,l1,_⟩,_,_,_,_⟩,⟨m1,_,⟨n1,⟨o1,q1,_⟩,_⟩⟩⟩ =>
 bif m1 then
 bif decide (List.length q0=List.length q0) then
 bif decide (List.length s0=List.length s0) then
 bif decide (List.length l1=List.length l1) then
 some (.inl (((true,(),dflt (.pair .bool (.pair (.pair .str (.pair (.int .i64) .unit)) .unit))),()),((k0,l0,m0,n0,o0,q0,s0,t0,u0,w0,x0,y0,z0,a1,c1,f1,h1,i1,j1,k1,l1,()),())))
 else none
 else none
 else none
 else
 bif n1 then
 bif decide (List.length q0=List.length q0) then
 bif decide (List.length s0=List.length s0) then
 bif decide (List.length l1=List.length l1) then
 some (.inl (((false,dflt .unit,(true,(o1,q1,()),dflt .unit)),()),((k0,l0,m0,n0,o0,q0,s0,t0,u0,w0,x0,y0,z0,a1,c1,f1,h1,i1,j1,k1,l1,()),())))
 else none
 else none
 else none
 else
 bif decide (List.length q0=List.length q0) then
 bif decide (List.length s0=List.length s0) then
 bif decide (List.length l1=List.length l1) then
 some (.inl (((false,dflt .unit,(false,dflt (.pair .str (.pair (.int .i64) .unit)),())),()),((k0,l0,m0,n0,o0,q0,s0,t0,u0,w0,x0,y0,z0,a1,c1,f1,h1,i1,j1,k1,l1,()),())))
 else none
 else none
 else none
 else none
 else none
 else none)
 fun ⟨⟨⟨s1,_,⟨t1,⟨u1,w1,_⟩,_⟩⟩,_⟩,⟨⟨x1,y1,z1,a2,c2,f2,h2,_,_,_,_,_,_,_,_,_,_,i2,j2,k2,l2,_⟩,_⟩⟩ =>
 bif s1 then
 orK (E := (Unit)×(Unit))
 (orK (E := ((Bool)×(Unit))×((((Bool)×((Unit)×((ByteArray)×((Int)×(Unit)))))×(Unit))×(Unit)))
 (Option.bind (pIs fu ((true,(),dflt (.pair .bool (.pair (.pair .str (.pair (.int .i64) .unit)) .unit))),(),())) fun ⟨_,m2⟩ =>
 bif !m2 then
 Option.bind (pAsR fu ((true,(),dflt (.pair .bool (.pair (.pair .str (.pair (.int .i64) .unit)) .unit))),((),()),())) fun ⟨⟨⟨⟨n2,_,⟨o2,q2,_⟩⟩,_⟩,_⟩,s2⟩ =>
 bif n2 then
 some (.inl ((s2,()),(((true,(),dflt (.pair .str (.pair (.int .i64) .unit))),()),())))
 else
 some (.inl ((s2,()),(((false,dflt .unit,(o2,q2,())),()),())))
 else
 some (.inl ((false,()),(((true,(),dflt (.pair .str (.pair (.int .i64) .unit))),()),()))))
 fun ⟨⟨t2,_⟩,⟨⟨⟨u2,_,⟨_,w2,_⟩⟩,_⟩,_⟩⟩ =>
 bif u2 then
 bif t2 then
 Option.bind (p61 fu ((a,c,f,h,i,j,k,()),())) fun ⟨_,⟨_,_,_,_,_,_,_,_⟩⟩ =>
 none
 else
 some (.inl ((),()))
 else
 bif t2 then
 Option.bind (p61 fu ((a,c,f,h,i,j,k,()),())) fun ⟨_,⟨x2,y2,z2,a3,c3,f3,h3,_⟩⟩ =>
 inrO (bif decide (List.length c3=List.length c3) then
 bif decide (List.length f3=List.length f3) then
 bif decide (List.length h3=List.length h3) then
 some ((),((x2,y2,z2,a3,c3,f3,h3,()),(w2,(0:Int),false,[],()),()))
 else none
 else none
 else none)
 else
 some (.inl ((),())))
 fun ⟨_,_⟩ =>
 bif decide (List.length f2=List.length f2) then
 bif decide (List.length h2=List.length h2) then
 bif decide (List.length l2=List.length l2) then
 some ((),((x1,y1,z1,a2,c2,f2,h2,()),(i2,j2,k2,l2,()),()))
 else none
 else none
 else none
 else
 bif t1 then
 orK (E := (Unit)×(Unit))
 (orK (E := ((Bool)×(Unit))×((((Bool)×((Unit)×((ByteArray)×((Int)×(Unit)))))×(Unit))×(Unit)))
 (Option.bind (pIs fu ((false,dflt .unit,(true,(u1,w1,()),dflt .unit)),(),())) fun ⟨_,i3⟩ =>
 bif !i3 then
 Option.bind (pAsR fu ((false,dflt .unit,(true,(u1,w1,()),dflt .unit)),((),()),())) fun ⟨⟨⟨⟨j3,_,⟨k3,l3,_⟩⟩,_⟩,_⟩,m3⟩ =>
 bif j3 then
 some (.inl ((m3,()),(((true,(),dflt (.pair .str (.pair (.int .i64) .unit))),()),())))
 else
 some (.inl ((m3,()),(((false,dflt .unit,(k3,l3,())),()),())))
 else
 some (.inl ((false,()),(((true,(),dflt (.pair .str (.pair (.int .i64) .unit))),()),()))))
 fun ⟨⟨t2,_⟩,⟨⟨⟨u2,_,⟨_,w2,_⟩⟩,_⟩,_⟩⟩ =>
 bif u2 then
 bif t2 then
 Option.bind (p61 fu ((a,c,f,h,i,j,k,()),())) fun ⟨_,⟨_,_,_,_,_,_,_,_⟩⟩ =>
 none
 else
 some (.inl ((),()))
 else
 bif t2 then
 Option.bind (p61 fu ((a,c,f,h,i,j,k,()),())) fun ⟨_,⟨n3,o3,q3,s3,t3,u3,w3,_⟩⟩ =>
 inrO (bif decide (List.length t3=List.length t3) then
 bif decide (List.length u3=List.length u3) then
 bif decide (List.length w3=List.length w3) then
 some ((),((n3,o3,q3,s3,t3,u3,w3,()),(w2,(0:Int),false,[],()),()))
 else none
 else none
 else none)
 else
 some (.inl ((),())))
 fun ⟨_,_⟩ =>
 bif decide (List.length f2=List.length f2) then
 bif decide (List.length h2=List.length h2) then
 bif decide (List.length l2=List.length l2) then
 some ((),((x1,y1,z1,a2,c2,f2,h2,()),(i2,j2,k2,l2,()),()))
 else none
 else none
 else none
 else
 orK (E := (Unit)×(Unit))
 (orK (E := ((Bool)×(Unit))×((((Bool)×((Unit)×((ByteArray)×((Int)×(Unit)))))×(Unit))×(Unit)))
 (Option.bind (pIs fu ((false,dflt .unit,(false,dflt (.pair .str (.pair (.int .i64) .unit)),())),(),())) fun ⟨_,x3⟩ =>
 bif !x3 then
 Option.bind (pAsR fu ((false,dflt .unit,(false,dflt (.pair .str (.pair (.int .i64) .unit)),())),((),()),())) fun ⟨⟨⟨⟨y3,_,⟨z3,a4,_⟩⟩,_⟩,_⟩,c4⟩ =>
 bif y3 then
 some (.inl ((c4,()),(((true,(),dflt (.pair .str (.pair (.int .i64) .unit))),()),())))
 else
 some (.inl ((c4,()),(((false,dflt .unit,(z3,a4,())),()),())))
 else
 some (.inl ((false,()),(((true,(),dflt (.pair .str (.pair (.int .i64) .unit))),()),()))))
 fun ⟨⟨t2,_⟩,⟨⟨⟨u2,_,⟨_,w2,_⟩⟩,_⟩,_⟩⟩ =>
 bif u2 then
 bif t2 then
 Option.bind (p61 fu ((a,c,f,h,i,j,k,()),())) fun ⟨_,⟨_,_,_,_,_,_,_,_⟩⟩ =>
 none
 else
 some (.inl ((),()))
 else
 bif t2 then
 Option.bind (p61 fu ((a,c,f,h,i,j,k,()),())) fun ⟨_,⟨f4,h4,i4,j4,k4,l4,m4,_⟩⟩ =>
 inrO (bif decide (List.length k4=List.length k4) then
 bif decide (List.length l4=List.length l4) then
 bif decide (List.length m4=List.length m4) then
 some ((),((f4,h4,i4,j4,k4,l4,m4,()),(w2,(0:Int),false,[],()),()))
 else none
 else none
 else none)
 else
 some (.inl ((),())))
 fun ⟨_,_⟩ =>
 bif decide (List.length f2=List.length f2) then
 bif decide (List.length h2=List.length h2) then
 bif decide (List.length l2=List.length l2) then
 some ((),((x1,y1,z1,a2,c2,f2,h2,()),(i2,j2,k2,l2,()),()))
 else none
 else none
 else none
def e14 (fu:Nat):Ent := ⟨14,(.cons Y5 (.cons Y6 .nil)),.nil,(.tup 2 (.cons Y14 (.cons Y15 .nil))),p14 fu⟩
def d14 (fu:Nat):DC := (.seq (.region [opD 2 (.box 29 7 (tD 0)),opD 3 (.box 44 10 (tD 1)),opD 4 (.alloc 29 7 [vT,vT,vU,vU,vS,vS,vS]),opD 5 (.alloc 39 4 [vI,vU,vB,vS])] [[],[],[],[]] false) (.seq (.seq (.region [opD 10 (.load true 7 (tD 2)),oqD 11 (.call 10 [(tD 10)]) (.ent (e10 fu)),mvD 6 11] [[],[0],[1,1,0,1]] false) (.seq (.region [mvD 12 6,opD 13 (.bin .neq (tD 12) (cD 0))] [[],[0]] false) (.cond (.tmp 13) (.seq (.region [opD 14 (.build 7 [vT,vT,vU,vU,vS,vS,vS] []),mvD 15 6,opD 16 (.build 4 [vI,vU,vB,vS] [(0,(1,(tD 15)))]),onD (.store 7 (tD 4) (tD 14)),onD (.store 4 (tD 5) (tD 16))] [[],[],[1],[0,0],[2,3,0,1,2,3]] false) .ret) .skip))) (.seq (.region [opD 17 (.load true 7 (tD 2)),oqD 18 (.call 61 [(tD 17)]) (.ent (e61 fu)),opD 19 (.load true 10 (tD 3)),opD 20 (.build 21 [vT,vT,vU,vU,vS,vS,vS,vI,vU,vU,vU,vT,vS,vU,vI,vT,vU,vI,vU,vB,vS] [(0,(7,(tD 18))),(7,(10,(tD 19)))]),opD 21 (.box 97 21 (tD 20)),mvD 7 21] [[],[0],[],[1,2],[3],[4,1,0,1,2,3,4]] true) (.join ⟨[8],(.cons (.alt (.nilv 1) (.alt (.ifc 101 (.look (.cons (.hole .str) (.cons (.hole (.int .i64)) .nil)))) (.cst 0 227))) .nil),[(208,97,21)],(.cons Y13 .nil),[2,4,5,7],[0,32,48]⟩
 (.region [mvD 22 7,oqD 23 (.call 62 [(tD 22)]) (.ent (e62 fu)),mvD 8 23] [[],[0],[1,1,0,1]] false)
 (.seq (.region [opD 9 (.alloc 101 1 [(.pointer none)])] [[]] false) (.join ⟨[],.nil,[],.nil,[4,5,7],[32,48,208,240,241,242]⟩
 (.join ⟨[32],(.cons (.hole .bool) .nil),[(243,101,1)],(.cons (.agg 1 (.cons (.alt .nilp (.look (.cons (.hole .str) (.cons (.hole (.int .i64)) .nil)))) .nil)) .nil),[2,4,5,7,9],[0,32,48,208,240,241,242]⟩
 (.region [mvD 24 8,opD 25 (.load false 1 (.global 0)),oqD 26 (.call 63 [(tD 24),(tD 25)]) (.ent (eIs fu)),opD 27 (.not (tD 26)),mvD 28 27,ogD 29 28 true (.mov (tD 8)),ogD 30 28 true (.ifc 104 (tD 9)),(⟨(some 31),(some (28,true)),(.call 64 [(tD 29),(tD 30)])⟩,(.ent (eAsR fu))),opD 32 (.pick (tD 28) (tD 31) (.const vB))] [[],[],[0,1],[2],[3,2],[4],[4],[5,6,4,4],[4,7]] false)
 (.cond (.tmp 32) (.seq (.region [opD 33 (.load true 7 (tD 2)),oqD 34 (.call 61 [(tD 33)]) (.ent (e61 fu)),opD 35 (.load false 1 (tD 9)),opD 36 (.pure .nilc [(tD 35)]),opD 37 (.faddr 1 (tD 36)),opD 38 (.load false 1 (tD 37)),opD 39 (.build 4 [vI,vU,vB,vS] [(0,(1,(tD 38)))]),onD (.store 7 (tD 4) (tD 34)),onD (.store 4 (tD 5) (tD 39))] [[],[0],[],[2],[3],[4],[5],[1,1,0,1],[6,7,0,1,2,3,4,5,6,7]] true) .ret) .skip))
 (.seq (.region [mvD 40 7,opD 41 (.pure .nilc [(tD 40)]),opD 42 (.faddr 0 (tD 41)),opD 43 (.load true 7 (tD 42)),mvD 44 7,opD 45 (.pure .nilc [(tD 44)]),opD 46 (.faddr 17 (tD 45)),opD 47 (.load true 4 (tD 46)),onD (.store 7 (tD 4) (tD 43)),onD (.store 4 (tD 5) (tD 47))] [[],[0],[1],[2],[],[4],[5],[6],[3,0,1,2,3],[7,8,0,1,2,3,4,5,6,7,8]] true) .ret)))))))
theorem v14 (fu:Nat):evF fu (d14 fu) rs14 48 (e14 fu).ash (e14 fu).osh (e14 fu).vsh=p14 fu := by kernel_rfl
theorem b14 (fu:Nat):BodyD Tryz.prog 14 48 (d14 fu).erase rs14 := bodyD_mk Tryz.func14 (by kernel_rfl) (by kernel_rfl) (by kernel_rfl) (by kernel_rfl)
theorem g14 (fu:Nat):(e14 fu).Good Tryz.prog := good_by orders (b14 fu) (l := [e10 fu,e61 fu,e62 fu,eIs fu,eAsR fu,e61 fu]) (by kernel_rfl) ⟨g10 fu,g61 fu,g62 fu,gIs fu,gAsR fu,g61 fu,trivial⟩ (by kernel_rfl) (v14 fu)
def rs9:List RVx := [(.tmp 0)]
def p9 (fu:Nat):Unit→Option ((Unit)×(Bool)) := fun _ =>
Option.bind (p19 fu (((⟨#[]⟩:ByteArray),(⟨#[]⟩:ByteArray),()),(1:Int),())) fun ⟨_,⟨⟨a,c,f,h,i,j,k,_⟩,l,_⟩⟩ =>
Option.bind (p35 fu ((1:Int),(⟨#[107]⟩:ByteArray),())) fun ⟨_,⟨m,n,o,q,s,t,u,w,x,y,_⟩⟩ =>
Option.bind (p14 fu ((a,c,f,h,i,j,k,()),(m,n,o,q,s,t,u,w,x,y,()),())) fun ⟨_,⟨⟨z,a0,c0,f0,h0,i0,j0,_⟩,⟨k0,_,_,_,_⟩,_⟩⟩ =>
Option.bind (p35 fu ((1:Int),(⟨#[107]⟩:ByteArray),())) fun ⟨_,⟨l0,m0,n0,o0,q0,s0,t0,u0,w0,x0,_⟩⟩ =>
bif decide (List.length i0=List.length i0) then
 bif decide (List.length j0=List.length j0) then
 Option.bind (p14 fu ((z,a0,c0,f0,h0,i0,j0,()),(l0,m0,n0,o0,q0,s0,t0,u0,w0,x0,()),())) fun ⟨_,⟨⟨_,_,_,_,_,_,_,_⟩,⟨y0,_,z0,_,_⟩,_⟩⟩ =>
 bif (l==(0:Int)) then
 bif (k0==(0:Int)) then
 bif ((List.length h0:Int)==(1:Int)) then
 bif z0 then
 some ((),(y0==(0:Int)))
 else
 some ((),false)
 else
 some ((),false)
 else
 some ((),false)
 else
 some ((),false)
 else none
else none
def e9 (fu:Nat):Ent := ⟨9,.nil,.nil,(.hole .bool),p9 fu⟩
def d9 (fu:Nat):DC := (.seq (.region [opD 0 (.mov (.const vB))] [[]] false) (.seq (.region [opD 8 (.build 2 [vT,vT] []),oqD 9 (.call 19 [(tD 8),(.const (.int .u64 1))]) (.ent (e19 fu)),mvD 7 9,opD 10 (.ext (tD 7) 0),opD 11 (.ext (tD 7) 1),opD 1 (.alloc 29 7 [vT,vT,vU,vU,vS,vS,vS]),onD (.store 7 (tD 1) (tD 10)),mvD 2 11] [[],[0],[1],[2],[2],[],[5,3,1,0,1,2,3,5],[4,6,0,1,2,3,4,5,6]] false) (.seq (.region [opD 13 (.load true 7 (tD 1)),oqD 14 (.call 35 [(.const (.int .u64 1)),(.const (.string ⟨#[107]⟩))]) (.ent (e35 fu)),oqD 15 (.call 14 [(tD 13),(tD 14)]) (.ent (e14 fu)),mvD 12 15,opD 16 (.ext (tD 12) 0),opD 17 (.ext (tD 12) 1),opD 3 (.alloc 29 7 [vT,vT,vU,vU,vS,vS,vS]),opD 4 (.alloc 39 4 [vI,vU,vB,vS]),onD (.store 7 (tD 3) (tD 16)),onD (.store 4 (tD 4) (tD 17))] [[],[],[0,1,1],[2],[3],[3],[],[],[6,4,2,0,1,2,3,4,6,7],[7,5,8,0,1,2,3,4,5,6,7,8]] true) (.seq (.region [opD 19 (.load true 7 (tD 3)),oqD 20 (.call 35 [(.const (.int .u64 1)),(.const (.string ⟨#[107]⟩))]) (.ent (e35 fu)),oqD 21 (.call 14 [(tD 19),(tD 20)]) (.ent (e14 fu)),mvD 18 21,opD 22 (.ext (tD 18) 0),opD 23 (.ext (tD 18) 1),opD 5 (.alloc 29 7 [vT,vT,vU,vU,vS,vS,vS]),opD 6 (.alloc 39 4 [vI,vU,vB,vS]),onD (.store 7 (tD 5) (tD 22)),onD (.store 4 (tD 6) (tD 23))] [[],[],[0,1,1],[2],[3],[3],[],[],[6,4,2,0,1,2,3,4,6,7],[7,5,8,0,1,2,3,4,5,6,7,8]] true) (.seq (.region [mvD 24 2,opD 25 (.bin .eql (tD 24) (cD 0)),mvD 26 25,ogD 27 26 true (.faddr 0 (tD 4)),ogD 28 26 true (.load false 1 (tD 27)),ogD 29 26 true (.bin .eql (tD 28) (cD 0)),opD 30 (.pick (tD 26) (tD 29) (.const vB)),mvD 31 30,ogD 32 31 true (.faddr 4 (tD 3)),ogD 33 31 true (.load false 1 (tD 32)),ogD 34 31 true (.len false (tD 33)),ogD 35 31 true (.bin .eql (tD 34) (cD 1)),opD 36 (.pick (tD 31) (tD 35) (.const vB)),mvD 37 36,ogD 38 37 true (.faddr 2 (tD 6)),ogD 39 37 true (.load false 1 (tD 38)),opD 40 (.pick (tD 37) (tD 39) (.const vB)),mvD 41 40,ogD 42 41 true (.faddr 0 (tD 6)),ogD 43 41 true (.load false 1 (tD 42)),ogD 44 41 true (.bin .eql (tD 43) (cD 0)),opD 45 (.pick (tD 41) (tD 44) (.const vB)),mvD 0 45] [[],[0],[1],[2],[3,2],[4,2],[2,5],[6,2],[7],[8,7],[9,7],[10,7],[7,11],[12,7],[13],[14,13],[13,15],[16,13],[17],[18,17],[19,17],[17,20],[21,17,0,1,2,3,4,5,6,7,8,9,10,11,12,13,14,15,16,17,18,19,20,21]] false) .ret)))))
theorem v9 (fu:Nat):evF fu (d9 fu) rs9 46 (e9 fu).ash (e9 fu).osh (e9 fu).vsh=p9 fu := by kernel_rfl
theorem b9 (fu:Nat):BodyD Tryz.prog 9 46 (d9 fu).erase rs9 := bodyD_mk Tryz.func9 (by kernel_rfl) (by kernel_rfl) (by kernel_rfl) (by kernel_rfl)
theorem g9 (fu:Nat):(e9 fu).Good Tryz.prog := good_by orders (b9 fu) (l := [e19 fu,e35 fu,e14 fu,e35 fu,e14 fu]) (by kernel_rfl) ⟨g19 fu,g35 fu,g14 fu,g35 fu,g14 fu,trivial⟩ (by kernel_rfl) (v9 fu)
def rs70:List RVx := [(.tmp 4)]
def p70 (fu:Nat):(List (D_api_Record))×((List (D_api_Record))×(Unit))→Option ((Unit)×(Bool)) := fun ⟨a,c,_⟩ =>
bif ((List.length a:Int) != (List.length c:Int)) then
 some ((),false)
else
 loopO (S := ((Int)×(Unit))×(Unit)) fu (fun ⟨⟨f,_⟩,_⟩ =>
 bif decide (f<(List.length a:Int)) then
 bif decide ((0:Int)≤f∧f<(List.length a:Int)) then
 bif decide (Int.toNat f<List.length a) then
 bif decide ((0:Int)≤f∧f<(List.length c:Int)) then
 bif decide (Int.toNat f<List.length c) then
 bif (((List.getD a (Int.toNat f) (dflt T_api_Record)).1) != ((List.getD c (Int.toNat f) (dflt T_api_Record)).1)) then
 inrO (some ((),false))
 else
 bif decide ((0:Int)≤f∧f<(List.length a:Int)) then
 bif decide (Int.toNat f<List.length a) then
 bif decide ((0:Int)≤f∧f<(List.length c:Int)) then
 bif decide (Int.toNat f<List.length c) then
 bif !(ByteArray.toList (((List.getD a (Int.toNat f) (dflt T_api_Record)).2).1)==ByteArray.toList (((List.getD c (Int.toNat f) (dflt T_api_Record)).2).1)) then
 inrO (some ((),false))
 else
 bif decide ((0:Int)≤f∧f<(List.length a:Int)) then
 bif decide (Int.toNat f<List.length a) then
 bif decide ((0:Int)≤f∧f<(List.length c:Int)) then
 bif decide (Int.toNat f<List.length c) then
 bif !(ByteArray.toList (strOfNums ((((List.getD a (Int.toNat f) (dflt T_api_Record)).2).2).1))==ByteArray.toList (strOfNums ((((List.getD c (Int.toNat f) (dflt T_api_Record)).2).2).1))) then
 inrO (some ((),false))
 else
 bif decide ((0:Int)≤f∧f<(List.length a:Int)) then
 bif decide (Int.toNat f<List.length a) then
 bif decide ((0:Int)≤f∧f<(List.length c:Int)) then
 bif decide (Int.toNat f<List.length c) then
 bif ((((((List.getD a (Int.toNat f) (dflt T_api_Record)).2).2).2).1) != (((((List.getD c (Int.toNat f) (dflt T_api_Record)).2).2).2).1)) then
 inrO (some ((),false))
 else
 bif decide ((0:Int)≤f∧f<(List.length a:Int)) then
 bif decide (Int.toNat f<List.length a) then
 bif decide ((0:Int)≤f∧f<(List.length c:Int)) then
 bif decide (Int.toNat f<List.length c) then
 bif ((((((List.getD a (Int.toNat f) (dflt T_api_Record)).2).2).2).2) != (((((List.getD c (Int.toNat f) (dflt T_api_Record)).2).2).2).2)) then
 inrO (some ((),false))
 else
 some (.inl ((IntKind.wrap .i64 (f+(1:Int)),()),()))
 else none
 else none
 else none
 else none
 else none
 else none
 else none
 else none
 else none
 else none
 else none
 else none
 else none
 else none
 else none
 else none
 else none
 else none
 else none
 else none
 else
 inrO (some ((),true)))
 (((0:Int),()),())
def e70 (fu:Nat):Ent := ⟨70,(.cons (.hole (.sl T_api_Record)) (.cons (.hole (.sl T_api_Record)) .nil)),.nil,(.hole .bool),p70 fu⟩
def d70 (_:Nat):DC := (.seq (.region [opD 4 (.mov (.const vB))] [[]] false) (.seq (.seq (.region [mvD 6 0,opD 7 (.len false (tD 6)),mvD 8 1,opD 9 (.len false (tD 8)),opD 10 (.bin .neq (tD 7) (tD 9))] [[],[0],[],[2],[1,3]] false) (.cond (.tmp 10) (.seq (.region [opD 4 (.mov (.const vB))] [[]] false) .ret) .skip)) (.seq (.seq (.region [opD 5 (.mov (cD 0))] [[]] false) (.block 0 (.loop ⟨[5],(.cons (.hole (.int .i64)) .nil),[],.nil,[0,1],[]⟩
 (.seq (.seq (.region [mvD 11 5,mvD 12 0,opD 13 (.len false (tD 12)),opD 14 (.bin .lss (tD 11) (tD 13))] [[],[],[1],[0,2]] false) (.cond (.tmp 14) .skip (.exit 0))) (.seq (.block 1 (.seq (.region [mvD 17 0,mvD 18 5,opD 19 (.iaddr 5 (tD 17) (tD 18)),opD 20 (.faddr 0 (tD 19)),opD 21 (.load false 1 (tD 20)),mvD 22 1,mvD 23 5,opD 24 (.iaddr 5 (tD 22) (tD 23)),opD 25 (.faddr 0 (tD 24)),opD 26 (.load false 1 (tD 25)),opD 27 (.bin .neq (tD 21) (tD 26)),mvD 28 27,ogD 29 28 false (.mov (tD 0)),ogD 30 28 false (.mov (tD 5)),ogD 31 28 false (.iaddr 5 (tD 29) (tD 30)),ogD 32 28 false (.faddr 1 (tD 31)),ogD 33 28 false (.load false 1 (tD 32)),ogD 34 28 false (.mov (tD 1)),ogD 35 28 false (.mov (tD 5)),ogD 36 28 false (.iaddr 5 (tD 34) (tD 35)),ogD 37 28 false (.faddr 1 (tD 36)),ogD 38 28 false (.load false 1 (tD 37)),ogD 39 28 false (.bin .neq (tD 33) (tD 38)),opD 40 (.pick (tD 28) (.const (.bool true)) (tD 39)),mvD 41 40,ogD 42 41 false (.mov (tD 0)),ogD 43 41 false (.mov (tD 5)),ogD 44 41 false (.iaddr 5 (tD 42) (tD 43)),ogD 45 41 false (.faddr 2 (tD 44)),ogD 46 41 false (.load false 1 (tD 45)),ogD 47 41 false (.b2s (tD 46)),ogD 48 41 false (.mov (tD 1)),ogD 49 41 false (.mov (tD 5)),ogD 50 41 false (.iaddr 5 (tD 48) (tD 49)),ogD 51 41 false (.faddr 2 (tD 50)),ogD 52 41 false (.load false 1 (tD 51)),ogD 53 41 false (.b2s (tD 52)),ogD 54 41 false (.bin .neq (tD 47) (tD 53)),opD 55 (.pick (tD 41) (.const (.bool true)) (tD 54)),mvD 56 55,ogD 57 56 false (.mov (tD 0)),ogD 58 56 false (.mov (tD 5)),ogD 59 56 false (.iaddr 5 (tD 57) (tD 58)),ogD 60 56 false (.faddr 3 (tD 59)),ogD 61 56 false (.load false 1 (tD 60)),ogD 62 56 false (.mov (tD 1)),ogD 63 56 false (.mov (tD 5)),ogD 64 56 false (.iaddr 5 (tD 62) (tD 63)),ogD 65 56 false (.faddr 3 (tD 64)),ogD 66 56 false (.load false 1 (tD 65)),ogD 67 56 false (.bin .neq (tD 61) (tD 66)),opD 68 (.pick (tD 56) (.const (.bool true)) (tD 67)),mvD 69 68,ogD 70 69 false (.mov (tD 0)),ogD 71 69 false (.mov (tD 5)),ogD 72 69 false (.iaddr 5 (tD 70) (tD 71)),ogD 73 69 false (.faddr 4 (tD 72)),ogD 74 69 false (.load false 1 (tD 73)),ogD 75 69 false (.mov (tD 1)),ogD 76 69 false (.mov (tD 5)),ogD 77 69 false (.iaddr 5 (tD 75) (tD 76)),ogD 78 69 false (.faddr 4 (tD 77)),ogD 79 69 false (.load false 1 (tD 78)),ogD 80 69 false (.bin .neq (tD 74) (tD 79)),opD 81 (.pick (tD 69) (.const (.bool true)) (tD 80))] [[],[],[0,1],[2],[3],[],[],[5,6],[7],[8],[4,9],[10],[11],[11],[12,13,11],[14,11],[15,11],[11],[11],[17,18,11],[19,11],[20,11],[16,21,11],[11,22],[23,11],[24],[24],[25,26,24],[27,24],[28,24],[29,24],[24],[24],[31,32,24],[33,24],[34,24],[35,24],[30,36,24],[24,37],[38,24],[39],[39],[40,41,39],[42,39],[43,39],[39],[39],[45,46,39],[47,39],[48,39],[44,49,39],[39,50],[51,39],[52],[52],[53,54,52],[55,52],[56,52],[52],[52],[58,59,52],[60,52],[61,52],[57,62,52],[52,63]] true) (.cond (.tmp 81) (.seq (.region [opD 4 (.mov (.const vB))] [[]] false) .ret) .skip))) (.region [mvD 15 5,opD 16 (.bin .add (tD 15) (cD 1)),mvD 5 16] [[],[0],[1,0,1]] false)))))) (.seq (.region [opD 4 (.mov (.const (.bool true)))] [[]] false) .ret))))
theorem v70 (fu:Nat):evF fu (d70 fu) rs70 82 (e70 fu).ash (e70 fu).osh (e70 fu).vsh=p70 fu := by kernel_rfl
theorem b70 (fu:Nat):BodyD Tryz.prog 70 82 (d70 fu).erase rs70 := bodyD_mk Tryz.func70 (by kernel_rfl) (by kernel_rfl) (by kernel_rfl) (by kernel_rfl)
theorem g70 (fu:Nat):(e70 fu).Good Tryz.prog := good_by orders (b70 fu) (l := []) (by kernel_rfl) trivial (by kernel_rfl) (v70 fu)
def rs71:List RVx := [(.tmp 4)]
def p71 (fu:Nat):(List (D_api_Producer))×((List (D_api_Producer))×(Unit))→Option ((Unit)×(Bool)) := fun ⟨a,c,_⟩ =>
bif ((List.length a:Int) != (List.length c:Int)) then
 some ((),false)
else
 loopO (S := ((Int)×(Unit))×(Unit)) fu (fun ⟨⟨f,_⟩,_⟩ =>
 bif decide (f<(List.length a:Int)) then
 bif decide ((0:Int)≤f∧f<(List.length a:Int)) then
 bif decide (Int.toNat f<List.length a) then
 bif decide ((0:Int)≤f∧f<(List.length c:Int)) then
 bif decide (Int.toNat f<List.length c) then
 bif !(((List.getD a (Int.toNat f) (dflt T_api_Producer)).1)==((List.getD c (Int.toNat f) (dflt T_api_Producer)).1) && ((((List.getD a (Int.toNat f) (dflt T_api_Producer)).2).1)==(((List.getD c (Int.toNat f) (dflt T_api_Producer)).2).1) && (((((List.getD a (Int.toNat f) (dflt T_api_Producer)).2).2).1)==((((List.getD c (Int.toNat f) (dflt T_api_Producer)).2).2).1) && (((((List.getD a (Int.toNat f) (dflt T_api_Producer)).2).2).2)==((((List.getD c (Int.toNat f) (dflt T_api_Producer)).2).2).2) && true)))) then
 inrO (some ((),false))
 else
 some (.inl ((IntKind.wrap .i64 (f+(1:Int)),()),()))
 else none
 else none
 else none
 else none
 else
 inrO (some ((),true)))
 (((0:Int),()),())
def e71 (fu:Nat):Ent := ⟨71,(.cons (.hole (.sl T_api_Producer)) (.cons (.hole (.sl T_api_Producer)) .nil)),.nil,(.hole .bool),p71 fu⟩
def d71 (_:Nat):DC := (.seq (.region [opD 4 (.mov (.const vB))] [[]] false) (.seq (.seq (.region [mvD 6 0,opD 7 (.len false (tD 6)),mvD 8 1,opD 9 (.len false (tD 8)),opD 10 (.bin .neq (tD 7) (tD 9))] [[],[0],[],[2],[1,3]] false) (.cond (.tmp 10) (.seq (.region [opD 4 (.mov (.const vB))] [[]] false) .ret) .skip)) (.seq (.seq (.region [opD 5 (.mov (cD 0))] [[]] false) (.block 0 (.loop ⟨[5],(.cons (.hole (.int .i64)) .nil),[],.nil,[0,1],[]⟩
 (.seq (.seq (.region [mvD 11 5,mvD 12 0,opD 13 (.len false (tD 12)),opD 14 (.bin .lss (tD 11) (tD 13))] [[],[],[1],[0,2]] false) (.cond (.tmp 14) .skip (.exit 0))) (.seq (.block 1 (.seq (.region [mvD 17 0,mvD 18 5,opD 19 (.iaddr 4 (tD 17) (tD 18)),opD 20 (.load true 4 (tD 19)),mvD 21 1,mvD 22 5,opD 23 (.iaddr 4 (tD 21) (tD 22)),opD 24 (.load true 4 (tD 23)),opD 25 (.seq true [.int,.int,.bool,.int] (tD 20) (tD 24))] [[],[],[0,1],[2],[],[],[4,5],[6],[3,7]] true) (.cond (.tmp 25) (.seq (.region [opD 4 (.mov (.const vB))] [[]] false) .ret) .skip))) (.region [mvD 15 5,opD 16 (.bin .add (tD 15) (cD 1)),mvD 5 16] [[],[0],[1,0,1]] false)))))) (.seq (.region [opD 4 (.mov (.const (.bool true)))] [[]] false) .ret))))
theorem v71 (fu:Nat):evF fu (d71 fu) rs71 26 (e71 fu).ash (e71 fu).osh (e71 fu).vsh=p71 fu := by kernel_rfl
theorem b71 (fu:Nat):BodyD Tryz.prog 71 26 (d71 fu).erase rs71 := bodyD_mk Tryz.func71 (by kernel_rfl) (by kernel_rfl) (by kernel_rfl) (by kernel_rfl)
theorem g71 (fu:Nat):(e71 fu).Good Tryz.prog := good_by orders (b71 fu) (l := []) (by kernel_rfl) trivial (by kernel_rfl) (v71 fu)
def rs72:List RVx := [(.tmp 4)]
def p72 (fu:Nat):(List (D_runtime_errorAddressString))×((List (D_runtime_errorAddressString))×(Unit))→Option ((Unit)×(Bool)) := fun ⟨a,c,_⟩ =>
bif ((List.length a:Int) != (List.length c:Int)) then
 some ((),false)
else
 loopO (S := ((Int)×(Unit))×(Unit)) fu (fun ⟨⟨f,_⟩,_⟩ =>
 bif decide (f<(List.length a:Int)) then
 bif decide ((0:Int)≤f∧f<(List.length a:Int)) then
 bif decide (Int.toNat f<List.length a) then
 bif decide ((0:Int)≤f∧f<(List.length c:Int)) then
 bif decide (Int.toNat f<List.length c) then
 bif !(((List.getD a (Int.toNat f) (dflt T_runtime_errorAddressString)).1)==((List.getD c (Int.toNat f) (dflt T_runtime_errorAddressString)).1) && (((List.getD a (Int.toNat f) (dflt T_runtime_errorAddressString)).2)==((List.getD c (Int.toNat f) (dflt T_runtime_errorAddressString)).2) && true)) then
 inrO (some ((),false))
 else
 some (.inl ((IntKind.wrap .i64 (f+(1:Int)),()),()))
 else none
 else none
 else none
 else none
 else
 inrO (some ((),true)))
 (((0:Int),()),())
def e72 (fu:Nat):Ent := ⟨72,(.cons (.hole (.sl T_runtime_errorAddressString)) (.cons (.hole (.sl T_runtime_errorAddressString)) .nil)),.nil,(.hole .bool),p72 fu⟩
def d72 (_:Nat):DC := (.seq (.region [opD 4 (.mov (.const vB))] [[]] false) (.seq (.seq (.region [mvD 6 0,opD 7 (.len false (tD 6)),mvD 8 1,opD 9 (.len false (tD 8)),opD 10 (.bin .neq (tD 7) (tD 9))] [[],[0],[],[2],[1,3]] false) (.cond (.tmp 10) (.seq (.region [opD 4 (.mov (.const vB))] [[]] false) .ret) .skip)) (.seq (.seq (.region [opD 5 (.mov (cD 0))] [[]] false) (.block 0 (.loop ⟨[5],(.cons (.hole (.int .i64)) .nil),[],.nil,[0,1],[]⟩
 (.seq (.seq (.region [mvD 11 5,mvD 12 0,opD 13 (.len false (tD 12)),opD 14 (.bin .lss (tD 11) (tD 13))] [[],[],[1],[0,2]] false) (.cond (.tmp 14) .skip (.exit 0))) (.seq (.block 1 (.seq (.region [mvD 17 0,mvD 18 5,opD 19 (.iaddr 2 (tD 17) (tD 18)),opD 20 (.load true 2 (tD 19)),mvD 21 1,mvD 22 5,opD 23 (.iaddr 2 (tD 21) (tD 22)),opD 24 (.load true 2 (tD 23)),opD 25 (.seq true [.str,.int] (tD 20) (tD 24))] [[],[],[0,1],[2],[],[],[4,5],[6],[3,7]] true) (.cond (.tmp 25) (.seq (.region [opD 4 (.mov (.const vB))] [[]] false) .ret) .skip))) (.region [mvD 15 5,opD 16 (.bin .add (tD 15) (cD 1)),mvD 5 16] [[],[0],[1,0,1]] false)))))) (.seq (.region [opD 4 (.mov (.const (.bool true)))] [[]] false) .ret))))
theorem v72 (fu:Nat):evF fu (d72 fu) rs72 26 (e72 fu).ash (e72 fu).osh (e72 fu).vsh=p72 fu := by kernel_rfl
theorem b72 (fu:Nat):BodyD Tryz.prog 72 26 (d72 fu).erase rs72 := bodyD_mk Tryz.func72 (by kernel_rfl) (by kernel_rfl) (by kernel_rfl) (by kernel_rfl)
theorem g72 (fu:Nat):(e72 fu).Good Tryz.prog := good_by orders (b72 fu) (l := []) (by kernel_rfl) trivial (by kernel_rfl) (v72 fu)
def rs16:List RVx := [(.tmp 4)]
def p16 (fu:Nat):(Z3)×((Z3)×(Unit))→Option ((Unit)×(Bool)) := fun ⟨⟨a,c,f,h,i,j,k,_⟩,⟨l,m,n,o,q,s,t,_⟩,_⟩ =>
Option.bind (p70 fu (i,q,())) fun ⟨_,u⟩ =>
Option.bind (p71 fu (j,s,())) fun ⟨_,w⟩ =>
Option.bind (p72 fu (k,t,())) fun ⟨_,x⟩ =>
bif u then
 bif w then
 bif x then
 bif (a==l && (c==m && true)) then
 bif (f==n) then
 some ((),(h==o))
 else
 some ((),false)
 else
 some ((),false)
 else
 some ((),false)
 else
 some ((),false)
else
 some ((),false)
def e16 (fu:Nat):Ent := ⟨16,(.cons Y5 (.cons Y5 .nil)),.nil,(.hole .bool),p16 fu⟩
def d16 (fu:Nat):DC := (.seq (.region [opD 2 (.box 29 7 (tD 0)),opD 3 (.box 29 7 (tD 1)),opD 4 (.mov (.const vB))] [[],[],[]] false) (.seq (.region [opD 8 (.faddr 4 (tD 2)),opD 9 (.load false 1 (tD 8)),opD 10 (.faddr 4 (tD 3)),opD 11 (.load false 1 (tD 10)),oqD 12 (.call 70 [(tD 9),(tD 11)]) (.ent (e70 fu)),mvD 5 12] [[],[0],[],[2],[1,3],[4,4,0,1,2,3,4]] false) (.seq (.region [opD 13 (.faddr 5 (tD 2)),opD 14 (.load false 1 (tD 13)),opD 15 (.faddr 5 (tD 3)),opD 16 (.load false 1 (tD 15)),oqD 17 (.call 71 [(tD 14),(tD 16)]) (.ent (e71 fu)),mvD 6 17] [[],[0],[],[2],[1,3],[4,4,0,1,2,3,4]] false) (.seq (.region [opD 18 (.faddr 6 (tD 2)),opD 19 (.load false 1 (tD 18)),opD 20 (.faddr 6 (tD 3)),opD 21 (.load false 1 (tD 20)),oqD 22 (.call 72 [(tD 19),(tD 21)]) (.ent (e72 fu)),mvD 7 22] [[],[0],[],[2],[1,3],[4,4,0,1,2,3,4]] false) (.seq (.region [mvD 23 5,mvD 24 23,ogD 25 24 true (.mov (tD 6)),opD 26 (.pick (tD 24) (tD 25) (.const vB)),mvD 27 26,ogD 28 27 true (.mov (tD 7)),opD 29 (.pick (tD 27) (tD 28) (.const vB)),mvD 30 29,ogD 31 30 true (.faddr 0 (tD 2)),ogD 32 30 true (.load true 2 (tD 31)),ogD 33 30 true (.faddr 0 (tD 3)),ogD 34 30 true (.load true 2 (tD 33)),ogD 35 30 true (.seq false [.str,.str] (tD 32) (tD 34)),opD 36 (.pick (tD 30) (tD 35) (.const vB)),mvD 37 36,ogD 38 37 true (.faddr 2 (tD 2)),ogD 39 37 true (.load false 1 (tD 38)),ogD 40 37 true (.faddr 2 (tD 3)),ogD 41 37 true (.load false 1 (tD 40)),ogD 42 37 true (.bin .eql (tD 39) (tD 41)),opD 43 (.pick (tD 37) (tD 42) (.const vB)),mvD 44 43,ogD 45 44 true (.faddr 3 (tD 2)),ogD 46 44 true (.load false 1 (tD 45)),ogD 47 44 true (.faddr 3 (tD 3)),ogD 48 44 true (.load false 1 (tD 47)),ogD 49 44 true (.bin .eql (tD 46) (tD 48)),opD 50 (.pick (tD 44) (tD 49) (.const vB)),mvD 4 50] [[],[0],[1],[1,2],[3,1],[4],[4,5],[6,4],[7],[8,7],[7],[10,7],[9,11,7],[7,12],[13,7],[14],[15,14],[14],[17,14],[16,18,14],[14,19],[20,14],[21],[22,21],[21],[24,21],[23,25,21],[21,26],[27,21,0,1,2,3,4,5,6,7,8,9,10,11,12,13,14,15,16,17,18,19,20,21,22,23,24,25,26,27]] false) .ret)))))
theorem v16 (fu:Nat):evF fu (d16 fu) rs16 51 (e16 fu).ash (e16 fu).osh (e16 fu).vsh=p16 fu := by kernel_rfl
theorem b16 (fu:Nat):BodyD Tryz.prog 16 51 (d16 fu).erase rs16 := bodyD_mk Tryz.func16 (by kernel_rfl) (by kernel_rfl) (by kernel_rfl) (by kernel_rfl)
theorem g16 (fu:Nat):(e16 fu).Good Tryz.prog := good_by orders (b16 fu) (l := [e70 fu,e71 fu,e72 fu]) (by kernel_rfl) ⟨g70 fu,g71 fu,g72 fu,trivial⟩ (by kernel_rfl) (v16 fu)
end Go.Proofs.YthlgaodaofpgoaaGreatDoor
