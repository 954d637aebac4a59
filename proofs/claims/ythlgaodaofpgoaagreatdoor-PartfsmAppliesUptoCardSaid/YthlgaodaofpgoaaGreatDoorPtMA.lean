/-
  The functions, typed.
-/
import Derived.Test.YthlgaodaofpgoaaGreatDoorErsE
import Derived.Test.YthlgaodaofpgoaaGreatDoorInC
import Derived.Test.YthlgaodaofpgoaaGreatDoorCpE
import Derived.Test.YthlgaodaofpgoaaGreatDoorDaL
import Derived.Test.YthlgaodaofpgoaaGreatDoorRows
namespace Go.Proofs.YthlgaodaofpgoaaGreatDoor
set_option maxRecDepth 1000000
open Go.RowKit
abbrev hI:Sh := .hole (.int .i64)
abbrev hU:Sh := .hole (.int .u64)
abbrev hT:Sh := .hole .str
abbrev lD (d c s:Nat):RO×Hint := (⟨some d,none,.load false c (.tmp s)⟩,.none)
abbrev fD (d c s:Nat):RO×Hint := (⟨some d,none,.faddr c (.tmp s)⟩,.none)
abbrev nD (d s:Nat):RO×Hint := (⟨some d,none,.pure .nilc [.tmp s]⟩,.none)
abbrev zR0:Bool×(Int×Int×Unit)×Unit := (false,(0,0,()),())
def eqL {α:Type} (l:List α):Bool := decide (l.length=l.length)
theorem Q0a {α:Type} (l:List α):eqL l=true := decide_eq_true rfl
abbrev T_runtime_errorAddressString:Tp := (.pair .str (.int .u64))
abbrev D_runtime_errorAddressString := ByteArray×Int
abbrev T_api_Producer:Tp := (.pair (.int .u64) (.pair (.int .u64) (.pair .bool (.int .u64))))
abbrev D_api_Producer := Int×(Int×(Bool×Int))
abbrev T_api_Record:Tp := (.pair (.int .u64) (.pair .str (.pair (.sl (.int .u8)) (.pair (.int .u64) (.int .u64)))))
abbrev D_api_Record := Int×(ByteArray×((List Int)×(Int×Int)))
abbrev T_api_PartCommand:Tp := (.pair (.int .i64) (.pair (.int .u64) (.pair (.int .u64) (.pair (.int .u64) (.pair .str (.pair (.sl (.int .u8)) (.pair (.int .u64) (.pair (.int .i64) T_runtime_errorAddressString))))))))
abbrev D_api_PartCommand := Int×(Int×(Int×(Int×(ByteArray×((List Int)×(Int×(Int×(D_runtime_errorAddressString))))))))
theorem Q0d:Tryz.prog.follows .mixedOrders=true := by kernel_rfl
abbrev Z0:Type := ByteArray×(ByteArray×(Int×(Int×((List (D_api_Record))×((List (D_api_Producer))×((List (D_runtime_errorAddressString))×(Int×(Int×(Int×(Int×(ByteArray×((List Int)×(Int×(Int×(ByteArray×(Int×(Int×(Int×(Bool×(Unit×Unit))))))))))))))))))))
abbrev Z1:Type := Bool×(Unit×(Bool×(Unit×(ByteArray×(Int×Unit)))))
abbrev Z2:Type := ByteArray×(ByteArray×(Int×(Int×((List (D_api_Record))×((List (D_api_Producer))×((List (D_runtime_errorAddressString))×(Int×(Int×(Int×(Int×(ByteArray×((List Int)×(Int×(Int×(ByteArray×(Int×(Int×(Int×(Bool×((List (D_api_Record))×Unit))))))))))))))))))))
abbrev Z3:Type := Int×(Int×(Int×(Int×(ByteArray×((List Int)×(Int×(Int×(ByteArray×(Int×Unit)))))))))
abbrev Z4:Type := ByteArray×(ByteArray×(Int×(Int×((List (D_api_Record))×((List (D_api_Producer))×((List (D_runtime_errorAddressString))×Unit))))))
abbrev Y5:Sh := (.agg 5 (.cons hU (.cons hT (.cons (.hole (.sl (.int .u8))) (.cons hU (.cons hU .nil))))))
abbrev Y6:Sh := (.agg 7 (.cons hT (.cons hT (.cons hU (.cons hU (.cons (.hole (.sl T_api_Record)) (.cons (.hole (.sl T_api_Producer)) (.cons (.hole (.sl T_runtime_errorAddressString)) .nil))))))))
abbrev Y7:Sh := (.agg 10 (.cons hI (.cons hU (.cons hU (.cons hU (.cons hT (.cons (.hole (.sl (.int .u8))) (.cons hU (.cons hI (.cons hT (.cons hU .nil)))))))))))
abbrev Y8:Sh := (.agg 7 (.cons hT (.cons hT (.cons hU (.cons hU (.cons (.own .own 49 T_api_Record) (.cons (.own .own 77 T_api_Producer) (.cons (.own .own 79 T_runtime_errorAddressString) .nil))))))))
abbrev Y9:Sh := (.box 97 21 (.cons hT (.cons hT (.cons hU (.cons hU (.cons (.own .own 49 T_api_Record) (.cons (.own .own 77 T_api_Producer) (.cons (.own .own 79 T_runtime_errorAddressString) (.cons hI (.cons hU (.cons hU (.cons hU (.cons hT (.cons (.hole (.sl (.int .u8))) (.cons hU (.cons hI (.cons hT (.cons hU (.cons hI (.cons hU (.cons (.hole .bool) (.cons .nils .nil))))))))))))))))))))))
abbrev Y10:Sh := (.agg 21 (.cons hT (.cons hT (.cons hU (.cons hU (.cons (.own .own 49 T_api_Record) (.cons (.own .own 77 T_api_Producer) (.cons (.own .own 79 T_runtime_errorAddressString) (.cons hI (.cons hU (.cons hU (.cons hU (.cons hT (.cons (.hole (.sl (.int .u8))) (.cons hU (.cons hI (.cons hT (.cons hU (.cons hI (.cons hU (.cons (.hole .bool) (.cons .nils .nil))))))))))))))))))))))
abbrev Y11:Sh := (.agg 5 (.cons hU (.cons hT (.cons (.own .own 5 (.int .u8)) (.cons hU (.cons hU .nil))))))
abbrev Y12:Sh := (.agg 21 (.cons hT (.cons hT (.cons hU (.cons hU (.cons (.hole (.sl T_api_Record)) (.cons (.own .own 77 T_api_Producer) (.cons (.own .own 79 T_runtime_errorAddressString) (.cons hI (.cons hU (.cons hU (.cons hU (.cons hT (.cons (.hole (.sl (.int .u8))) (.cons hU (.cons hI (.cons hT (.cons hU (.cons hI (.cons hU (.cons (.hole .bool) (.cons .nils .nil))))))))))))))))))))))
abbrev Y13:Sh := (.agg 21 (.cons hT (.cons hT (.cons hU (.cons hU (.cons (.hole (.sl T_api_Record)) (.cons (.own .own 77 T_api_Producer) (.cons (.own .own 79 T_runtime_errorAddressString) (.cons hI (.cons hU (.cons hU (.cons hU (.cons hT (.cons (.hole (.sl (.int .u8))) (.cons hU (.cons hI (.cons hT (.cons hU (.cons hI (.cons hU (.cons (.hole .bool) (.cons (.own .own 49 T_api_Record) .nil))))))))))))))))))))))
abbrev Y14:Sh := (.agg 7 (.cons hT (.cons hT (.cons hU (.cons hU (.cons (.hole (.sl T_api_Record)) (.cons (.own .own 77 T_api_Producer) (.cons (.own .own 79 T_runtime_errorAddressString) .nil))))))))
abbrev Y15:Sh := (.agg 4 (.cons hI (.cons hU (.cons (.hole .bool) (.cons (.own .own 49 T_api_Record) .nil)))))
abbrev Y16:Sh := (.agg 3 (.cons (.own .own 5 (.int .u8)) (.cons hI (.cons (.alt true (.ifc 207 (.look (.cons hI (.cons hI .nil)))) (.nilv 1)) .nil))))
abbrev Y17:Sh := (.box 176 3 (.cons (.own .own 5 (.int .u8)) (.cons hI (.cons (.alt false (.ifc 207 (.look (.cons hI (.cons hI .nil)))) (.nilv 1)) .nil))))
abbrev Y18:Sh := (.agg 3 (.cons (.own .own 5 (.int .u8)) (.cons hI (.cons (.alt false (.ifc 207 (.look (.cons hI (.cons hI .nil)))) (.nilv 1)) .nil))))
abbrev Y19:Sh := (.agg 10 (.cons hI (.cons hU (.cons hU (.cons hU (.cons hT (.cons (.own .own 5 (.int .u8)) (.cons hU (.cons hI (.cons hT (.cons hU .nil)))))))))))
abbrev Y20:Sh := (.agg 4 (.cons hI (.cons hU (.cons (.hole .bool) (.cons (.hole (.sl T_api_Record)) .nil)))))
def rs96:List RVx := [(.tmp 2)]
def p96 (_:Nat):ByteArray×Unit→Option (Unit×Bool) := fun ⟨a,_⟩ =>
some ((),decide ((ByteArray.size a:Int)≤(32:Int)))
def e96 (fu:Nat):Ent := ⟨96,(.cons hT .nil),.nil,(.hole .bool),p96 fu⟩
def d96 (_:Nat):DC := (.seq (.region [opD 2 (.mov (.const vB))] [[]] false) (.seq (.region [mvD 3 0,opD 4 (.len true (tD 3)),opD 5 (.bin .leq (tD 4) (cD 32)),mvD 2 5] [[],[0],[1],[2,0,1,2]] false) .ret))
theorem g96 (fu:Nat):(e96 fu).Good Tryz.prog := Q0c Q0d Tryz.func96 fu (d96 fu) rs96 6 (l := []) trivial
def rs97:List RVx := [(.cell 2 true 2)]
def p97 (_:Nat):(ByteArray×(ByteArray×Unit))×Unit→Option (Unit×(ByteArray×(Bool×Unit))) := fun ⟨⟨_,a,_⟩,_⟩ =>
some ((),(a,ByteArray.toList a==ByteArray.toList (⟨#[]⟩:ByteArray),()))
def e97 (fu:Nat):Ent := ⟨97,(.cons (.agg 2 (.cons hT (.cons hT .nil))) .nil),.nil,(.agg 2 (.cons hT (.cons (.hole .bool) .nil))),p97 fu⟩
def d97 (_:Nat):DC := (.seq (.region [opD 1 (.box 23 2 (tD 0)),opD 2 (.alloc 136 2 [vT,vB])] [[],[]] false) (.seq (.region [fD 3 1 1,lD 4 1 3,fD 5 1 1,lD 6 1 5,opD 7 (.bin .eql (tD 6) (.const vT)),opD 8 (.build 2 [vT,vB] [(0,(1,(tD 4))),(1,(1,(tD 7)))]),onD (.store 2 (tD 2) (tD 8))] [[],[0],[],[2],[3],[1,4],[5,0,1,2,3,4,5]] false) .ret))
theorem g97 (fu:Nat):(e97 fu).Good Tryz.prog := Q0c Q0d Tryz.func97 fu (d97 fu) rs97 9 (l := []) trivial
def rs98:List RVx := [(.tmp 4)]
def p98 (_:Nat):(ByteArray×(Bool×Unit))×(ByteArray×Unit)→Option (Unit×Bool) := fun ⟨⟨a,c,_⟩,f,_⟩ =>
bif c then
 some ((),true)
else
 some ((),!(Op.bytesLess (ByteArray.toList a) (ByteArray.toList f)||ByteArray.toList a==ByteArray.toList f))
def e98 (fu:Nat):Ent := ⟨98,(.cons (.agg 2 (.cons hT (.cons (.hole .bool) .nil))) (.cons hT .nil)),.nil,(.hole .bool),p98 fu⟩
def d98 (_:Nat):DC := (.seq (.region [opD 2 (.box 136 2 (tD 0)),opD 4 (.mov (.const vB))] [[],[]] false) (.seq (.region [fD 5 1 2,lD 6 1 5,mvD 7 6,ogD 8 7 false (.faddr 0 (tD 2)),ogD 9 7 false (.load false 1 (tD 8)),ogD 10 7 false (.mov (tD 1)),ogD 11 7 false (.bin .gtr (tD 9) (tD 10)),opD 12 (.pick (tD 7) (.const (.bool true)) (tD 11)),mvD 4 12] [[],[0],[1],[2],[3,2],[2],[4,5,2],[2,6],[7,2,0,1,2,3,4,5,6,7]] false) .ret))
theorem g98 (fu:Nat):(e98 fu).Good Tryz.prog := Q0c Q0d Tryz.func98 fu (d98 fu) rs98 13 (l := []) trivial
def rs36:List RVx := [(.tmp 2)]
def p36 (fu:Nat):(ByteArray×(ByteArray×Unit))×Unit→Option (Unit×Int) := fun ⟨⟨a,c,_⟩,_⟩ =>
Option.bind (p96 fu (a,())) fun ⟨_,f⟩ =>
bif !f then
 some ((),(131:Int))
else
 Option.bind (p96 fu (c,())) fun ⟨_,h⟩ =>
 bif !h then
 some ((),(131:Int))
 else
 Option.bind (p97 fu ((a,c,()),())) fun ⟨_,⟨i,j,_⟩⟩ =>
 Option.bind (p98 fu ((i,j,()),a,())) fun ⟨_,k⟩ =>
 bif !k then
 some ((),(132:Int))
 else
 some ((),(0:Int))
def e36 (fu:Nat):Ent := ⟨36,(.cons (.agg 2 (.cons hT (.cons hT .nil))) .nil),.nil,hI,p36 fu⟩
def d36 (fu:Nat):DC := (.seq (.region [opD 1 (.box 23 2 (tD 0)),opD 2 (.mov (cD 0))] [[],[]] false) (.seq (.seq (.region [fD 3 0 1,lD 4 1 3,oqD 5 (.call 96 [(tD 4)]) (.ent (e96 fu)),opD 6 (.not (tD 5)),mvD 7 6,ogD 8 7 false (.faddr 1 (tD 1)),ogD 9 7 false (.load false 1 (tD 8)),(⟨(some 10),(some (7,false)),(.call 96 [(tD 9)])⟩,(.ent (e96 fu))),ogD 11 7 false (.not (tD 10)),opD 12 (.pick (tD 7) (.const (.bool true)) (tD 11))] [[],[0],[1],[2],[3,2],[4],[5,4],[6,4,4],[7,4],[4,8]] false) (.cond (.tmp 12) (.seq (.region [opD 2 (.mov (cD 131))] [[]] false) .ret) .skip)) (.seq (.seq (.region [opD 13 (.load true 2 (tD 1)),oqD 14 (.call 97 [(tD 13)]) (.ent (e97 fu)),fD 15 0 1,lD 16 1 15,oqD 17 (.call 98 [(tD 14),(tD 16)]) (.ent (e98 fu)),opD 18 (.not (tD 17))] [[],[0],[],[2],[1,3,1],[4]] true) (.cond (.tmp 18) (.seq (.region [opD 2 (.mov (cD 132))] [[]] false) .ret) .skip)) (.seq (.region [opD 2 (.mov (cD 0))] [[]] false) .ret))))
theorem g36 (fu:Nat):(e36 fu).Good Tryz.prog := Q0c Q0d Tryz.func36 fu (d36 fu) rs36 19 (l := [e96 fu,e96 fu,e97 fu,e98 fu]) ⟨g96 fu,g96 fu,g97 fu,g98 fu,trivial⟩
def rs99:List RVx := [(.tmp 2)]
def p99 (_:Nat):(Int×(ByteArray×((List Int)×(Int×(Int×Unit)))))×Unit→Option (Unit×Int) := fun ⟨⟨_,a,c,_,_,_⟩,_⟩ =>
bif decide ((ByteArray.size a:Int)>(32:Int)) then
 some ((),(131:Int))
else
 bif decide ((c.length:Int)>(256:Int)) then
 some ((),(144:Int))
 else
 some ((),(0:Int))
def e99 (fu:Nat):Ent := ⟨99,(.cons Y5 .nil),.nil,hI,p99 fu⟩
def d99 (_:Nat):DC := (.seq (.region [opD 1 (.box 49 5 (tD 0)),opD 2 (.mov (cD 0))] [[],[]] false) (.seq (.block 0 (.seq (.region [fD 4 1 1,lD 5 1 4,opD 6 (.len true (tD 5)),opD 7 (.bin .gtr (tD 6) (cD 32)),mvD 3 7] [[],[0],[1],[2],[3]] false) (.cond (.tmp 3) (.seq (.region [opD 2 (.mov (cD 131))] [[]] false) .ret) (.seq (.region [fD 9 2 1,lD 10 1 9,opD 11 (.len false (tD 10)),opD 12 (.bin .gtr (tD 11) (cD 256)),mvD 8 12] [[],[0],[1],[2],[3]] false) (.cond (.tmp 8) (.seq (.region [opD 2 (.mov (cD 144))] [[]] false) .ret) .skip))))) (.seq (.region [opD 2 (.mov (cD 0))] [[]] false) .ret)))
theorem g99 (fu:Nat):(e99 fu).Good Tryz.prog := Q0c Q0d Tryz.func99 fu (d99 fu) rs99 13 (l := []) trivial
def rs37:List RVx := [(.tmp 2)]
def p37 (fu:Nat):(List (D_api_Record))×Unit→Option (Unit×Bool) := fun ⟨a,_⟩ =>
loopO (S := (Int×Unit)×Unit) fu (fun ⟨⟨c,_⟩,_⟩ =>
 bif decide (c<(a.length:Int)) then
 bif decide ((0:Int)≤c∧c<(a.length:Int)) then
 bif decide (c.toNat<a.length) then
 bif (((a.getD (c.toNat) (dflt T_api_Record)).1) != (IntKind.wrap .u64 c)) then
 inrO (some ((),false))
 else
 Option.bind (p99 fu (((a.getD (c.toNat) (dflt T_api_Record)).1,((a.getD (c.toNat) (dflt T_api_Record)).2).1,(((a.getD (c.toNat) (dflt T_api_Record)).2).2).1,((((a.getD (c.toNat) (dflt T_api_Record)).2).2).2).1,((((a.getD (c.toNat) (dflt T_api_Record)).2).2).2).2,()),())) fun ⟨_,f⟩ =>
 bif (f != (0:Int)) then
 inrO (some ((),false))
 else
 some (.inl ((IntKind.wrap .i64 (c+(1:Int)),()),()))
 else none
 else none
 else
 inrO (some ((),decide ((a.length:Int)≤(4096:Int)))))
 (((0:Int),()),())
def e37 (fu:Nat):Ent := ⟨37,(.cons (.hole (.sl T_api_Record)) .nil),.nil,(.hole .bool),p37 fu⟩
def d37 (fu:Nat):DC := (.seq (.region [opD 2 (.mov (.const vB))] [[]] false) (.seq (.seq (.region [mvD 5 0,opD 6 (.len false (tD 5)),opD 7 (.mov (cD 0))] [[],[0],[]] false) (.block 0 (.loop ⟨[7],(.cons hI .nil),[],.nil,[0,5,6],[]⟩
 (.seq (.region [opD 8 (.bin .lss (tD 7) (tD 6))] [[]] false) (.seq (.cond (.tmp 8) .skip (.exit 0)) (.seq (.block 1 (.seq (.region [mvD 9 7,opD 10 (.iaddr 5 (tD 5) (tD 7)),opD 11 (.load true 5 (tD 10)),opD 4 (.alloc 49 5 [vU,vT,vS,vU,vU]),mvD 3 9,onD (.store 5 (tD 4) (tD 11))] [[],[],[1],[],[0,0,1,2,3],[3,2,4,0,1,2,3,4]] false) (.seq (.region [fD 12 0 4,lD 13 1 12,mvD 14 3,opD 15 (.conv .u64 (tD 14)),opD 16 (.bin .neq (tD 13) (tD 15)),mvD 17 16,ogD 18 17 false (.load true 5 (tD 4)),(⟨(some 19),(some (17,false)),(.call 99 [(tD 18)])⟩,(.ent (e99 fu))),ogD 20 17 false (.bin .neq (tD 19) (cD 0)),opD 21 (.pick (tD 17) (.const (.bool true)) (tD 20))] [[],[0],[],[2],[1,3],[4],[5],[6,5,5],[7,5],[5,8]] false) (.cond (.tmp 21) (.seq (.region [opD 2 (.mov (.const vB))] [[]] false) .ret) .skip)))) (.region [opD 22 (.bin .add (tD 7) (cD 1)),mvD 7 22] [[],[0]] false))))))) (.seq (.region [mvD 23 0,opD 24 (.len false (tD 23)),opD 25 (.bin .leq (tD 24) (cD 4096)),mvD 2 25] [[],[0],[1],[2,0,1,2]] false) .ret)))
theorem g37 (fu:Nat):(e37 fu).Good Tryz.prog := Q0c Q0d Tryz.func37 fu (d37 fu) rs37 26 (l := [e99 fu]) ⟨g99 fu,trivial⟩
def rs140:List RVx := [(.tmp 2)]
def p140 (_:Nat):Int×Unit→Option (Unit×Bool) := fun ⟨a,_⟩ =>
some ((),(a != a))
def e140 (fu:Nat):Ent := ⟨140,(.cons hU .nil),.nil,(.hole .bool),p140 fu⟩
def d140 (_:Nat):DC := (.seq (.region [opD 2 (.mov (.const vB))] [[]] false) (.seq (.region [mvD 3 0,mvD 4 0,opD 5 (.bin .neq (tD 3) (tD 4)),mvD 2 5] [[],[],[0,1],[2,0,1,2]] false) .ret))
theorem g140 (fu:Nat):(e140 fu).Good Tryz.prog := Q0c Q0d Tryz.func140 fu (d140 fu) rs140 6 (l := []) trivial
def rs105:List RVx := [(.tmp 4)]
def p105 (fu:Nat):Int×(Int×Unit)→Option (Unit×Int) := fun ⟨a,c,_⟩ =>
Option.bind (p140 fu (a,())) fun ⟨_,f⟩ =>
Option.bind (p140 fu (c,())) fun ⟨_,h⟩ =>
bif f then
 bif h then
 some ((),(0:Int))
 else
 some ((),((-1):Int))
else
 bif h then
 some ((),(1:Int))
 else
 bif decide (a<c) then
 some ((),((-1):Int))
 else
 bif decide (a>c) then
 some ((),(1:Int))
 else
 some ((),(0:Int))
def e105 (fu:Nat):Ent := ⟨105,(.cons hU (.cons hU .nil)),.nil,hI,p105 fu⟩
def d105 (fu:Nat):DC := (.seq (.region [opD 4 (.mov (cD 0))] [[]] false) (.seq (.region [mvD 7 0,oqD 8 (.call 140 [(tD 7)]) (.ent (e140 fu)),mvD 5 8] [[],[0],[1,1,0,1]] false) (.seq (.region [mvD 9 1,oqD 10 (.call 140 [(tD 9)]) (.ent (e140 fu)),mvD 6 10] [[],[0],[1,1,0,1]] false) (.seq (.seq (.region [mvD 11 5] [[]] false) (.cond (.tmp 11) (.seq (.seq (.region [mvD 12 6] [[]] false) (.cond (.tmp 12) (.seq (.region [opD 4 (.mov (cD 0))] [[]] false) .ret) .skip)) (.seq (.region [opD 4 (.mov (.const (.int .i64 (-1))))] [[]] false) .ret)) .skip)) (.seq (.seq (.region [mvD 13 6] [[]] false) (.cond (.tmp 13) (.seq (.region [opD 4 (.mov (cD 1))] [[]] false) .ret) .skip)) (.seq (.seq (.region [mvD 14 0,mvD 15 1,opD 16 (.bin .lss (tD 14) (tD 15))] [[],[],[0,1]] false) (.cond (.tmp 16) (.seq (.region [opD 4 (.mov (.const (.int .i64 (-1))))] [[]] false) .ret) .skip)) (.seq (.seq (.region [mvD 17 0,mvD 18 1,opD 19 (.bin .gtr (tD 17) (tD 18))] [[],[],[0,1]] false) (.cond (.tmp 19) (.seq (.region [opD 4 (.mov (cD 1))] [[]] false) .ret) .skip)) (.seq (.region [opD 4 (.mov (cD 0))] [[]] false) .ret))))))))
theorem g105 (fu:Nat):(e105 fu).Good Tryz.prog := Q0c Q0d Tryz.func105 fu (d105 fu) rs105 20 (l := [e140 fu,e140 fu]) ⟨g140 fu,g140 fu,trivial⟩
def rs100:List RVx := [(.tmp 4)]
def p100 (fu:Nat):(Int×(Int×(Bool×(Int×Unit))))×((Int×(Int×(Bool×(Int×Unit))))×Unit)→Option (Unit×Int) := fun ⟨⟨a,_,_,_,_⟩,⟨c,_,_,_,_⟩,_⟩ =>
Option.bind (p105 fu (a,c,())) fun ⟨_,f⟩ =>
some ((),f)
def e100 (fu:Nat):Ent := ⟨100,(.cons (.agg 4 (.cons hU (.cons hU (.cons (.hole .bool) (.cons hU .nil))))) (.cons (.agg 4 (.cons hU (.cons hU (.cons (.hole .bool) (.cons hU .nil))))) .nil)),.nil,hI,p100 fu⟩
def d100 (fu:Nat):DC := (.seq (.region [opD 2 (.box 77 4 (tD 0)),opD 3 (.box 77 4 (tD 1)),opD 4 (.mov (cD 0))] [[],[],[]] false) (.seq (.region [fD 5 0 2,lD 6 1 5,fD 7 0 3,lD 8 1 7,oqD 9 (.call 105 [(tD 6),(tD 8)]) (.ent (e105 fu)),mvD 4 9] [[],[0],[],[2],[1,3],[4,4,0,1,2,3,4]] false) .ret))
theorem g100 (fu:Nat):(e100 fu).Good Tryz.prog := Q0c Q0d Tryz.func100 fu (d100 fu) rs100 10 (l := [e105 fu]) ⟨g105 fu,trivial⟩
def rs101:List RVx := [(.tmp 2)]
def p101 (_:Nat):Int×Unit→Option (Unit×Bool) := fun ⟨a,_⟩ =>
bif decide (a≥(1:Int)) then
 some ((),decide (a≤(9223372036854775807:Int)))
else
 some ((),false)
def e101 (fu:Nat):Ent := ⟨101,(.cons hU .nil),.nil,(.hole .bool),p101 fu⟩
def d101 (_:Nat):DC := (.seq (.region [opD 2 (.mov (.const vB))] [[]] false) (.seq (.region [mvD 3 0,opD 4 (.bin .geq (tD 3) (.const (.int .u64 1))),mvD 5 4,ogD 6 5 true (.mov (tD 0)),ogD 7 5 true (.bin .leq (tD 6) (.const (.int .u64 9223372036854775807))),opD 8 (.pick (tD 5) (tD 7) (.const vB)),mvD 2 8] [[],[0],[1],[2],[3,2],[2,4],[5,2,0,1,2,3,4,5]] false) .ret))
theorem g101 (fu:Nat):(e101 fu).Good Tryz.prog := Q0c Q0d Tryz.func101 fu (d101 fu) rs101 9 (l := []) trivial
def rs38:List RVx := [(.tmp 2)]
def p38 (fu:Nat):(List (D_api_Producer))×Unit→Option (Unit×Bool) := fun ⟨a,_⟩ =>
loopO (S := (Int×Unit)×Unit) fu (fun ⟨⟨c,_⟩,_⟩ =>
 bif decide (c<(a.length:Int)) then
 bif decide ((0:Int)≤c∧c<(a.length:Int)) then
 bif decide (c.toNat<a.length) then
 orK (E := (Bool×Unit)×Unit)
 (bif (c==(0:Int)) then
 some (.inl ((true,()),()))
 else
 bif decide ((0:Int)≤IntKind.wrap .i64 (c-(1:Int))∧IntKind.wrap .i64 (c-(1:Int))<(a.length:Int)) then
 bif decide (Int.toNat (IntKind.wrap .i64 (c-(1:Int)))<a.length) then
 Option.bind (p100 fu (((a.getD (Int.toNat (IntKind.wrap .i64 (c-(1:Int)))) (dflt T_api_Producer)).1,((a.getD (Int.toNat (IntKind.wrap .i64 (c-(1:Int)))) (dflt T_api_Producer)).2).1,(((a.getD (Int.toNat (IntKind.wrap .i64 (c-(1:Int)))) (dflt T_api_Producer)).2).2).1,(((a.getD (Int.toNat (IntKind.wrap .i64 (c-(1:Int)))) (dflt T_api_Producer)).2).2).2,()),((a.getD (c.toNat) (dflt T_api_Producer)).1,((a.getD (c.toNat) (dflt T_api_Producer)).2).1,(((a.getD (c.toNat) (dflt T_api_Producer)).2).2).1,(((a.getD (c.toNat) (dflt T_api_Producer)).2).2).2,()),())) fun ⟨_,f⟩ =>
 some (.inl ((decide (f<(0:Int)),()),()))
 else none
 else none)
 fun ⟨⟨h,_⟩,_⟩ =>
 bif (((a.getD (c.toNat) (dflt T_api_Producer)).1)==(0:Int)) then
 inrO (some ((),false))
 else
 Option.bind (p101 fu (((a.getD (c.toNat) (dflt T_api_Producer)).2).1,())) fun ⟨_,i⟩ =>
 bif !i then
 inrO (some ((),false))
 else
 bif !h then
 inrO (some ((),false))
 else
 bif !((((a.getD (c.toNat) (dflt T_api_Producer)).2).2).1) then
 bif (((((a.getD (c.toNat) (dflt T_api_Producer)).2).2).2) != (0:Int)) then
 inrO (some ((),false))
 else
 some (.inl ((IntKind.wrap .i64 (c+(1:Int)),()),()))
 else
 some (.inl ((IntKind.wrap .i64 (c+(1:Int)),()),()))
 else none
 else none
 else
 inrO (some ((),decide ((a.length:Int)≤(256:Int)))))
 (((0:Int),()),())
def e38 (fu:Nat):Ent := ⟨38,(.cons (.hole (.sl T_api_Producer)) .nil),.nil,(.hole .bool),p38 fu⟩
def d38 (fu:Nat):DC := (.seq (.region [opD 2 (.mov (.const vB))] [[]] false) (.seq (.seq (.region [mvD 6 0,opD 7 (.len false (tD 6)),opD 8 (.mov (cD 0))] [[],[0],[]] false) (.block 0 (.loop ⟨[8],(.cons hI .nil),[],.nil,[0,6,7],[]⟩
 (.seq (.region [opD 9 (.bin .lss (tD 8) (tD 7))] [[]] false) (.seq (.cond (.tmp 9) .skip (.exit 0)) (.seq (.block 1 (.seq (.region [mvD 10 8,opD 11 (.iaddr 4 (tD 6) (tD 8)),opD 12 (.load true 4 (tD 11)),opD 4 (.alloc 77 4 [vU,vU,vB,vU]),mvD 3 10,onD (.store 4 (tD 4) (tD 12))] [[],[],[1],[],[0,0,1,2,3],[3,2,4,0,1,2,3,4]] false) (.join ⟨[5],(.cons (.hole .bool) .nil),[],.nil,[0,4,6,7,8],[128]⟩
 (.region [mvD 13 3,opD 14 (.bin .eql (tD 13) (cD 0)),mvD 15 14,ogD 16 15 false (.mov (tD 0)),ogD 17 15 false (.mov (tD 3)),ogD 18 15 false (.bin .sub (tD 17) (cD 1)),ogD 19 15 false (.iaddr 4 (tD 16) (tD 18)),ogD 20 15 false (.load true 4 (tD 19)),ogD 21 15 false (.load true 4 (tD 4)),(⟨(some 22),(some (15,false)),(.call 100 [(tD 20),(tD 21)])⟩,(.ent (e100 fu))),ogD 23 15 false (.bin .lss (tD 22) (cD 0)),opD 24 (.pick (tD 15) (.const (.bool true)) (tD 23)),mvD 5 24] [[],[0],[1],[2],[2],[4,2],[3,5,2],[6,2],[2],[7,8,2,2],[9,2],[2,10],[11,9,0,1,2,3,4,5,6,7,8,9,10,11]] true)
 (.seq (.region [fD 25 0 4,lD 26 1 25,opD 27 (.bin .eql (tD 26) (.const vU)),mvD 28 27,ogD 29 28 false (.faddr 1 (tD 4)),ogD 30 28 false (.load false 1 (tD 29)),(⟨(some 31),(some (28,false)),(.call 101 [(tD 30)])⟩,(.ent (e101 fu))),ogD 32 28 false (.not (tD 31)),opD 33 (.pick (tD 28) (.const (.bool true)) (tD 32)),mvD 34 33,ogD 35 34 false (.mov (tD 5)),ogD 36 34 false (.not (tD 35)),opD 37 (.pick (tD 34) (.const (.bool true)) (tD 36)),mvD 38 37,ogD 39 38 false (.faddr 2 (tD 4)),ogD 40 38 false (.load false 1 (tD 39)),ogD 41 38 false (.not (tD 40)),ogD 42 38 false (.mov (tD 41)),ogD 43 42 true (.faddr 3 (tD 4)),ogD 44 42 true (.load false 1 (tD 43)),ogD 45 42 true (.bin .neq (tD 44) (.const vU)),ogD 46 38 false (.pick (tD 42) (tD 45) (.const vB)),opD 47 (.pick (tD 38) (.const (.bool true)) (tD 46))] [[],[0],[1],[2],[3],[4,3],[5,3,3],[6,3],[3,7],[8,6],[9],[10,9],[9,11],[12,9],[13],[14,13],[15,13],[16,13,13],[17],[18,17],[19,17],[17,20,13],[13,21]] false) (.cond (.tmp 47) (.seq (.region [opD 2 (.mov (.const vB))] [[]] false) .ret) .skip))))) (.region [opD 48 (.bin .add (tD 8) (cD 1)),mvD 8 48] [[],[0]] false))))))) (.seq (.region [mvD 49 0,opD 50 (.len false (tD 49)),opD 51 (.bin .leq (tD 50) (cD 256)),mvD 2 51] [[],[0],[1],[2,0,1,2]] false) .ret)))
theorem g38 (fu:Nat):(e38 fu).Good Tryz.prog := Q0c Q0d Tryz.func38 fu (d38 fu) rs38 52 (l := [e100 fu,e101 fu]) ⟨g100 fu,g101 fu,trivial⟩
def rs102:List RVx := [(.tmp 2)]
def p102 (fu:Nat):ByteArray×Unit→Option (Unit×Bool) := fun ⟨a,_⟩ =>
loopO (S := (Int×Unit)×Unit) fu (fun ⟨⟨c,_⟩,_⟩ =>
 bif decide (c<(List.length (numsOf a):Int)) then
 bif decide ((0:Int)≤c∧c<(List.length (numsOf a):Int)) then
 bif decide (c.toNat<List.length (numsOf a)) then
 bif decide ((List.getD (numsOf a) (c.toNat) (dflt (.int .u8)))<(97:Int)) then
 bif decide ((List.getD (numsOf a) (c.toNat) (dflt (.int .u8)))<(48:Int)) then
 bif ((List.getD (numsOf a) (c.toNat) (dflt (.int .u8))) != (45:Int)) then
 bif ((List.getD (numsOf a) (c.toNat) (dflt (.int .u8))) != (95:Int)) then
 bif ((List.getD (numsOf a) (c.toNat) (dflt (.int .u8))) != (46:Int)) then
 inrO (some ((),false))
 else
 some (.inl ((IntKind.wrap .i64 (c+(1:Int)),()),()))
 else
 some (.inl ((IntKind.wrap .i64 (c+(1:Int)),()),()))
 else
 some (.inl ((IntKind.wrap .i64 (c+(1:Int)),()),()))
 else
 bif decide ((List.getD (numsOf a) (c.toNat) (dflt (.int .u8)))>(57:Int)) then
 bif ((List.getD (numsOf a) (c.toNat) (dflt (.int .u8))) != (45:Int)) then
 bif ((List.getD (numsOf a) (c.toNat) (dflt (.int .u8))) != (95:Int)) then
 bif ((List.getD (numsOf a) (c.toNat) (dflt (.int .u8))) != (46:Int)) then
 inrO (some ((),false))
 else
 some (.inl ((IntKind.wrap .i64 (c+(1:Int)),()),()))
 else
 some (.inl ((IntKind.wrap .i64 (c+(1:Int)),()),()))
 else
 some (.inl ((IntKind.wrap .i64 (c+(1:Int)),()),()))
 else
 some (.inl ((IntKind.wrap .i64 (c+(1:Int)),()),()))
 else
 bif decide ((List.getD (numsOf a) (c.toNat) (dflt (.int .u8)))>(122:Int)) then
 bif decide ((List.getD (numsOf a) (c.toNat) (dflt (.int .u8)))<(48:Int)) then
 bif ((List.getD (numsOf a) (c.toNat) (dflt (.int .u8))) != (45:Int)) then
 bif ((List.getD (numsOf a) (c.toNat) (dflt (.int .u8))) != (95:Int)) then
 bif ((List.getD (numsOf a) (c.toNat) (dflt (.int .u8))) != (46:Int)) then
 inrO (some ((),false))
 else
 some (.inl ((IntKind.wrap .i64 (c+(1:Int)),()),()))
 else
 some (.inl ((IntKind.wrap .i64 (c+(1:Int)),()),()))
 else
 some (.inl ((IntKind.wrap .i64 (c+(1:Int)),()),()))
 else
 bif decide ((List.getD (numsOf a) (c.toNat) (dflt (.int .u8)))>(57:Int)) then
 bif ((List.getD (numsOf a) (c.toNat) (dflt (.int .u8))) != (45:Int)) then
 bif ((List.getD (numsOf a) (c.toNat) (dflt (.int .u8))) != (95:Int)) then
 bif ((List.getD (numsOf a) (c.toNat) (dflt (.int .u8))) != (46:Int)) then
 inrO (some ((),false))
 else
 some (.inl ((IntKind.wrap .i64 (c+(1:Int)),()),()))
 else
 some (.inl ((IntKind.wrap .i64 (c+(1:Int)),()),()))
 else
 some (.inl ((IntKind.wrap .i64 (c+(1:Int)),()),()))
 else
 some (.inl ((IntKind.wrap .i64 (c+(1:Int)),()),()))
 else
 some (.inl ((IntKind.wrap .i64 (c+(1:Int)),()),()))
 else none
 else none
 else
 inrO (bif decide ((ByteArray.size a:Int)≥(1:Int)) then
 some ((),decide ((ByteArray.size a:Int)≤(32:Int)))
 else
 some ((),false)))
 (((0:Int),()),())
def e102 (fu:Nat):Ent := ⟨102,(.cons hT .nil),.nil,(.hole .bool),p102 fu⟩
def d102 (_:Nat):DC := (.seq (.region [opD 2 (.mov (.const vB))] [[]] false) (.seq (.seq (.region [mvD 5 0,opD 6 (.s2b 5 (tD 5)),opD 7 (.len false (tD 6)),opD 8 (.mov (cD 0))] [[],[0],[1],[]] false) (.block 0 (.loop ⟨[8],(.cons hI .nil),[],.nil,[0,6,7],[]⟩
 (.seq (.region [opD 9 (.bin .lss (tD 8) (tD 7))] [[]] false) (.seq (.cond (.tmp 9) .skip (.exit 0)) (.seq (.block 1 (.seq (.region [opD 10 (.iaddr 1 (tD 6) (tD 8)),lD 11 1 10,mvD 4 11] [[],[0],[1,0,1]] false) (.seq (.region [mvD 12 4,opD 13 (.bin .lss (tD 12) (.const (.int .u8 97))),mvD 14 13,ogD 15 14 false (.mov (tD 4)),ogD 16 14 false (.bin .gtr (tD 15) (.const (.int .u8 122))),opD 17 (.pick (tD 14) (.const (.bool true)) (tD 16)),mvD 18 17,ogD 19 18 true (.mov (tD 4)),ogD 20 18 true (.bin .lss (tD 19) (.const (.int .u8 48))),ogD 21 18 true (.mov (tD 20)),ogD 22 21 false (.mov (tD 4)),ogD 23 21 false (.bin .gtr (tD 22) (.const (.int .u8 57))),ogD 24 18 true (.pick (tD 21) (.const (.bool true)) (tD 23)),opD 25 (.pick (tD 18) (tD 24) (.const vB)),mvD 26 25,ogD 27 26 true (.mov (tD 4)),ogD 28 26 true (.bin .neq (tD 27) (.const (.int .u8 45))),opD 29 (.pick (tD 26) (tD 28) (.const vB)),mvD 30 29,ogD 31 30 true (.mov (tD 4)),ogD 32 30 true (.bin .neq (tD 31) (.const (.int .u8 95))),opD 33 (.pick (tD 30) (tD 32) (.const vB)),mvD 34 33,ogD 35 34 true (.mov (tD 4)),ogD 36 34 true (.bin .neq (tD 35) (.const (.int .u8 46))),opD 37 (.pick (tD 34) (tD 36) (.const vB))] [[],[0],[1],[2],[3,2],[2,4],[5,2],[6],[7,6],[8,6,6],[9],[10,9],[9,11,6],[6,12],[13,9],[14],[15,14],[14,16],[17,14],[18],[19,18],[18,20],[21,18],[22],[23,22],[22,24]] false) (.cond (.tmp 37) (.seq (.region [opD 2 (.mov (.const vB))] [[]] false) .ret) .skip)))) (.region [opD 38 (.bin .add (tD 8) (cD 1)),mvD 8 38] [[],[0]] false))))))) (.seq (.region [mvD 39 0,opD 40 (.len true (tD 39)),opD 41 (.bin .geq (tD 40) (cD 1)),mvD 42 41,ogD 43 42 true (.mov (tD 0)),ogD 44 42 true (.len true (tD 43)),ogD 45 42 true (.bin .leq (tD 44) (cD 32)),opD 46 (.pick (tD 42) (tD 45) (.const vB)),mvD 2 46] [[],[0],[1],[2],[3],[4,3],[5,3],[3,6],[7,3,0,1,2,3,4,5,6,7]] false) .ret)))
theorem g102 (fu:Nat):(e102 fu).Good Tryz.prog := Q0c Q0d Tryz.func102 fu (d102 fu) rs102 47 (l := []) trivial
def rs39:List RVx := [(.tmp 2)]
def p39 (fu:Nat):(List (D_runtime_errorAddressString))×Unit→Option (Unit×Bool) := fun ⟨a,_⟩ =>
loopO (S := (Int×Unit)×Unit) fu (fun ⟨⟨c,_⟩,_⟩ =>
 bif decide (c<(a.length:Int)) then
 bif decide ((0:Int)≤c∧c<(a.length:Int)) then
 bif decide (c.toNat<a.length) then
 Option.bind (p102 fu ((a.getD (c.toNat) (dflt T_runtime_errorAddressString)).1,())) fun ⟨_,f⟩ =>
 bif !f then
 inrO (some ((),false))
 else
 bif decide (c>(0:Int)) then
 bif decide ((0:Int)≤IntKind.wrap .i64 (c-(1:Int))∧IntKind.wrap .i64 (c-(1:Int))<(a.length:Int)) then
 bif decide (Int.toNat (IntKind.wrap .i64 (c-(1:Int)))<a.length) then
 bif !Op.bytesLess (ByteArray.toList ((a.getD (Int.toNat (IntKind.wrap .i64 (c-(1:Int)))) (dflt T_runtime_errorAddressString)).1)) (ByteArray.toList ((a.getD (c.toNat) (dflt T_runtime_errorAddressString)).1)) then
 inrO (some ((),false))
 else
 some (.inl ((IntKind.wrap .i64 (c+(1:Int)),()),()))
 else none
 else none
 else
 some (.inl ((IntKind.wrap .i64 (c+(1:Int)),()),()))
 else none
 else none
 else
 inrO (some ((),decide ((a.length:Int)≤(64:Int)))))
 (((0:Int),()),())
def e39 (fu:Nat):Ent := ⟨39,(.cons (.hole (.sl T_runtime_errorAddressString)) .nil),.nil,(.hole .bool),p39 fu⟩
def d39 (fu:Nat):DC := (.seq (.region [opD 2 (.mov (.const vB))] [[]] false) (.seq (.seq (.region [mvD 5 0,opD 6 (.len false (tD 5)),opD 7 (.mov (cD 0))] [[],[0],[]] false) (.block 0 (.loop ⟨[7],(.cons hI .nil),[],.nil,[0,5,6],[]⟩
 (.seq (.region [opD 8 (.bin .lss (tD 7) (tD 6))] [[]] false) (.seq (.cond (.tmp 8) .skip (.exit 0)) (.seq (.block 1 (.seq (.region [mvD 9 7,opD 10 (.iaddr 2 (tD 5) (tD 7)),opD 11 (.load true 2 (tD 10)),opD 4 (.alloc 79 2 [vT,vU]),mvD 3 9,onD (.store 2 (tD 4) (tD 11))] [[],[],[1],[],[0,0,1,2,3],[3,2,4,0,1,2,3,4]] false) (.seq (.region [fD 12 0 4,lD 13 1 12,oqD 14 (.call 102 [(tD 13)]) (.ent (e102 fu)),opD 15 (.not (tD 14)),mvD 16 15,ogD 17 16 false (.mov (tD 3)),ogD 18 16 false (.bin .gtr (tD 17) (cD 0)),ogD 19 16 false (.mov (tD 18)),ogD 20 19 true (.mov (tD 0)),ogD 21 19 true (.mov (tD 3)),ogD 22 19 true (.bin .sub (tD 21) (cD 1)),ogD 23 19 true (.iaddr 2 (tD 20) (tD 22)),ogD 24 19 true (.faddr 0 (tD 23)),ogD 25 19 true (.load false 1 (tD 24)),ogD 26 19 true (.faddr 0 (tD 4)),ogD 27 19 true (.load false 1 (tD 26)),ogD 28 19 true (.bin .geq (tD 25) (tD 27)),ogD 29 16 false (.pick (tD 19) (tD 28) (.const vB)),opD 30 (.pick (tD 16) (.const (.bool true)) (tD 29))] [[],[0],[1],[2],[3,2],[4],[5,4],[6,4,4],[7],[7],[9,7],[8,10,7],[11,7],[12,7],[7],[14,7],[13,15,7],[7,16,4],[4,17]] true) (.cond (.tmp 30) (.seq (.region [opD 2 (.mov (.const vB))] [[]] false) .ret) .skip)))) (.region [opD 31 (.bin .add (tD 7) (cD 1)),mvD 7 31] [[],[0]] false))))))) (.seq (.region [mvD 32 0,opD 33 (.len false (tD 32)),opD 34 (.bin .leq (tD 33) (cD 64)),mvD 2 34] [[],[0],[1],[2,0,1,2]] false) .ret)))
theorem g39 (fu:Nat):(e39 fu).Good Tryz.prog := Q0c Q0d Tryz.func39 fu (d39 fu) rs39 35 (l := [e102 fu]) ⟨g102 fu,trivial⟩
def rs104:List RVx := [(.tmp 4)]
def p104 (fu:Nat):(Int×(Int×(Bool×(Int×Unit))))×(Int×Unit)→Option (Unit×Int) := fun ⟨⟨a,_,_,_,_⟩,c,_⟩ =>
Option.bind (p105 fu (a,c,())) fun ⟨_,f⟩ =>
some ((),f)
def e104 (fu:Nat):Ent := ⟨104,(.cons (.agg 4 (.cons hU (.cons hU (.cons (.hole .bool) (.cons hU .nil))))) (.cons hU .nil)),.nil,hI,p104 fu⟩
def d104 (fu:Nat):DC := (.seq (.region [opD 2 (.box 77 4 (tD 0)),opD 4 (.mov (cD 0))] [[],[]] false) (.seq (.region [fD 5 0 2,lD 6 1 5,mvD 7 1,oqD 8 (.call 105 [(tD 6),(tD 7)]) (.ent (e105 fu)),mvD 4 8] [[],[0],[],[1,2],[3,3,0,1,2,3]] false) .ret))
theorem g104 (fu:Nat):(e104 fu).Good Tryz.prog := Q0c Q0d Tryz.func104 fu (d104 fu) rs104 9 (l := [e105 fu]) ⟨g105 fu,trivial⟩
def rs103:List RVx := [(.tmp 6),(.tmp 7)]
def p103 (fu:Nat):(List (D_api_Producer))×(Int×((Unit×Unit)×Unit))→Option (Unit×(Int×(Bool×Unit))) := fun ⟨a,c,⟨_,_⟩,_⟩ =>
loopO (S := (Int×(Int×Unit))×Unit) fu (fun ⟨⟨f,h,_⟩,_⟩ =>
 bif decide (f<h) then
 bif decide ((0:Int)≤IntKind.wrap .i64 (Int.fdiv (IntKind.wrap .u64 (IntKind.wrap .i64 (f+h))) (2 ^ (min (Int.toNat (1:Int)) (IntKind.bits .u64))))∧IntKind.wrap .i64 (Int.fdiv (IntKind.wrap .u64 (IntKind.wrap .i64 (f+h))) (2 ^ (min (Int.toNat (1:Int)) (IntKind.bits .u64))))<(a.length:Int)) then
 bif decide (Int.toNat (IntKind.wrap .i64 (Int.fdiv (IntKind.wrap .u64 (IntKind.wrap .i64 (f+h))) (2 ^ (min (Int.toNat (1:Int)) (IntKind.bits .u64)))))<a.length) then
 Option.bind (p104 fu (((a.getD (Int.toNat (IntKind.wrap .i64 (Int.fdiv (IntKind.wrap .u64 (IntKind.wrap .i64 (f+h))) (2 ^ (min (Int.toNat (1:Int)) (IntKind.bits .u64)))))) (dflt T_api_Producer)).1,((a.getD (Int.toNat (IntKind.wrap .i64 (Int.fdiv (IntKind.wrap .u64 (IntKind.wrap .i64 (f+h))) (2 ^ (min (Int.toNat (1:Int)) (IntKind.bits .u64)))))) (dflt T_api_Producer)).2).1,(((a.getD (Int.toNat (IntKind.wrap .i64 (Int.fdiv (IntKind.wrap .u64 (IntKind.wrap .i64 (f+h))) (2 ^ (min (Int.toNat (1:Int)) (IntKind.bits .u64)))))) (dflt T_api_Producer)).2).2).1,(((a.getD (Int.toNat (IntKind.wrap .i64 (Int.fdiv (IntKind.wrap .u64 (IntKind.wrap .i64 (f+h))) (2 ^ (min (Int.toNat (1:Int)) (IntKind.bits .u64)))))) (dflt T_api_Producer)).2).2).2,()),c,())) fun ⟨_,i⟩ =>
 bif decide (i<(0:Int)) then
 some (.inl ((IntKind.wrap .i64 ((IntKind.wrap .i64 (Int.fdiv (IntKind.wrap .u64 (IntKind.wrap .i64 (f+h))) (2 ^ (min (Int.toNat (1:Int)) (IntKind.bits .u64)))))+(1:Int)),h,()),()))
 else
 some (.inl ((f,IntKind.wrap .i64 (Int.fdiv (IntKind.wrap .u64 (IntKind.wrap .i64 (f+h))) (2 ^ (min (Int.toNat (1:Int)) (IntKind.bits .u64)))),()),()))
 else none
 else none
 else
 inrO (bif decide (f<(a.length:Int)) then
 bif decide ((0:Int)≤f∧f<(a.length:Int)) then
 bif decide (f.toNat<a.length) then
 Option.bind (p104 fu (((a.getD (f.toNat) (dflt T_api_Producer)).1,((a.getD (f.toNat) (dflt T_api_Producer)).2).1,(((a.getD (f.toNat) (dflt T_api_Producer)).2).2).1,(((a.getD (f.toNat) (dflt T_api_Producer)).2).2).2,()),c,())) fun ⟨_,j⟩ =>
 some ((),(f,(j==(0:Int)),()))
 else none
 else none
 else
 some ((),(f,false,()))))
 (((0:Int),(a.length:Int),()),())
def e103 (fu:Nat):Ent := ⟨103,(.cons (.hole (.sl T_api_Producer)) (.cons hU (.cons (.clo 104 0 .nil 0 .nil) .nil))),.nil,(.tup 2 (.cons hI (.cons (.hole .bool) .nil))),p103 fu⟩
def d103 (fu:Nat):DC := (.seq (.region [opD 6 (.mov (cD 0)),opD 7 (.mov (.const vB))] [[],[0]] false) (.seq (.region [mvD 12 0,opD 13 (.len false (tD 12)),mvD 8 13] [[],[0],[1,0,1]] false) (.seq (.region [mvD 14 8,opD 9 (.mov (cD 0)),mvD 10 14] [[],[],[0,1,0,1]] false) (.seq (.block 0 (.loop ⟨[9,10],(.cons hI (.cons hI .nil)),[],.nil,[0,1,2,8],[]⟩
 (.seq (.seq (.region [mvD 15 9,mvD 16 10,opD 17 (.bin .lss (tD 15) (tD 16))] [[],[],[0,1]] false) (.cond (.tmp 17) .skip (.exit 0))) (.block 1 (.seq (.region [mvD 18 9,mvD 19 10,opD 20 (.bin .add (tD 18) (tD 19)),opD 21 (.conv .u64 (tD 20)),opD 22 (.bin .shr (tD 21) (.const (.int .u64 1))),opD 23 (.conv .i64 (tD 22)),mvD 11 23] [[],[],[0,1],[2],[3],[4],[5,0,1,2,3,4,5]] false) (.seq (.region [mvD 24 2,mvD 25 0,mvD 26 11,opD 27 (.iaddr 4 (tD 25) (tD 26)),opD 28 (.load true 4 (tD 27)),mvD 29 1,oqD 30 (.callv (tD 24) [(tD 28),(tD 29)]) (.ent (e104 fu)),opD 31 (.bin .lss (tD 30) (cD 0))] [[],[],[],[1,2],[3],[],[0,4,5],[6]] false) (.cond (.tmp 31) (.region [mvD 32 11,opD 33 (.bin .add (tD 32) (cD 1)),mvD 9 33] [[],[0],[1,0,1]] false) (.region [mvD 34 11,mvD 10 34] [[],[0,0]] false)))))))) (.seq (.region [mvD 35 9,mvD 36 9,mvD 37 8,opD 38 (.bin .lss (tD 36) (tD 37)),mvD 39 38,ogD 40 39 true (.mov (tD 2)),ogD 41 39 true (.mov (tD 0)),ogD 42 39 true (.mov (tD 9)),ogD 43 39 true (.iaddr 4 (tD 41) (tD 42)),ogD 44 39 true (.load true 4 (tD 43)),ogD 45 39 true (.mov (tD 1)),(⟨(some 46),(some (39,true)),(.callv (tD 40) [(tD 44),(tD 45)])⟩,(.ent (e104 fu))),ogD 47 39 true (.bin .eql (tD 46) (cD 0)),opD 48 (.pick (tD 39) (tD 47) (.const vB)),mvD 6 35,mvD 7 48] [[],[],[],[1,2],[3],[4],[4],[4],[6,7,4],[8,4],[4],[5,9,10,4,4],[11,4],[4,12],[0,11,0],[13,14,0,1,2,3,4,5,6,7,8,9,10,11,12,13,14]] false) .ret)))))
theorem g103 (fu:Nat):(e103 fu).Good Tryz.prog := Q0c Q0d Tryz.func103 fu (d103 fu) rs103 49 (l := [e104 fu,e104 fu]) ⟨g104 fu,g104 fu,trivial⟩
def rs106:List RVx := [(.tmp 4)]
def p106 (fu:Nat):(ByteArray×(ByteArray×Unit))×(ByteArray×Unit)→Option (Unit×Bool) := fun ⟨⟨a,c,_⟩,f,_⟩ =>
Option.bind (p36 fu ((a,c,()),())) fun ⟨_,h⟩ =>
bif (h==(0:Int)) then
 Option.bind (p96 fu (f,())) fun ⟨_,i⟩ =>
 bif i then
 bif !Op.bytesLess (ByteArray.toList f) (ByteArray.toList a) then
 Option.bind (p97 fu ((a,c,()),())) fun ⟨_,⟨j,k,_⟩⟩ =>
 Option.bind (p98 fu ((j,k,()),f,())) fun ⟨_,l⟩ =>
 some ((),l)
 else
 some ((),false)
 else
 some ((),false)
else
 some ((),false)
def e106 (fu:Nat):Ent := ⟨106,(.cons (.agg 2 (.cons hT (.cons hT .nil))) (.cons hT .nil)),.nil,(.hole .bool),p106 fu⟩
def d106 (fu:Nat):DC := (.seq (.region [opD 2 (.box 23 2 (tD 0)),opD 4 (.mov (.const vB))] [[],[]] false) (.seq (.region [opD 5 (.load true 2 (tD 2)),oqD 6 (.call 36 [(tD 5)]) (.ent (e36 fu)),opD 7 (.bin .eql (tD 6) (cD 0)),mvD 8 7,ogD 9 8 true (.mov (tD 1)),(⟨(some 10),(some (8,true)),(.call 96 [(tD 9)])⟩,(.ent (e96 fu))),opD 11 (.pick (tD 8) (tD 10) (.const vB)),mvD 12 11,ogD 13 12 true (.mov (tD 1)),ogD 14 12 true (.faddr 0 (tD 2)),ogD 15 12 true (.load false 1 (tD 14)),ogD 16 12 true (.bin .geq (tD 13) (tD 15)),opD 17 (.pick (tD 12) (tD 16) (.const vB)),mvD 18 17,ogD 19 18 true (.load true 2 (tD 2)),(⟨(some 20),(some (18,true)),(.call 97 [(tD 19)])⟩,(.ent (e97 fu))),ogD 21 18 true (.mov (tD 1)),(⟨(some 22),(some (18,true)),(.call 98 [(tD 20),(tD 21)])⟩,(.ent (e98 fu))),opD 23 (.pick (tD 18) (tD 22) (.const vB)),mvD 4 23] [[],[0],[1],[2,1],[3],[4,3,3],[3,5],[6,5],[7],[7],[9,7],[8,10,7],[7,11],[12,7],[13],[14,13,13],[13],[15,16,15,13],[13,17],[18,17,0,1,2,3,4,5,6,7,8,9,10,11,12,13,14,15,16,17,18]] false) .ret))
theorem g106 (fu:Nat):(e106 fu).Good Tryz.prog := Q0c Q0d Tryz.func106 fu (d106 fu) rs106 24 (l := [e36 fu,e96 fu,e97 fu,e98 fu]) ⟨g36 fu,g96 fu,g97 fu,g98 fu,trivial⟩
def rs40:List RVx := [(.tmp 2)]
def p40 (fu:Nat):(Z4)×Unit→Option (Unit×Bool) := fun ⟨⟨a,c,_,_,f,h,_,_⟩,_⟩ =>
bif decide ((0:Int)≤(h.length:Int)∧((h.length:Int):Int)≤(h.length:Int)∧((h.length:Int):Int)≤9223372036854775807∧(8:Int) * (h.length:Int)≤140737488355328) then
 bif decide (Int.toNat (h.length:Int)=List.length (List.replicate (Int.toNat (h.length:Int)) (0:Int):List Int)) then
 loopO (S := ((List Int)×(Int×Unit))×Unit) fu (fun ⟨⟨i,j,_⟩,_⟩ =>
 bif decide (j<(f.length:Int)) then
 bif decide ((0:Int)≤j∧j<(f.length:Int)) then
 bif decide (j.toNat<f.length) then
 Option.bind (p103 fu (h,((((f.getD (j.toNat) (dflt T_api_Record)).2).2).2).1,((),()),())) fun ⟨_,⟨k,l,_⟩⟩ =>
 bif !l then
 inrO (some ((),false))
 else
 Option.bind (p106 fu ((a,c,()),((f.getD (j.toNat) (dflt T_api_Record)).2).1,())) fun ⟨_,m⟩ =>
 bif !m then
 inrO (some ((),false))
 else
 bif decide ((0:Int)≤k∧k<(i.length:Int)) then
 bif decide (k.toNat<i.length) then
 bif decide ((((((f.getD (j.toNat) (dflt T_api_Record)).2).2).2).2)≤(i.getD (k.toNat) (dflt (.int .u64)))) then
 inrO (some ((),false))
 else
 bif decide ((0:Int)≤k∧k<(h.length:Int)) then
 bif decide (k.toNat<h.length) then
 bif decide ((((((f.getD (j.toNat) (dflt T_api_Record)).2).2).2).2)>(((h.getD (k.toNat) (dflt T_api_Producer)).2).1)) then
 inrO (some ((),false))
 else
 bif decide ((0:Int)≤k∧k<(i.length:Int)) then
 bif decide (k.toNat<i.length) then
 bif decide (i.length=List.length (List.set i (k.toNat) (((((f.getD (j.toNat) (dflt T_api_Record)).2).2).2).2))) then
 some (.inl (((List.set i (k.toNat) (((((f.getD (j.toNat) (dflt T_api_Record)).2).2).2).2)),IntKind.wrap .i64 (j+(1:Int)),()),()))
 else none
 else none
 else none
 else none
 else none
 else none
 else none
 else none
 else none
 else
 inrO (some ((),true)))
 (((List.replicate (Int.toNat (h.length:Int)) (0:Int):List Int),(0:Int),()),())
 else none
else none
def e40 (fu:Nat):Ent := ⟨40,(.cons Y6 .nil),.nil,(.hole .bool),p40 fu⟩
def d40 (fu:Nat):DC := (.seq (.region [opD 1 (.box 29 7 (tD 0)),opD 2 (.mov (.const vB))] [[],[]] false) (.seq (.region [fD 8 5 1,lD 9 1 8,opD 10 (.len false (tD 9)),oqD 11 (.make false 24 1 [vU] 8 (tD 10) (tD 10)) (.ty (.int .u64)),mvD 3 11] [[],[0],[1],[2,2],[3,0,1,2,3]] false) (.seq (.seq (.region [fD 12 4 1,lD 13 1 12,opD 14 (.len false (tD 13)),opD 15 (.mov (cD 0))] [[],[0],[1],[]] false) (.block 0 (.loop ⟨[3,15],(.cons (.own .own 24 (.int .u64)) (.cons hI .nil)),[],.nil,[1,13,14],[0]⟩
 (.seq (.region [opD 16 (.bin .lss (tD 15) (tD 14))] [[]] false) (.seq (.cond (.tmp 16) .skip (.exit 0)) (.seq (.block 1 (.seq (.region [opD 17 (.iaddr 5 (tD 13) (tD 15)),opD 18 (.load true 5 (tD 17)),opD 5 (.alloc 49 5 [vU,vT,vS,vU,vU]),onD (.store 5 (tD 5) (tD 18))] [[],[0],[],[2,1,0,1,2]] false) (.seq (.region [fD 20 5 1,lD 21 1 20,fD 22 3 5,lD 23 1 22,oqD 24 (.call 103 [(tD 21),(tD 23),(.func 104)]) (.ent (e103 fu)),mvD 19 24,opD 25 (.ext (tD 19) 0),opD 26 (.ext (tD 19) 1),mvD 6 25,mvD 7 26] [[],[0],[],[2],[1,3],[4],[5],[5],[6,4,0,1,2,3,4,5,6],[7,8,0,1,2,3,4,5,6,7,8]] false) (.seq (.seq (.region [mvD 27 7,opD 28 (.not (tD 27)),mvD 29 28,ogD 30 29 false (.faddr 0 (tD 1)),ogD 31 29 false (.load true 2 (tD 30)),ogD 32 29 false (.faddr 1 (tD 5)),ogD 33 29 false (.load false 1 (tD 32)),(⟨(some 34),(some (29,false)),(.call 106 [(tD 31),(tD 33)])⟩,(.ent (e106 fu))),ogD 35 29 false (.not (tD 34)),opD 36 (.pick (tD 29) (.const (.bool true)) (tD 35)),mvD 37 36,ogD 38 37 false (.faddr 4 (tD 5)),ogD 39 37 false (.load false 1 (tD 38)),ogD 40 37 false (.mov (tD 3)),ogD 41 37 false (.mov (tD 6)),ogD 42 37 false (.iaddr 1 (tD 40) (tD 41)),ogD 43 37 false (.load false 1 (tD 42)),ogD 44 37 false (.bin .leq (tD 39) (tD 43)),opD 45 (.pick (tD 37) (.const (.bool true)) (tD 44)),mvD 46 45,ogD 47 46 false (.faddr 4 (tD 5)),ogD 48 46 false (.load false 1 (tD 47)),ogD 49 46 false (.faddr 5 (tD 1)),ogD 50 46 false (.load false 1 (tD 49)),ogD 51 46 false (.mov (tD 6)),ogD 52 46 false (.iaddr 4 (tD 50) (tD 51)),ogD 53 46 false (.faddr 1 (tD 52)),ogD 54 46 false (.load false 1 (tD 53)),ogD 55 46 false (.bin .gtr (tD 48) (tD 54)),opD 56 (.pick (tD 46) (.const (.bool true)) (tD 55))] [[],[0],[1],[2],[3,2],[2],[5,2],[4,6,2,2],[7,2],[2,8],[9,7],[10],[11,10],[10],[10],[13,14,10],[15,10],[12,16,10],[10,17],[18,10],[19],[20,19],[19],[22,19],[19],[23,24,19],[25,19],[26,19],[21,27,19],[19,28]] true) (.cond (.tmp 56) (.seq (.region [opD 2 (.mov (.const vB))] [[]] false) .ret) .skip)) (.region [mvD 57 3,mvD 58 6,fD 59 4 5,lD 60 1 59,opD 61 (.iaddr 1 (tD 57) (tD 58)),onD (.store 1 (tD 61) (tD 60))] [[],[],[],[2],[0,1,0,1,2,3],[4,3,0,1,2,3]] false))))) (.region [opD 62 (.bin .add (tD 15) (cD 1)),mvD 15 62] [[],[0]] false))))))) (.seq (.region [opD 2 (.mov (.const (.bool true)))] [[]] false) .ret))))
theorem g40 (fu:Nat):(e40 fu).Good Tryz.prog := Q0c Q0d Tryz.func40 fu (d40 fu) rs40 63 (l := [e103 fu,e106 fu]) ⟨g103 fu,g106 fu,trivial⟩
def rs41:List RVx := [(.tmp 2)]
def p41 (fu:Nat):(Z4)×Unit→Option (Unit×Bool) := fun ⟨⟨_,_,_,_,a,c,_,_⟩,_⟩ =>
loopO (S := (Int×Unit)×Unit) fu (fun ⟨⟨f,_⟩,_⟩ =>
 bif decide (f<(c.length:Int)) then
 bif decide ((0:Int)≤f∧f<(c.length:Int)) then
 bif decide (f.toNat<c.length) then
 bif !((((c.getD (f.toNat) (dflt T_api_Producer)).2).2).1) then
 some (.inl ((IntKind.wrap .i64 (f+(1:Int)),()),()))
 else
 bif decide (((((c.getD (f.toNat) (dflt T_api_Producer)).2).2).2)≥(IntKind.wrap .u64 (a.length:Int))) then
 inrO (some ((),false))
 else
 bif decide ((0:Int)≤(((c.getD (f.toNat) (dflt T_api_Producer)).2).2).2∧(((c.getD (f.toNat) (dflt T_api_Producer)).2).2).2<(a.length:Int)) then
 bif decide (Int.toNat ((((c.getD (f.toNat) (dflt T_api_Producer)).2).2).2)<a.length) then
 bif ((((((a.getD (Int.toNat ((((c.getD (f.toNat) (dflt T_api_Producer)).2).2).2)) (dflt T_api_Record)).2).2).2).1) != ((c.getD (f.toNat) (dflt T_api_Producer)).1)) then
 inrO (some ((),false))
 else
 bif ((((((a.getD (Int.toNat ((((c.getD (f.toNat) (dflt T_api_Producer)).2).2).2)) (dflt T_api_Record)).2).2).2).2) != (((c.getD (f.toNat) (dflt T_api_Producer)).2).1)) then
 inrO (some ((),false))
 else
 some (.inl ((IntKind.wrap .i64 (f+(1:Int)),()),()))
 else none
 else none
 else none
 else none
 else
 inrO (some ((),true)))
 (((0:Int),()),())
def e41 (fu:Nat):Ent := ⟨41,(.cons Y6 .nil),.nil,(.hole .bool),p41 fu⟩
def d41 (_:Nat):DC := (.seq (.region [opD 1 (.box 29 7 (tD 0)),opD 2 (.mov (.const vB))] [[],[]] false) (.seq (.seq (.region [fD 6 5 1,lD 7 1 6,opD 8 (.len false (tD 7)),opD 9 (.mov (cD 0))] [[],[0],[1],[]] false) (.block 0 (.loop ⟨[9],(.cons hI .nil),[],.nil,[1,7,8],[0]⟩
 (.seq (.region [opD 10 (.bin .lss (tD 9) (tD 8))] [[]] false) (.seq (.cond (.tmp 10) .skip (.exit 0)) (.seq (.block 1 (.seq (.region [opD 11 (.iaddr 4 (tD 7) (tD 9)),opD 12 (.load true 4 (tD 11)),opD 4 (.alloc 77 4 [vU,vU,vB,vU]),onD (.store 4 (tD 4) (tD 12))] [[],[0],[],[2,1,0,1,2]] false) (.seq (.seq (.region [fD 13 2 4,lD 14 1 13,opD 15 (.not (tD 14))] [[],[0],[1]] false) (.cond (.tmp 15) (.exit 1) .skip)) (.seq (.seq (.region [fD 16 3 4,lD 17 1 16,fD 18 4 1,lD 19 1 18,opD 20 (.len false (tD 19)),opD 21 (.conv .u64 (tD 20)),opD 22 (.bin .geq (tD 17) (tD 21))] [[],[0],[],[2],[3],[4],[1,5]] false) (.cond (.tmp 22) (.seq (.region [opD 2 (.mov (.const vB))] [[]] false) .ret) .skip)) (.seq (.region [fD 23 4 1,lD 24 1 23,fD 25 3 4,lD 26 1 25,opD 27 (.iaddr 5 (tD 24) (tD 26)),opD 28 (.load true 5 (tD 27)),opD 5 (.alloc 49 5 [vU,vT,vS,vU,vU]),onD (.store 5 (tD 5) (tD 28))] [[],[0],[],[2],[1,3],[4],[],[6,5,0,1,2,3,4,5,6]] false) (.seq (.region [fD 29 3 5,lD 30 1 29,fD 31 0 4,lD 32 1 31,opD 33 (.bin .neq (tD 30) (tD 32)),mvD 34 33,ogD 35 34 false (.faddr 4 (tD 5)),ogD 36 34 false (.load false 1 (tD 35)),ogD 37 34 false (.faddr 1 (tD 4)),ogD 38 34 false (.load false 1 (tD 37)),ogD 39 34 false (.bin .neq (tD 36) (tD 38)),opD 40 (.pick (tD 34) (.const (.bool true)) (tD 39))] [[],[0],[],[2],[1,3],[4],[5],[6,5],[5],[8,5],[7,9,5],[5,10]] false) (.cond (.tmp 40) (.seq (.region [opD 2 (.mov (.const vB))] [[]] false) .ret) .skip))))))) (.region [opD 41 (.bin .add (tD 9) (cD 1)),mvD 9 41] [[],[0]] false))))))) (.seq (.region [opD 2 (.mov (.const (.bool true)))] [[]] false) .ret)))
theorem g41 (fu:Nat):(e41 fu).Good Tryz.prog := Q0c Q0d Tryz.func41 fu (d41 fu) rs41 42 (l := []) trivial
def rs42:List RVx := [(.tmp 2)]
def p42 (fu:Nat):(Z4)×Unit→Option (Unit×Bool) := fun ⟨⟨_,_,_,_,a,_,c,_⟩,_⟩ =>
loopO (S := (Int×Unit)×Unit) fu (fun ⟨⟨f,_⟩,_⟩ =>
 bif decide (f<(c.length:Int)) then
 bif decide ((0:Int)≤f∧f<(c.length:Int)) then
 bif decide (f.toNat<c.length) then
 bif decide (((c.getD (f.toNat) (dflt T_runtime_errorAddressString)).2)>(IntKind.wrap .u64 (a.length:Int))) then
 inrO (some ((),false))
 else
 some (.inl ((IntKind.wrap .i64 (f+(1:Int)),()),()))
 else none
 else none
 else
 inrO (some ((),true)))
 (((0:Int),()),())
def e42 (fu:Nat):Ent := ⟨42,(.cons Y6 .nil),.nil,(.hole .bool),p42 fu⟩
def d42 (_:Nat):DC := (.seq (.region [opD 1 (.box 29 7 (tD 0)),opD 2 (.mov (.const vB))] [[],[]] false) (.seq (.seq (.region [fD 5 6 1,lD 6 1 5,opD 7 (.len false (tD 6)),opD 8 (.mov (cD 0))] [[],[0],[1],[]] false) (.block 0 (.loop ⟨[8],(.cons hI .nil),[],.nil,[1,6,7],[0]⟩
 (.seq (.region [opD 9 (.bin .lss (tD 8) (tD 7))] [[]] false) (.seq (.cond (.tmp 9) .skip (.exit 0)) (.seq (.block 1 (.seq (.region [opD 10 (.iaddr 2 (tD 6) (tD 8)),opD 11 (.load true 2 (tD 10)),opD 4 (.alloc 79 2 [vT,vU]),onD (.store 2 (tD 4) (tD 11))] [[],[0],[],[2,1,0,1,2]] false) (.seq (.region [fD 12 1 4,lD 13 1 12,fD 14 4 1,lD 15 1 14,opD 16 (.len false (tD 15)),opD 17 (.conv .u64 (tD 16)),opD 18 (.bin .gtr (tD 13) (tD 17))] [[],[0],[],[2],[3],[4],[1,5]] false) (.cond (.tmp 18) (.seq (.region [opD 2 (.mov (.const vB))] [[]] false) .ret) .skip)))) (.region [opD 19 (.bin .add (tD 8) (cD 1)),mvD 8 19] [[],[0]] false))))))) (.seq (.region [opD 2 (.mov (.const (.bool true)))] [[]] false) .ret)))
theorem g42 (fu:Nat):(e42 fu).Good Tryz.prog := Q0c Q0d Tryz.func42 fu (d42 fu) rs42 20 (l := []) trivial
def rs10:List RVx := [(.tmp 2)]
def p10 (fu:Nat):(Z4)×Unit→Option (Unit×Int) := fun ⟨⟨a,c,f,h,i,j,k,_⟩,_⟩ =>
orK (E := (Bool×Unit)×Unit)
 (Option.bind (p36 fu ((a,c,()),())) fun ⟨_,l⟩ =>
 bif (l==(0:Int)) then
 bif (f != (0:Int)) then
 Option.bind (p37 fu (i,())) fun ⟨_,m⟩ =>
 bif m then
 Option.bind (p38 fu (j,())) fun ⟨_,n⟩ =>
 bif n then
 Option.bind (p39 fu (k,())) fun ⟨_,o⟩ =>
 bif o then
 Option.bind (p40 fu ((a,c,f,h,i,j,k,()),())) fun ⟨_,q⟩ =>
 bif q then
 Option.bind (p41 fu ((a,c,f,h,i,j,k,()),())) fun ⟨_,s⟩ =>
 bif s then
 Option.bind (p42 fu ((a,c,f,h,i,j,k,()),())) fun ⟨_,t⟩ =>
 some (.inl ((t,()),()))
 else
 some (.inl ((false,()),()))
 else
 some (.inl ((false,()),()))
 else
 some (.inl ((false,()),()))
 else
 some (.inl ((false,()),()))
 else
 some (.inl ((false,()),()))
 else
 some (.inl ((false,()),()))
 else
 some (.inl ((false,()),())))
 fun ⟨⟨u,_⟩,_⟩ =>
bif !u then
 some ((),(165:Int))
else
 some ((),(0:Int))
def e10 (fu:Nat):Ent := ⟨10,(.cons Y6 .nil),.nil,hI,p10 fu⟩
def d10 (fu:Nat):DC := (.seq (.region [opD 1 (.box 29 7 (tD 0)),opD 2 (.mov (cD 0))] [[],[]] false) (.join ⟨[3],(.cons (.hole .bool) .nil),[],.nil,[],[]⟩
 (.region [fD 4 0 1,opD 5 (.load true 2 (tD 4)),oqD 6 (.call 36 [(tD 5)]) (.ent (e36 fu)),opD 7 (.bin .eql (tD 6) (cD 0)),mvD 8 7,ogD 9 8 true (.faddr 2 (tD 1)),ogD 10 8 true (.load false 1 (tD 9)),ogD 11 8 true (.bin .neq (tD 10) (.const vU)),opD 12 (.pick (tD 8) (tD 11) (.const vB)),mvD 13 12,ogD 14 13 true (.faddr 4 (tD 1)),ogD 15 13 true (.load false 1 (tD 14)),(⟨(some 16),(some (13,true)),(.call 37 [(tD 15)])⟩,(.ent (e37 fu))),opD 17 (.pick (tD 13) (tD 16) (.const vB)),mvD 18 17,ogD 19 18 true (.faddr 5 (tD 1)),ogD 20 18 true (.load false 1 (tD 19)),(⟨(some 21),(some (18,true)),(.call 38 [(tD 20)])⟩,(.ent (e38 fu))),opD 22 (.pick (tD 18) (tD 21) (.const vB)),mvD 23 22,ogD 24 23 true (.faddr 6 (tD 1)),ogD 25 23 true (.load false 1 (tD 24)),(⟨(some 26),(some (23,true)),(.call 39 [(tD 25)])⟩,(.ent (e39 fu))),opD 27 (.pick (tD 23) (tD 26) (.const vB)),mvD 28 27,ogD 29 28 true (.load true 7 (tD 1)),(⟨(some 30),(some (28,true)),(.call 40 [(tD 29)])⟩,(.ent (e40 fu))),opD 31 (.pick (tD 28) (tD 30) (.const vB)),mvD 32 31,ogD 33 32 true (.load true 7 (tD 1)),(⟨(some 34),(some (32,true)),(.call 41 [(tD 33)])⟩,(.ent (e41 fu))),opD 35 (.pick (tD 32) (tD 34) (.const vB)),mvD 36 35,ogD 37 36 true (.load true 7 (tD 1)),(⟨(some 38),(some (36,true)),(.call 42 [(tD 37)])⟩,(.ent (e42 fu))),opD 39 (.pick (tD 36) (tD 38) (.const vB)),mvD 3 39] [[],[0],[1],[2],[3,2],[4],[5,4],[6,4],[4,7],[8,4],[9],[10,9],[11,9,9],[9,12],[13,12],[14],[15,14],[16,14,14],[14,17],[18,17],[19],[20,19],[21,19,19],[19,22],[23,22],[24],[25,24,24],[24,26],[27,26],[28],[29,28,28],[28,30],[31,30],[32],[33,32,32],[32,34],[35,34,0,1,2,3,4,5,6,7,8,9,10,11,12,13,14,15,16,17,18,19,20,21,22,23,24,25,26,27,28,29,30,31,32,33,34,35]] false)
 (.seq (.seq (.region [mvD 40 3,opD 41 (.not (tD 40))] [[],[0]] false) (.cond (.tmp 41) (.seq (.region [opD 2 (.mov (cD 165))] [[]] false) .ret) .skip)) (.seq (.region [opD 2 (.mov (cD 0))] [[]] false) .ret))))
theorem g10 (fu:Nat):(e10 fu).Good Tryz.prog := Q0c Q0d Tryz.func10 fu (d10 fu) rs10 42 (l := [e36 fu,e37 fu,e38 fu,e39 fu,e40 fu,e41 fu,e42 fu]) ⟨g36 fu,g37 fu,g38 fu,g39 fu,g40 fu,g41 fu,g42 fu,trivial⟩
def rs19:List RVx := [(.cell 4 true 7),(.tmp 5)]
def p19 (fu:Nat):(ByteArray×(ByteArray×Unit))×(Int×Unit)→Option (Unit×((Z4)×(Int×Unit))) := fun ⟨⟨a,c,_⟩,f,_⟩ =>
Option.bind (p10 fu ((a,c,f,(0:Int),[],[],[],()),())) fun ⟨_,h⟩ =>
bif (h != (0:Int)) then
 some ((),(((⟨#[]⟩:ByteArray),(⟨#[]⟩:ByteArray),(0:Int),(0:Int),[],[],[],()),h,()))
else
 some ((),((a,c,f,(0:Int),[],[],[],()),(0:Int),()))
def e19 (fu:Nat):Ent := ⟨19,(.cons (.agg 2 (.cons hT (.cons hT .nil))) (.cons hU .nil)),.nil,(.tup 2 (.cons Y6 (.cons hI .nil))),p19 fu⟩
def d19 (fu:Nat):DC := (.seq (.region [opD 2 (.box 23 2 (tD 0)),opD 4 (.alloc 29 7 [vT,vT,vU,vU,vS,vS,vS]),opD 5 (.mov (cD 0))] [[],[],[]] false) (.seq (.region [opD 8 (.load true 2 (tD 2)),mvD 9 1,opD 10 (.build 7 [vT,vT,vU,vU,vS,vS,vS] [(0,(2,(tD 8))),(2,(1,(tD 9)))]),opD 6 (.alloc 29 7 [vT,vT,vU,vU,vS,vS,vS]),onD (.store 7 (tD 6) (tD 10))] [[],[],[0,1],[],[3,2,0,1,2,3]] false) (.seq (.seq (.region [opD 11 (.load true 7 (tD 6)),oqD 12 (.call 10 [(tD 11)]) (.ent (e10 fu)),mvD 7 12] [[],[0],[1,1,0,1]] false) (.seq (.region [mvD 13 7,opD 14 (.bin .neq (tD 13) (cD 0))] [[],[0]] false) (.cond (.tmp 14) (.seq (.region [opD 15 (.build 7 [vT,vT,vU,vU,vS,vS,vS] []),mvD 16 7,onD (.store 7 (tD 4) (tD 15)),mvD 5 16] [[],[],[0,0],[1,2,0,1,2]] false) .ret) .skip))) (.seq (.region [opD 17 (.load true 7 (tD 6)),onD (.store 7 (tD 4) (tD 17)),opD 5 (.mov (cD 0))] [[],[0,0],[1,0,1]] false) .ret))))
theorem g19 (fu:Nat):(e19 fu).Good Tryz.prog := Q0c Q0d Tryz.func19 fu (d19 fu) rs19 18 (l := [e10 fu]) ⟨g10 fu,trivial⟩
def rs35:List RVx := [(.cell 4 true 10)]
def p35 (_:Nat):Int×(ByteArray×Unit)→Option (Unit×(Int×(Int×(Int×(Int×(ByteArray×((List Int)×(Int×(Int×(ByteArray×(Int×Unit))))))))))) := fun ⟨a,c,_⟩ =>
bif decide (1=List.length ([(118:Int)])∧0<1) then
 some ((),((1:Int),(1:Int),(7:Int),a,c,[(118:Int)],(0:Int),(0:Int),(⟨#[]⟩:ByteArray),(0:Int),()))
else none
def e35 (fu:Nat):Ent := ⟨35,(.cons hU (.cons hT .nil)),.nil,Y7,p35 fu⟩
def d35 (_:Nat):DC := (.seq (.region [opD 4 (.alloc 44 10 [vI,vU,vU,vU,vT,vS,vU,vI,vT,vU])] [[]] false) (.seq (.region [mvD 5 0,mvD 6 1,oqD 7 (.bslice 5 1 1 [(.int .u8 0)] [(0,(.const (.int .u8 118)))]) (.ty (.int .u8)),opD 8 (.b2b (tD 7)),opD 9 (.build 10 [vI,vU,vU,vU,vT,vS,vU,vI,vT,vU] [(0,(1,(cD 1))),(1,(1,(.const (.int .u64 1)))),(2,(1,(.const (.int .u64 7)))),(3,(1,(tD 5))),(4,(1,(tD 6))),(5,(1,(tD 8)))]),onD (.store 10 (tD 4) (tD 9))] [[],[],[],[2],[0,1,3],[4,0,1,2,3,4]] false) .ret))
theorem g35 (fu:Nat):(e35 fu).Good Tryz.prog := Q0c Q0d Tryz.func35 fu (d35 fu) rs35 10 (l := []) trivial
def rs141:List RVx := [(.tmp 2)]
def p141 (_:Nat):Int×Unit→Option (Unit×((List Int)×Unit)) := fun ⟨a,_⟩ =>
bif decide ((0:Int)≤0∧(0:Int)≤a∧(a:Int)≤9223372036854775807∧(1:Int) * a≤140737488355328) then
 bif decide (0=List.length (List.replicate 0 (0:Int):List Int)) then
 some ((),((List.replicate 0 (0:Int):List Int),()))
 else none
else none
def e141 (fu:Nat):Ent := ⟨141,(.cons hI .nil),.nil,(.box 212 1 (.cons (.own .app 5 (.int .u8)) .nil)),p141 fu⟩
def d141 (_:Nat):DC := (.seq (.region [opD 2 (.mov (.const (.pointer none)))] [[]] false) (.seq (.region [mvD 4 0,oqD 5 (.make true 5 1 [(.int .u8 0)] 1 (cD 0) (tD 4)) (.ty (.int .u8)),opD 3 (.alloc 212 1 [vS]),onD (.store 1 (tD 3) (tD 5))] [[],[0],[],[2,1,0,1,2]] false) (.seq (.region [mvD 2 3] [[]] false) .ret)))
theorem g141 (fu:Nat):(e141 fu).Good Tryz.prog := Q0c Q0d Tryz.func141 fu (d141 fu) rs141 6 (l := []) trivial
def rs144:List RVx := [(.tmp 4)]
def p144 (_:Nat):((List Int)×Unit)×((List Int)×Unit)→Option ((((List Int)×Unit)×(Unit×Unit))×(List Int)) := fun ⟨⟨a,_⟩,c,_⟩ =>
bif ((c.length:Int)==(0:Int)) then
 bif eqL a then
 some (((a,()),(),()),[])
 else none
else
 bif eqL a then
 bif decide (a.length+c.length≤maxLen∧(a.length+c.length) * 1≤140737488355328) then
 bif decide ((0:Int)≤((List.length (a ++ c)):Int)) then
 bif decide ((0:Int)≤((List.length (a ++ c)):Int)) then
 bif decide ((0:Int)≤((a.length):Int)) then
 bif decide (Int.toNat ((a.length):Int)≤Int.toNat ((List.length (a ++ c)):Int)∧Int.toNat ((List.length (a ++ c)):Int)≤Int.toNat ((List.length (a ++ c)):Int)∧Int.toNat ((List.length (a ++ c)):Int)≤List.length (a ++ c)∧0+(List.length (a ++ c))≤List.length (a ++ c)) then
 bif eqL (a ++ c) then
 some ((((a ++ c),()),(),()),slice' (a ++ c) (Int.toNat ((a.length):Int)) (some (Int.toNat ((List.length (a ++ c)):Int))))
 else none
 else none
 else none
 else none
 else none
 else none
 else none
def e144 (fu:Nat):Ent := ⟨144,(.cons (.box 212 1 (.cons (.own .app 5 (.int .u8)) .nil)) (.cons (.hole (.sl (.int .u8))) .nil)),(.cons (.agg 1 (.cons (.own .app 5 (.int .u8)) .nil)) (.cons .dead .nil)),(.hole (.sl (.int .u8))),p144 fu⟩
def d144 (_:Nat):DC := (.seq (.region [opD 4 (.mov (.const vS))] [[]] false) (.seq (.seq (.region [mvD 7 1,opD 8 (.len false (tD 7)),opD 9 (.bin .eql (tD 8) (cD 0))] [[],[0],[1]] false) (.cond (.tmp 9) (.seq (.region [opD 4 (.mov (.const vS))] [[]] false) .ret) .skip)) (.seq (.region [mvD 10 0,nD 11 10,lD 12 1 11,opD 13 (.len false (tD 12)),mvD 5 13] [[],[0],[1],[2],[3,0,1,2,3]] false) (.seq (.region [mvD 14 0,mvD 15 0,nD 16 15,lD 17 1 16,mvD 18 1,oqD 19 (.app 5 1 [(.int .u8 0)] 1 (tD 17) (tD 18)) (.ty (.int .u8)),nD 20 14,onD (.store 1 (tD 20) (tD 19))] [[],[],[1],[2],[],[3,4],[0,0,1,2,3,4,5],[6,5,5,0,1,2,3,4,5]] false) (.seq (.region [mvD 21 0,nD 22 21,lD 23 1 22,opD 24 (.len false (tD 23)),mvD 6 24] [[],[0],[1],[2],[3,0,1,2,3]] false) (.seq (.region [mvD 25 0,nD 26 25,lD 27 1 26,mvD 28 5,mvD 29 6,mvD 30 6,opD 31 (.slc3 1 (tD 27) (some (tD 28)) (some (tD 29)) (some (tD 30))),mvD 4 31] [[],[0],[1],[],[],[],[2,3,4,5],[6,0,1,2,3,4,5,6]] false) .ret))))))
theorem g144 (fu:Nat):(e144 fu).Good Tryz.prog := Q0c Q0d Tryz.func144 fu (d144 fu) rs144 32 (l := []) trivial
def rs143:List RVx := [(.cell 3 true 5)]
def p143 (fu:Nat):(Int×(ByteArray×((List Int)×(Int×(Int×Unit)))))×((((List Int)×Unit)×Unit)×Unit)→Option (((Unit×Unit)×(((List Int)×Unit)×(Unit×Unit)))×(Int×(ByteArray×((List Int)×(Int×(Int×Unit)))))) := fun ⟨⟨a,c,f,h,i,_⟩,⟨⟨j,_⟩,_⟩,_⟩ =>
bif eqL j then
 Option.bind (p144 fu ((j,()),f,())) fun ⟨⟨⟨k,_⟩,_,_⟩,l⟩ =>
 bif eqL k then
 some ((((),()),(k,()),(),()),(a,c,l,h,i,()))
 else none
else none
def e143 (fu:Nat):Ent := ⟨143,(.cons Y5 (.cons (.box 185 1 (.cons (.box 212 1 (.cons (.own .app 5 (.int .u8)) .nil)) .nil)) .nil)),(.cons (.agg 1 (.cons (.ptr 1) .nil)) (.cons (.agg 1 (.cons (.own .app 5 (.int .u8)) .nil)) (.cons .dead .nil))),Y5,p143 fu⟩
def d143 (fu:Nat):DC := (.seq (.region [opD 2 (.box 49 5 (tD 0)),opD 3 (.alloc 49 5 [vU,vT,vS,vU,vU])] [[],[]] false) (.seq (.region [lD 4 1 1,fD 5 2 2,lD 6 1 5,oqD 7 (.call 144 [(tD 4),(tD 6)]) (.ent (e144 fu)),fD 8 2 2,onD (.store 1 (tD 8) (tD 7))] [[],[],[1],[0,2],[0,1,2,3],[4,3,3,0,1,2,3]] false) (.seq (.region [opD 9 (.load true 5 (tD 2)),onD (.store 5 (tD 3) (tD 9))] [[],[0,0]] false) .ret)))
theorem g143 (fu:Nat):(e143 fu).Good Tryz.prog := Q0c Q0d Tryz.func143 fu (d143 fu) rs143 10 (l := [e144 fu]) ⟨g144 fu,trivial⟩
def rs142:List RVx := [(.tmp 4)]
def p142 (fu:Nat):(List (D_api_Record))×((Unit×((((List Int)×Unit)×Unit)×Unit))×Unit)→Option (((Unit×Unit)×(((List Int)×Unit)×(Unit×Unit)))×(List (D_api_Record))) := fun ⟨a,⟨_,⟨⟨⟨c,_⟩,_⟩,_⟩⟩,_⟩ =>
bif ((a.length:Int)==(0:Int)) then
 bif eqL c then
 some ((((),()),(c,()),(),()),[])
 else none
else
 bif decide ((0:Int)≤(a.length:Int)∧((a.length:Int):Int)≤(a.length:Int)∧((a.length:Int):Int)≤9223372036854775807∧(64:Int) * (a.length:Int)≤140737488355328) then
 bif decide (Int.toNat (a.length:Int)=List.length (List.replicate (Int.toNat (a.length:Int)) ((0:Int),(⟨#[]⟩:ByteArray),[],(0:Int),(0:Int)):List (D_api_Record))) then
 bif eqL c then
 loopO (S := ((List (D_api_Record))×(Int×Unit))×((Unit×Unit)×(((List Int)×Unit)×Unit))) fu (fun ⟨⟨f,h,_⟩,⟨⟨_,_⟩,⟨i,_⟩,_⟩⟩ =>
 bif decide (h<(a.length:Int)) then
 bif decide ((0:Int)≤h∧h<(a.length:Int)) then
 bif decide (h.toNat<a.length) then
 bif eqL i then
 Option.bind (p143 fu (((a.getD (h.toNat) (dflt T_api_Record)).1,((a.getD (h.toNat) (dflt T_api_Record)).2).1,(((a.getD (h.toNat) (dflt T_api_Record)).2).2).1,((((a.getD (h.toNat) (dflt T_api_Record)).2).2).2).1,((((a.getD (h.toNat) (dflt T_api_Record)).2).2).2).2,()),((i,()),()),())) fun ⟨⟨⟨_,_⟩,⟨j,_⟩,_,_⟩,⟨k,l,m,n,o,_⟩⟩ =>
 bif decide ((0:Int)≤h∧h<(f.length:Int)) then
 bif decide (h.toNat<f.length) then
 bif decide (f.length=List.length (List.set f (h.toNat) (k,l,m,n,o))) then
 bif eqL j then
 some (.inl (((List.set f (h.toNat) (k,l,m,n,o)),IntKind.wrap .i64 (h+(1:Int)),()),(((),()),(j,()),())))
 else none
 else none
 else none
 else none
 else none
 else none
 else none
 else
 inrO (bif eqL i then
 bif eqL f then
 some ((((),()),(i,()),(),()),f)
 else none
 else none))
 (((List.replicate (Int.toNat (a.length:Int)) ((0:Int),(⟨#[]⟩:ByteArray),[],(0:Int),(0:Int)):List (D_api_Record)),(0:Int),()),(((),()),(c,()),()))
 else none
 else none
 else none
def e142 (fu:Nat):Ent := ⟨142,(.cons (.hole (.sl T_api_Record)) (.cons (.clo 143 0 .nil 1 (.cons (.box 185 1 (.cons (.box 212 1 (.cons (.own .app 5 (.int .u8)) .nil)) .nil)) .nil)) .nil)),(.cons (.agg 1 (.cons (.ptr 1) .nil)) (.cons (.agg 1 (.cons (.own .app 5 (.int .u8)) .nil)) (.cons .dead .nil))),(.own .own 49 T_api_Record),p142 fu⟩
def d142 (fu:Nat):DC := (.seq (.region [opD 4 (.mov (.const vS))] [[]] false) (.seq (.seq (.region [mvD 8 0,opD 9 (.len false (tD 8)),opD 10 (.bin .eql (tD 9) (cD 0))] [[],[0],[1]] false) (.cond (.tmp 10) (.seq (.region [opD 4 (.mov (.const vS))] [[]] false) .ret) .skip)) (.seq (.region [mvD 11 0,opD 12 (.len false (tD 11)),oqD 13 (.make false 49 5 [vU,vT,vS,vU,vU] 64 (tD 12) (tD 12)) (.ty T_api_Record),mvD 5 13] [[],[0],[1,1],[2,0,1,2]] false) (.seq (.seq (.region [mvD 14 0,opD 15 (.len false (tD 14)),opD 16 (.mov (cD 0))] [[],[0],[]] false) (.block 0 (.loop ⟨[5,16],(.cons (.own .own 49 T_api_Record) (.cons hI .nil)),[(0,185,1),(1,212,1)],(.cons (.agg 1 (.cons (.ptr 1) .nil)) (.cons (.agg 1 (.cons (.own .app 5 (.int .u8)) .nil)) .nil)),[1,14,15],[2]⟩
 (.seq (.region [opD 17 (.bin .lss (tD 16) (tD 15))] [[]] false) (.seq (.cond (.tmp 17) .skip (.exit 0)) (.seq (.block 1 (.seq (.region [mvD 18 16,opD 19 (.iaddr 5 (tD 14) (tD 16)),opD 20 (.load true 5 (tD 19)),opD 7 (.alloc 49 5 [vU,vT,vS,vU,vU]),mvD 6 18,onD (.store 5 (tD 7) (tD 20))] [[],[],[1],[],[0,0,1,2,3],[3,2,4,0,1,2,3,4]] false) (.region [mvD 21 5,mvD 22 6,mvD 23 1,opD 24 (.load true 5 (tD 7)),oqD 25 (.callv (tD 23) [(tD 24)]) (.ent (e143 fu)),opD 26 (.iaddr 5 (tD 21) (tD 22)),onD (.store 5 (tD 26) (tD 25))] [[],[],[],[],[2,3],[0,1,0,1,2,3,4],[5,4,4,0,1,2,3,4]] false))) (.region [opD 27 (.bin .add (tD 16) (cD 1)),mvD 16 27] [[],[0]] false))))))) (.seq (.region [mvD 28 5,mvD 4 28] [[],[0,0]] false) .ret)))))
theorem g142 (fu:Nat):(e142 fu).Good Tryz.prog := Q0c Q0d Tryz.func142 fu (d142 fu) rs142 29 (l := [e143 fu]) ⟨g143 fu,trivial⟩
def rs110:List RVx := [(.tmp 2)]
def p110 (fu:Nat):(List (D_api_Record))×Unit→Option (Unit×(List (D_api_Record))) := fun ⟨a,_⟩ =>
loopO (S := (Int×(Int×Unit))×Unit) fu (fun ⟨⟨c,f,_⟩,_⟩ =>
 bif decide (f<(a.length:Int)) then
 bif decide ((0:Int)≤f∧f<(a.length:Int)) then
 bif decide (f.toNat<a.length) then
 some (.inl ((IntKind.wrap .i64 (c+(List.length ((((a.getD (f.toNat) (dflt T_api_Record)).2).2).1):Int)),IntKind.wrap .i64 (f+(1:Int)),()),()))
 else none
 else none
 else
 inrO (Option.bind (p141 fu (c,())) fun ⟨_,⟨h,_⟩⟩ =>
 bif eqL h then
 Option.bind (p142 fu (a,((),(((h,()),()),())),())) fun ⟨⟨⟨_,_⟩,⟨_,_⟩,_,_⟩,i⟩ =>
 bif eqL i then
 some ((),i)
 else none
 else none))
 (((0:Int),(0:Int),()),())
def e110 (fu:Nat):Ent := ⟨110,(.cons (.hole (.sl T_api_Record)) .nil),.nil,(.own .own 49 T_api_Record),p110 fu⟩
def d110 (fu:Nat):DC := (.seq (.region [opD 2 (.mov (.const vS))] [[]] false) (.seq (.region [opD 3 (.mov (cD 0))] [[]] false) (.seq (.seq (.region [mvD 6 0,opD 7 (.len false (tD 6)),opD 8 (.mov (cD 0))] [[],[0],[]] false) (.block 0 (.loop ⟨[3,8],(.cons hI (.cons hI .nil)),[],.nil,[0,7],[]⟩
 (.seq (.region [opD 9 (.bin .lss (tD 8) (tD 7))] [[]] false) (.seq (.cond (.tmp 9) .skip (.exit 0)) (.seq (.block 1 (.seq (.region [mvD 10 8,mvD 4 10] [[],[0,0]] false) (.region [mvD 11 3,mvD 12 0,mvD 13 4,opD 14 (.iaddr 5 (tD 12) (tD 13)),fD 15 2 14,lD 16 1 15,opD 17 (.len false (tD 16)),opD 18 (.bin .add (tD 11) (tD 17)),mvD 3 18] [[],[],[],[1,2],[3],[4],[5],[0,6],[7,0,1,2,3,4,5,6,7]] false))) (.region [opD 19 (.bin .add (tD 8) (cD 1)),mvD 8 19] [[],[0]] false))))))) (.seq (.region [mvD 20 3,oqD 21 (.call 141 [(tD 20)]) (.ent (e141 fu)),opD 5 (.alloc 185 1 [(.pointer none)]),onD (.store 1 (tD 5) (tD 21))] [[],[0],[],[2,1,1,0,1,2]] false) (.seq (.region [mvD 22 0,opD 23 (.fn 143 [] [(tD 5)]),oqD 24 (.call 142 [(tD 22),(tD 23)]) (.ent (e142 fu)),mvD 2 24] [[],[],[0,1],[2,2,0,1,2]] false) .ret)))))
theorem g110 (fu:Nat):(e110 fu).Good Tryz.prog := Q0c Q0d Tryz.func110 fu (d110 fu) rs110 25 (l := [e141 fu,e142 fu]) ⟨g141 fu,g142 fu,trivial⟩
def rs111:List RVx := [(.tmp 2)]
def p111 (_:Nat):(List (D_api_Producer))×Unit→Option (Unit×(List (D_api_Producer))) := fun ⟨a,_⟩ =>
bif ((a.length:Int)==(0:Int)) then
 some ((),[])
else
 bif decide ((0:Int)≤(a.length:Int)∧((a.length:Int):Int)≤(a.length:Int)∧((a.length:Int):Int)≤9223372036854775807∧(32:Int) * (a.length:Int)≤140737488355328) then
 bif decide (Int.toNat (a.length:Int)=List.length (List.replicate (Int.toNat (a.length:Int)) ((0:Int),(0:Int),false,(0:Int)):List (D_api_Producer))) then
 bif decide (Int.toNat (a.length:Int)=List.length (copyL (List.replicate (Int.toNat (a.length:Int)) ((0:Int),(0:Int),false,(0:Int)):List (D_api_Producer)) 0 (Int.toNat (a.length:Int)) a)) then
 some ((),(copyL (List.replicate (Int.toNat (a.length:Int)) ((0:Int),(0:Int),false,(0:Int)):List (D_api_Producer)) 0 (Int.toNat (a.length:Int)) a))
 else none
 else none
 else none
def e111 (fu:Nat):Ent := ⟨111,(.cons (.hole (.sl T_api_Producer)) .nil),.nil,(.own .own 77 T_api_Producer),p111 fu⟩
def d111 (_:Nat):DC := (.seq (.region [opD 2 (.mov (.const vS))] [[]] false) (.seq (.seq (.region [mvD 4 0,opD 5 (.len false (tD 4)),opD 6 (.bin .eql (tD 5) (cD 0))] [[],[0],[1]] false) (.cond (.tmp 6) (.seq (.region [opD 2 (.mov (.const vS))] [[]] false) .ret) .skip)) (.seq (.region [mvD 7 0,opD 8 (.len false (tD 7)),oqD 9 (.make false 77 4 [vU,vU,vB,vU] 32 (tD 8) (tD 8)) (.ty T_api_Producer),mvD 3 9] [[],[0],[1,1],[2,0,1,2]] false) (.seq (.region [mvD 10 3,mvD 11 0,opD 12 (.copy 4 (tD 10) (tD 11))] [[],[],[0,1]] false) (.seq (.region [mvD 13 3,mvD 2 13] [[],[0,0]] false) .ret)))))
theorem g111 (fu:Nat):(e111 fu).Good Tryz.prog := Q0c Q0d Tryz.func111 fu (d111 fu) rs111 14 (l := []) trivial
def rs112:List RVx := [(.tmp 2)]
def p112 (_:Nat):(List (D_runtime_errorAddressString))×Unit→Option (Unit×(List (D_runtime_errorAddressString))) := fun ⟨a,_⟩ =>
bif ((a.length:Int)==(0:Int)) then
 some ((),[])
else
 bif decide ((0:Int)≤(a.length:Int)∧((a.length:Int):Int)≤(a.length:Int)∧((a.length:Int):Int)≤9223372036854775807∧(24:Int) * (a.length:Int)≤140737488355328) then
 bif decide (Int.toNat (a.length:Int)=List.length (List.replicate (Int.toNat (a.length:Int)) ((⟨#[]⟩:ByteArray),(0:Int)):List (D_runtime_errorAddressString))) then
 bif decide (Int.toNat (a.length:Int)=List.length (copyL (List.replicate (Int.toNat (a.length:Int)) ((⟨#[]⟩:ByteArray),(0:Int)):List (D_runtime_errorAddressString)) 0 (Int.toNat (a.length:Int)) a)) then
 some ((),(copyL (List.replicate (Int.toNat (a.length:Int)) ((⟨#[]⟩:ByteArray),(0:Int)):List (D_runtime_errorAddressString)) 0 (Int.toNat (a.length:Int)) a))
 else none
 else none
 else none
def e112 (fu:Nat):Ent := ⟨112,(.cons (.hole (.sl T_runtime_errorAddressString)) .nil),.nil,(.own .own 79 T_runtime_errorAddressString),p112 fu⟩
def d112 (_:Nat):DC := (.seq (.region [opD 2 (.mov (.const vS))] [[]] false) (.seq (.seq (.region [mvD 4 0,opD 5 (.len false (tD 4)),opD 6 (.bin .eql (tD 5) (cD 0))] [[],[0],[1]] false) (.cond (.tmp 6) (.seq (.region [opD 2 (.mov (.const vS))] [[]] false) .ret) .skip)) (.seq (.region [mvD 7 0,opD 8 (.len false (tD 7)),oqD 9 (.make false 79 2 [vT,vU] 24 (tD 8) (tD 8)) (.ty T_runtime_errorAddressString),mvD 3 9] [[],[0],[1,1],[2,0,1,2]] false) (.seq (.region [mvD 10 3,mvD 11 0,opD 12 (.copy 2 (tD 10) (tD 11))] [[],[],[0,1]] false) (.seq (.region [mvD 13 3,mvD 2 13] [[],[0,0]] false) .ret)))))
theorem g112 (fu:Nat):(e112 fu).Good Tryz.prog := Q0c Q0d Tryz.func112 fu (d112 fu) rs112 14 (l := []) trivial
def rs61:List RVx := [(.cell 2 true 7)]
def p61 (fu:Nat):(Z4)×Unit→Option (Unit×(ByteArray×(ByteArray×(Int×(Int×((List (D_api_Record))×((List (D_api_Producer))×((List (D_runtime_errorAddressString))×Unit)))))))) := fun ⟨⟨a,c,f,h,i,j,k,_⟩,_⟩ =>
Option.bind (p110 fu (i,())) fun ⟨_,l⟩ =>
Option.bind (p111 fu (j,())) fun ⟨_,m⟩ =>
Option.bind (p112 fu (k,())) fun ⟨_,n⟩ =>
bif eqL l then
 bif eqL m then
 bif eqL n then
 some ((),(a,c,f,h,l,m,n,()))
 else none
 else none
else none
def e61 (fu:Nat):Ent := ⟨61,(.cons Y6 .nil),.nil,Y8,p61 fu⟩
def d61 (fu:Nat):DC := (.seq (.region [opD 1 (.box 29 7 (tD 0)),opD 2 (.alloc 29 7 [vT,vT,vU,vU,vS,vS,vS])] [[],[]] false) (.seq (.region [fD 3 4 1,lD 4 1 3,oqD 5 (.call 110 [(tD 4)]) (.ent (e110 fu)),fD 6 4 1,onD (.store 1 (tD 6) (tD 5))] [[],[0],[1],[0,1,2],[3,2,2,0,1,2]] false) (.seq (.region [fD 7 5 1,lD 8 1 7,oqD 9 (.call 111 [(tD 8)]) (.ent (e111 fu)),fD 10 5 1,onD (.store 1 (tD 10) (tD 9))] [[],[0],[1],[0,1,2],[3,2,2,0,1,2]] false) (.seq (.region [fD 11 6 1,lD 12 1 11,oqD 13 (.call 112 [(tD 12)]) (.ent (e112 fu)),fD 14 6 1,onD (.store 1 (tD 14) (tD 13))] [[],[0],[1],[0,1,2],[3,2,2,0,1,2]] false) (.seq (.region [opD 15 (.load true 7 (tD 1)),onD (.store 7 (tD 2) (tD 15))] [[],[0,0]] false) .ret)))))
theorem g61 (fu:Nat):(e61 fu).Good Tryz.prog := Q0c Q0d Tryz.func61 fu (d61 fu) rs61 16 (l := [e110 fu,e111 fu,e112 fu]) ⟨g110 fu,g111 fu,g112 fu,trivial⟩
def rs164:List RVx := [(.tmp 3)]
def p164 (_:Nat):(Int×(Int×(Bool×(Int×Unit))))×((Int×Unit)×Unit)→Option (Unit×Bool) := fun ⟨⟨a,_,_,_,_⟩,⟨c,_⟩,_⟩ =>
some ((),(a==c))
def e164 (fu:Nat):Ent := ⟨164,(.cons (.agg 4 (.cons hU (.cons hU (.cons (.hole .bool) (.cons hU .nil))))) (.cons (.look (.cons hU .nil)) .nil)),.nil,(.hole .bool),p164 fu⟩
def d164 (_:Nat):DC := (.seq (.region [opD 2 (.box 77 4 (tD 0)),opD 3 (.mov (.const vB))] [[],[]] false) (.seq (.region [fD 4 0 2,lD 5 1 4,lD 6 1 1,opD 7 (.bin .eql (tD 5) (tD 6)),mvD 3 7] [[],[0],[],[1,2],[3,0,1,2,3]] false) .ret))
theorem g164 (fu:Nat):(e164 fu).Good Tryz.prog := Q0c Q0d Tryz.func164 fu (d164 fu) rs164 8 (l := []) trivial
def rs163:List RVx := [(.tmp 4),(.tmp 5)]
def p163 (fu:Nat):(List (D_api_Producer))×((Unit×((Int×Unit)×Unit))×Unit)→Option (((Int×Unit)×Unit)×(Int×(Bool×Unit))) := fun ⟨a,⟨_,⟨⟨c,_⟩,_⟩⟩,_⟩ =>
loopO (S := (Int×Unit)×Unit) fu (fun ⟨⟨f,_⟩,_⟩ =>
 bif decide (f<(a.length:Int)) then
 bif decide ((0:Int)≤f∧f<(a.length:Int)) then
 bif decide (f.toNat<a.length) then
 Option.bind (p164 fu (((a.getD (f.toNat) (dflt T_api_Producer)).1,((a.getD (f.toNat) (dflt T_api_Producer)).2).1,(((a.getD (f.toNat) (dflt T_api_Producer)).2).2).1,(((a.getD (f.toNat) (dflt T_api_Producer)).2).2).2,()),(c,()),())) fun ⟨_,h⟩ =>
 bif h then
 inrO (some (((c,()),()),(f,true,())))
 else
 some (.inl ((IntKind.wrap .i64 (f+(1:Int)),()),()))
 else none
 else none
 else
 inrO (some (((c,()),()),((a.length:Int),false,()))))
 (((0:Int),()),())
def e163 (fu:Nat):Ent := ⟨163,(.cons (.hole (.sl T_api_Producer)) (.cons (.clo 164 0 .nil 1 (.cons (.box 24 1 (.cons hU .nil)) .nil)) .nil)),(.cons (.agg 1 (.cons hU .nil)) .nil),(.tup 2 (.cons hI (.cons (.hole .bool) .nil))),p163 fu⟩
def d163 (fu:Nat):DC := (.seq (.region [opD 4 (.mov (cD 0)),opD 5 (.mov (.const vB))] [[],[0]] false) (.seq (.seq (.region [mvD 8 0,opD 9 (.len false (tD 8)),opD 10 (.mov (cD 0))] [[],[0],[]] false) (.block 0 (.loop ⟨[10],(.cons hI .nil),[],.nil,[0,1,8,9],[0]⟩
 (.seq (.region [opD 11 (.bin .lss (tD 10) (tD 9))] [[]] false) (.seq (.cond (.tmp 11) .skip (.exit 0)) (.seq (.block 1 (.seq (.region [mvD 12 10,opD 13 (.iaddr 4 (tD 8) (tD 10)),opD 14 (.load true 4 (tD 13)),opD 7 (.alloc 77 4 [vU,vU,vB,vU]),mvD 6 12,onD (.store 4 (tD 7) (tD 14))] [[],[],[1],[],[0,0,1,2,3],[3,2,4,0,1,2,3,4]] false) (.seq (.region [mvD 15 1,opD 16 (.load true 4 (tD 7)),oqD 17 (.callv (tD 15) [(tD 16)]) (.ent (e164 fu))] [[],[],[0,1]] false) (.cond (.tmp 17) (.seq (.region [mvD 18 6,mvD 4 18,opD 5 (.mov (.const (.bool true)))] [[],[0,0],[1,0,1]] false) .ret) .skip)))) (.region [opD 19 (.bin .add (tD 10) (cD 1)),mvD 10 19] [[],[0]] false))))))) (.seq (.region [mvD 20 0,opD 21 (.len false (tD 20)),mvD 4 21,opD 5 (.mov (.const vB))] [[],[0],[1,0,1],[2,0,1,2]] false) .ret)))
theorem g163 (fu:Nat):(e163 fu).Good Tryz.prog := Q0c Q0d Tryz.func163 fu (d163 fu) rs163 22 (l := [e164 fu]) ⟨g164 fu,trivial⟩
def rs157:List RVx := [(.tmp 6),(.tmp 7)]
def p157 (fu:Nat):(List (D_api_Producer))×(Int×(Int×Unit))→Option (Unit×(Int×(Int×Unit))) := fun ⟨a,c,f,_⟩ =>
bif (c==(0:Int)) then
 some ((),((4:Int),(0:Int),()))
else
 Option.bind (p101 fu (f,())) fun ⟨_,h⟩ =>
 bif !h then
 some ((),((4:Int),(0:Int),()))
 else
 Option.bind (p163 fu (a,((),((c,()),())),())) fun ⟨⟨⟨_,_⟩,_⟩,⟨i,j,_⟩⟩ =>
 orK (E := (Bool×Unit)×Unit)
 (bif !j then
 some (.inl ((true,()),()))
 else
 bif decide ((0:Int)≤i∧i<(a.length:Int)) then
 bif decide (i.toNat<a.length) then
 some (.inl ((decide (f>(((a.getD (i.toNat) (dflt T_api_Producer)).2).1)),()),()))
 else none
 else none)
 fun ⟨⟨k,_⟩,_⟩ =>
 bif k then
 some ((),((1:Int),(0:Int),()))
 else
 orK (E := (Bool×Unit)×Unit)
 (bif decide ((0:Int)≤i∧i<(a.length:Int)) then
 bif decide (i.toNat<a.length) then
 bif (f==(((a.getD (i.toNat) (dflt T_api_Producer)).2).1)) then
 bif decide ((0:Int)≤i∧i<(a.length:Int)) then
 bif decide (i.toNat<a.length) then
 some (.inl (((((a.getD (i.toNat) (dflt T_api_Producer)).2).2).1,()),()))
 else none
 else none
 else
 some (.inl ((false,()),()))
 else none
 else none)
 fun ⟨⟨l,_⟩,_⟩ =>
 bif l then
 bif decide ((0:Int)≤i∧i<(a.length:Int)) then
 bif decide (i.toNat<a.length) then
 some ((),((2:Int),(((a.getD (i.toNat) (dflt T_api_Producer)).2).2).2,()))
 else none
 else none
 else
 some ((),((3:Int),(0:Int),()))
def e157 (fu:Nat):Ent := ⟨157,(.cons (.hole (.sl T_api_Producer)) (.cons hU (.cons hU .nil))),.nil,(.tup 2 (.cons hI (.cons hU .nil))),p157 fu⟩
def d157 (fu:Nat):DC := (.seq (.region [opD 4 (.box 24 1 (tD 1)),opD 6 (.mov (cD 0)),opD 7 (.mov (.const vU))] [[],[],[1]] false) (.seq (.seq (.region [lD 10 1 4,opD 11 (.bin .eql (tD 10) (.const vU)),mvD 12 11,ogD 13 12 false (.mov (tD 2)),(⟨(some 14),(some (12,false)),(.call 101 [(tD 13)])⟩,(.ent (e101 fu))),ogD 15 12 false (.not (tD 14)),opD 16 (.pick (tD 12) (.const (.bool true)) (tD 15))] [[],[0],[1],[2],[3,2,2],[4,2],[2,5]] false) (.cond (.tmp 16) (.seq (.region [opD 6 (.mov (cD 4)),opD 7 (.mov (.const vU))] [[],[0,0]] false) .ret) .skip)) (.seq (.region [mvD 18 0,opD 19 (.fn 164 [] [(tD 4)]),oqD 20 (.call 163 [(tD 18),(tD 19)]) (.ent (e163 fu)),mvD 17 20,opD 21 (.ext (tD 17) 0),opD 22 (.ext (tD 17) 1),mvD 8 21,mvD 9 22] [[],[],[0,1],[2],[3],[3],[4,2,0,1,2,3,4],[5,6,0,1,2,3,4,5,6]] false) (.seq (.block 0 (.join ⟨[23],(.cons (.hole .bool) .nil),[],.nil,[0,2,8],[]⟩
 (.region [mvD 24 9,opD 25 (.not (tD 24)),mvD 26 25,ogD 27 26 false (.mov (tD 2)),ogD 28 26 false (.mov (tD 0)),ogD 29 26 false (.mov (tD 8)),ogD 30 26 false (.iaddr 4 (tD 28) (tD 29)),ogD 31 26 false (.faddr 1 (tD 30)),ogD 32 26 false (.load false 1 (tD 31)),ogD 33 26 false (.bin .gtr (tD 27) (tD 32)),opD 34 (.pick (tD 26) (.const (.bool true)) (tD 33)),mvD 23 34] [[],[0],[1],[2],[2],[2],[4,5,2],[6,2],[7,2],[3,8,2],[2,9],[10,2]] false)
 (.cond (.tmp 23) (.seq (.region [opD 6 (.mov (cD 1)),opD 7 (.mov (.const vU))] [[],[0,0]] false) .ret) (.join ⟨[35],(.cons (.hole .bool) .nil),[],.nil,[0,8],[]⟩
 (.region [mvD 36 2,mvD 37 0,mvD 38 8,opD 39 (.iaddr 4 (tD 37) (tD 38)),fD 40 1 39,lD 41 1 40,opD 42 (.bin .eql (tD 36) (tD 41)),mvD 43 42,ogD 44 43 true (.mov (tD 0)),ogD 45 43 true (.mov (tD 8)),ogD 46 43 true (.iaddr 4 (tD 44) (tD 45)),ogD 47 43 true (.faddr 2 (tD 46)),ogD 48 43 true (.load false 1 (tD 47)),opD 49 (.pick (tD 43) (tD 48) (.const vB)),mvD 35 49] [[],[],[],[1,2],[3],[4],[0,5],[6],[7],[7],[8,9,7],[10,7],[11,7],[7,12],[13,7]] false)
 (.cond (.tmp 35) (.seq (.region [mvD 50 0,mvD 51 8,opD 52 (.iaddr 4 (tD 50) (tD 51)),fD 53 3 52,lD 54 1 53,opD 6 (.mov (cD 2)),mvD 7 54] [[],[],[0,1],[2],[3],[],[4,5,0,1,2,3,4,5]] true) .ret) .skip))))) (.seq (.region [opD 6 (.mov (cD 3)),opD 7 (.mov (.const vU))] [[],[0,0]] false) .ret)))))
theorem g157 (fu:Nat):(e157 fu).Good Tryz.prog := Q0c Q0d Tryz.func157 fu (d157 fu) rs157 55 (l := [e101 fu,e163 fu]) ⟨g101 fu,g163 fu,trivial⟩
def rs134:List RVx := [(.tmp 2)]
def p134 (fu:Nat):(Z3)×Unit→Option (Unit×Bool) := fun ⟨⟨_,_,a,c,_,_,_,_,_,_,_⟩,_⟩ =>
Option.bind (p157 fu ([],a,c,())) fun ⟨_,⟨f,_,_⟩⟩ =>
some ((),(f != (4:Int)))
def e134 (fu:Nat):Ent := ⟨134,(.cons Y7 .nil),.nil,(.hole .bool),p134 fu⟩
def d134 (fu:Nat):DC := (.seq (.region [opD 1 (.box 44 10 (tD 0)),opD 2 (.mov (.const vB))] [[],[]] false) (.seq (.region [fD 6 2 1,lD 7 1 6,fD 8 3 1,lD 9 1 8,oqD 10 (.call 157 [(.const vS),(tD 7),(tD 9)]) (.ent (e157 fu)),mvD 5 10,opD 11 (.ext (tD 5) 0),opD 12 (.ext (tD 5) 1),mvD 3 11,mvD 4 12] [[],[0],[],[2],[1,3],[4],[5],[5],[6,4,0,1,2,3,4,5,6],[7,8,0,1,2,3,4,5,6,7,8]] false) (.seq (.region [mvD 13 3,opD 14 (.bin .neq (tD 13) (cD 4)),mvD 2 14] [[],[0],[1,0,1]] false) .ret)))
theorem g134 (fu:Nat):(e134 fu).Good Tryz.prog := Q0c Q0d Tryz.func134 fu (d134 fu) rs134 15 (l := [e157 fu]) ⟨g157 fu,trivial⟩
def rs88:List RVx := [(.tmp 2)]
def p88 (fu:Nat):(Z3)×Unit→Option (Unit×Bool) := fun ⟨⟨a,c,f,h,i,j,k,l,m,n,_⟩,_⟩ =>
orK (E := Unit×Unit)
 (orK (E := Unit×Unit)
 (bif (a==(1:Int)) then
 Option.bind (p134 fu ((a,c,f,h,i,j,k,l,m,n,()),())) fun ⟨_,o⟩ =>
 bif o then
 bif decide ((ByteArray.size i:Int)≤(32:Int)) then
 inrO (inrO (some ((),decide ((j.length:Int)≤(256:Int)))))
 else
 inrO (inrO (some ((),false)))
 else
 inrO (inrO (some ((),false)))
 else
 bif (a==(2:Int)) then
 bif decide (l≥(1:Int)) then
 inrO (inrO (some ((),decide (l≤(64:Int)))))
 else
 inrO (inrO (some ((),false)))
 else
 bif (a==(3:Int)) then
 Option.bind (p134 fu ((a,c,f,h,i,j,k,l,m,n,()),())) fun ⟨_,q⟩ =>
 bif !q then
 inrO (inrO (some ((),false)))
 else
 some (.inl ((),()))
 else
 bif (a==(4:Int)) then
 some (.inl ((),()))
 else
 bif (a==(5:Int)) then
 inrO (some (.inl ((),())))
 else
 bif (a==(6:Int)) then
 inrO (some (.inl ((),())))
 else
 inrO (inrO (some ((),false))))
 fun ⟨_,_⟩ =>
 Option.bind (p102 fu (m,())) fun ⟨_,s⟩ =>
 inrO (some ((),s)))
 fun ⟨_,_⟩ =>
some ((),(n != (0:Int)))
def e88 (fu:Nat):Ent := ⟨88,(.cons Y7 .nil),.nil,(.hole .bool),p88 fu⟩
def d88 (fu:Nat):DC := (.seq (.region [opD 1 (.box 44 10 (tD 0)),opD 2 (.mov (.const vB))] [[],[]] false) (.seq (.seq (.region [fD 3 0 1,lD 4 1 3] [[],[0]] false) (.block 0 (.join ⟨[],.nil,[],.nil,[1],[0]⟩
 (.block 5 (.join ⟨[],.nil,[],.nil,[1],[0]⟩
 (.block 4 (.seq (.block 3 (.seq (.block 2 (.seq (.block 1 (.seq (.seq (.seq (.region [opD 6 (.bin .eql (tD 4) (cD 1)),mvD 5 6] [[],[0]] false) (.cond (.tmp 5) (.exit 1) .skip)) (.seq (.seq (.region [opD 8 (.bin .eql (tD 4) (cD 2)),mvD 7 8] [[],[0]] false) (.cond (.tmp 7) (.exit 2) .skip)) (.seq (.seq (.region [opD 10 (.bin .eql (tD 4) (cD 3)),mvD 9 10] [[],[0]] false) (.cond (.tmp 9) (.exit 3) .skip)) (.seq (.seq (.region [opD 12 (.bin .eql (tD 4) (cD 4)),mvD 11 12] [[],[0]] false) (.cond (.tmp 11) (.exit 4) .skip)) (.seq (.seq (.region [opD 14 (.bin .eql (tD 4) (cD 5)),mvD 13 14] [[],[0]] false) (.cond (.tmp 13) .skip (.region [opD 15 (.bin .eql (tD 4) (cD 6)),mvD 13 15] [[],[0]] false))) (.cond (.tmp 13) (.exit 5) .skip)))))) (.exit 0))) (.seq (.seq (.region [opD 16 (.load true 10 (tD 1)),oqD 17 (.call 134 [(tD 16)]) (.ent (e134 fu)),mvD 18 17,ogD 19 18 true (.faddr 4 (tD 1)),ogD 20 18 true (.load false 1 (tD 19)),ogD 21 18 true (.len true (tD 20)),ogD 22 18 true (.bin .leq (tD 21) (cD 32)),opD 23 (.pick (tD 18) (tD 22) (.const vB)),mvD 24 23,ogD 25 24 true (.faddr 5 (tD 1)),ogD 26 24 true (.load false 1 (tD 25)),ogD 27 24 true (.len false (tD 26)),ogD 28 24 true (.bin .leq (tD 27) (cD 256)),opD 29 (.pick (tD 24) (tD 28) (.const vB)),mvD 2 29] [[],[0],[1,1],[2],[3,2],[4,2],[5,2],[2,6],[7,2],[8],[9,8],[10,8],[11,8],[8,12],[13,8,0,1,2,3,4,5,6,7,8,9,10,11,12,13]] false) .ret) (.exit 0)))) (.seq (.seq (.region [fD 30 7 1,lD 31 1 30,opD 32 (.bin .geq (tD 31) (cD 1)),mvD 33 32,ogD 34 33 true (.faddr 7 (tD 1)),ogD 35 33 true (.load false 1 (tD 34)),ogD 36 33 true (.bin .leq (tD 35) (cD 64)),opD 37 (.pick (tD 33) (tD 36) (.const vB)),mvD 2 37] [[],[0],[1],[2],[3],[4,3],[5,3],[3,6],[7,3,0,1,2,3,4,5,6,7]] false) .ret) (.exit 0)))) (.seq (.region [opD 38 (.load true 10 (tD 1)),oqD 39 (.call 134 [(tD 38)]) (.ent (e134 fu)),opD 40 (.not (tD 39))] [[],[0],[1]] false) (.cond (.tmp 40) (.seq (.region [opD 2 (.mov (.const vB))] [[]] false) .ret) .skip))))
 (.seq (.seq (.region [fD 41 8 1,lD 42 1 41,oqD 43 (.call 102 [(tD 42)]) (.ent (e102 fu)),mvD 2 43] [[],[0],[1],[2,2,0,1,2]] false) .ret) (.exit 0))))
 (.seq (.seq (.region [fD 44 9 1,lD 45 1 44,opD 46 (.bin .neq (tD 45) (.const vU)),mvD 2 46] [[],[0],[1],[2,0,1,2]] false) .ret) (.exit 0))))) (.seq (.region [opD 2 (.mov (.const vB))] [[]] false) .ret)))
theorem g88 (fu:Nat):(e88 fu).Good Tryz.prog := Q0c Q0d Tryz.func88 fu (d88 fu) rs88 47 (l := [e134 fu,e134 fu,e102 fu]) ⟨g134 fu,g134 fu,g102 fu,trivial⟩
def rs113:List RVx := [(.tmp 4)]
def p113 (_:Nat):ByteArray×(Int×Unit)→Option (Unit×(Bool×((ByteArray×(Int×Unit))×Unit))) := fun ⟨a,c,_⟩ =>
bif (c==(0:Int)) then
 some ((),(false,dflt (.pair .str (.pair (.int .i64) .unit)),()))
else
 some ((),(true,(a,c,()),dflt .unit))
def e113 (fu:Nat):Ent := ⟨113,(.cons hT (.cons hI .nil)),.nil,(.alt true (.ifc 101 (.look (.cons hT (.cons hI .nil)))) (.nilv 1)),p113 fu⟩
def d113 (_:Nat):DC := (.seq (.region [opD 4 (.mov (.const .nilIface))] [[]] false) (.seq (.seq (.region [mvD 5 1,opD 6 (.bin .eql (tD 5) (cD 0))] [[],[0]] false) (.cond (.tmp 6) (.seq (.region [opD 4 (.mov (.const .nilIface))] [[]] false) .ret) .skip)) (.seq (.region [mvD 7 0,mvD 8 1,opD 9 (.build 2 [vT,vI] [(0,(1,(tD 7))),(1,(1,(tD 8)))]),opD 10 (.box 106 2 (tD 9)),opD 11 (.ifc 101 (tD 10)),mvD 4 11] [[],[],[0,1],[2],[3],[4,0,1,2,3,4]] false) .ret)))
theorem g113 (fu:Nat):(e113 fu).Good Tryz.prog := Q0c Q0d Tryz.func113 fu (d113 fu) rs113 12 (l := []) trivial
def rs145:List RVx := [(.tmp 2)]
def p145_1 (fu:Nat):(Z0)×Unit→Option (((Z0)×(Unit×(Unit×(Unit×Unit))))×(Bool×((ByteArray×(Int×Unit))×Unit))) := fun ⟨⟨a,c,f,h,i,j,k,l,m,n,o,q,s,t,u,w,x,y,z,a0,_,_⟩,_⟩ =>
Option.bind (p106 fu ((a,c,()),q,())) fun ⟨_,c0⟩ =>
bif !c0 then
 Option.bind (p113 fu ((⟨#[97,32,107,101,121,32,111,102,32,97,110,111,116,104,101,114,32,114,97,110,103,101]⟩:ByteArray),(163:Int),())) fun ⟨_,⟨f0,⟨h0,i0,_⟩,_⟩⟩ =>
 bif eqL i then
 bif eqL j then
 bif eqL k then
 some (((a,c,f,h,i,j,k,l,m,n,o,q,s,t,u,w,x,y,z,a0,(),()),(),(),(),()),(f0,(h0,i0,()),()))
 else none
 else none
 else none
else
 bif eqL i then
 bif eqL j then
 bif eqL k then
 some (((a,c,f,h,i,j,k,l,m,n,o,q,s,t,u,w,x,y,z,a0,(),()),(),(),(),()),(false,dflt (.pair .str (.pair (.int .i64) .unit)),()))
 else none
 else none
 else none
def e145_1 (fu:Nat):Ent := ⟨145,(.cons Y9 .nil),(.cons Y10 (.cons .dead (.cons .dead (.cons .dead .nil)))),(.alt true (.ifc 101 (.look (.cons hT (.cons hI .nil)))) (.nilv 1)),p145_1 fu⟩
def d145_1 (fu:Nat):DC := (.seq (.region [opD 2 (.mov (.const .nilIface))] [[]] false) (.seq (.seq (.region [mvD 3 0,nD 4 3,fD 5 0 4,fD 6 0 5,opD 7 (.load true 2 (tD 6)),mvD 8 0,nD 9 8,fD 10 7 9,fD 11 4 10,lD 12 1 11,oqD 13 (.call 106 [(tD 7),(tD 12)]) (.ent (e106 fu)),opD 14 (.not (tD 13))] [[],[0],[1],[2],[3],[],[5],[6],[7],[8],[4,9],[10]] true) (.cond (.tmp 14) (.seq (.region [oqD 15 (.call 113 [(.const (.string ⟨#[97,32,107,101,121,32,111,102,32,97,110,111,116,104,101,114,32,114,97,110,103,101]⟩)),(cD 163)]) (.ent (e113 fu)),mvD 2 15] [[],[0,0,0]] false) .ret) .skip)) (.seq (.region [opD 2 (.mov (.const .nilIface))] [[]] false) .ret)))
theorem K9h (fu:Nat):(e145_1 fu).Good Tryz.prog := Q0c Q0d Tryz.func145 fu (d145_1 fu) rs145 16 (l := [e106 fu,e113 fu]) ⟨g106 fu,g113 fu,trivial⟩
def rs146:List RVx := [(.tmp 2)]
def p146 (fu:Nat):(Z0)×Unit→Option (((Z0)×(Unit×(Unit×(Unit×Unit))))×(Bool×(Unit×(Bool×(Unit×(ByteArray×(Int×Unit))))))) := fun ⟨⟨a,c,f,h,i,j,k,l,m,n,o,q,s,t,u,w,x,y,z,a0,_,_⟩,_⟩ =>
bif eqL j then
 Option.bind (p157 fu (j,n,o,())) fun ⟨_,⟨c0,f0,_⟩⟩ =>
 bif (c0==(1:Int)) then
 bif eqL i then
 bif eqL j then
 bif eqL k then
 some (((a,c,f,h,i,j,k,l,m,n,o,q,s,t,u,w,x,y,z,a0,(),()),(),(),(),()),(true,(),dflt (.pair .bool (.pair .unit (.pair .str (.pair (.int .i64) .unit))))))
 else none
 else none
 else none
 else
 bif (l==(3:Int)) then
 bif eqL i then
 bif eqL j then
 bif eqL k then
 some (((a,c,f,h,i,j,k,l,m,n,o,q,s,t,u,w,x,(0:Int),(0:Int),true,(),()),(),(),(),()),(false,dflt .unit,(true,(),dflt (.pair .str (.pair (.int .i64) .unit)))))
 else none
 else none
 else none
 else
 bif (c0==(2:Int)) then
 bif eqL i then
 bif eqL j then
 bif eqL k then
 some (((a,c,f,h,i,j,k,l,m,n,o,q,s,t,u,w,x,(0:Int),f0,true,(),()),(),(),(),()),(false,dflt .unit,(true,(),dflt (.pair .str (.pair (.int .i64) .unit)))))
 else none
 else none
 else none
 else
 orK (E := ((Bool×((ByteArray×(Int×Unit))×Unit))×Unit)×Unit)
 (Option.bind (p113 fu ((⟨#[97,32,110,117,109,98,101,114,32,116,104,97,116,32,119,101,110,116,32,98,121]⟩:ByteArray),(152:Int),())) fun ⟨_,⟨h0,⟨i0,j0,_⟩,_⟩⟩ =>
 some (.inl (((h0,(i0,j0,()),()),()),())))
 fun ⟨⟨⟨k0,⟨l0,m0,_⟩,_⟩,_⟩,_⟩ =>
 bif k0 then
 bif eqL i then
 bif eqL j then
 bif eqL k then
 some (((a,c,f,h,i,j,k,l,m,n,o,q,s,t,u,w,x,y,z,a0,(),()),(),(),(),()),(false,dflt .unit,(false,dflt .unit,(l0,m0,()))))
 else none
 else none
 else none
 else
 bif eqL i then
 bif eqL j then
 bif eqL k then
 some (((a,c,f,h,i,j,k,l,m,n,o,q,s,t,u,w,x,y,z,a0,(),()),(),(),(),()),(true,(),dflt (.pair .bool (.pair .unit (.pair .str (.pair (.int .i64) .unit))))))
 else none
 else none
 else none
else none
def e146 (fu:Nat):Ent := ⟨146,(.cons Y9 .nil),(.cons Y10 (.cons .dead (.cons .dead (.cons .dead .nil)))),(.alt false (.nilv 1) (.alt false (.cst 0 227) (.ifc 101 (.look (.cons hT (.cons hI .nil)))))),p146 fu⟩
def d146 (fu:Nat):DC := (.seq (.region [opD 2 (.mov (.const .nilIface))] [[]] false) (.seq (.region [mvD 6 0,nD 7 6,fD 8 7 7,opD 9 (.load true 10 (tD 8)),opD 3 (.alloc 44 10 [vI,vU,vU,vU,vT,vS,vU,vI,vT,vU]),onD (.store 10 (tD 3) (tD 9))] [[],[0],[1],[2],[],[4,3,0,1,2,3,4]] false) (.seq (.region [mvD 11 0,nD 12 11,fD 13 0 12,fD 14 5 13,lD 15 1 14,fD 16 2 3,lD 17 1 16,fD 18 3 3,lD 19 1 18,oqD 20 (.call 157 [(tD 15),(tD 17),(tD 19)]) (.ent (e157 fu)),mvD 10 20,opD 21 (.ext (tD 10) 0),opD 22 (.ext (tD 10) 1),mvD 4 21,mvD 5 22] [[],[0],[1],[2],[3],[],[5],[],[7],[4,6,8],[9],[10],[10],[11,9,0,1,2,3,4,5,6,7,8,9,10,11],[12,13,0,1,2,3,4,5,6,7,8,9,10,11,12,13]] true) (.seq (.block 0 (.seq (.region [mvD 24 4,opD 25 (.bin .eql (tD 24) (cD 1)),mvD 23 25] [[],[0],[1]] false) (.cond (.tmp 23) (.seq (.region [opD 2 (.mov (.const .nilIface))] [[]] false) .ret) (.seq (.region [fD 27 0 3,lD 28 1 27,opD 29 (.bin .eql (tD 28) (cD 3)),mvD 26 29] [[],[0],[1],[2]] false) (.cond (.tmp 26) (.seq (.region [mvD 30 0,opD 31 (.build 4 [vI,vU,vB,vS] [(2,(1,(.const (.bool true))))]),nD 32 30,fD 33 17 32,onD (.store 4 (tD 33) (tD 31))] [[],[],[0,0,1],[2,0,1],[3,1,0,1]] false) (.seq (.region [opD 34 (.load false 1 (.global 0)),mvD 2 34] [[],[0,0]] false) .ret)) (.seq (.region [mvD 36 4,opD 37 (.bin .eql (tD 36) (cD 2)),mvD 35 37] [[],[0],[1]] false) (.cond (.tmp 35) (.seq (.region [mvD 38 0,mvD 39 5,opD 40 (.build 4 [vI,vU,vB,vS] [(1,(1,(tD 39))),(2,(1,(.const (.bool true))))]),nD 41 38,fD 42 17 41,onD (.store 4 (tD 42) (tD 40))] [[],[],[1],[0,0,1,2],[3,0,1,2],[4,2,0,1,2]] false) (.seq (.region [opD 43 (.load false 1 (.global 0)),mvD 2 43] [[],[0,0]] false) .ret)) .skip))))))) (.join ⟨[2],(.cons (.alt false (.ifc 101 (.look (.cons hT (.cons hI .nil)))) (.nilv 1)) .nil),[],.nil,[],[0,1,2,3,5,6,7]⟩
 (.region [oqD 44 (.call 113 [(.const (.string ⟨#[97,32,110,117,109,98,101,114,32,116,104,97,116,32,119,101,110,116,32,98,121]⟩)),(cD 152)]) (.ent (e113 fu)),mvD 2 44] [[],[0,0,0]] false)
 .ret)))))
theorem g146 (fu:Nat):(e146 fu).Good Tryz.prog := Q0c Q0d Tryz.func146 fu (d146 fu) rs146 45 (l := [e157 fu,e113 fu]) ⟨g157 fu,g113 fu,trivial⟩
def rs114:List RVx := [(.tmp 2)]
def p114 (fu:Nat):(Z0)×Unit→Option (((Z0)×(Unit×(Unit×(Unit×Unit))))×(Bool×((ByteArray×(Int×Unit))×(Bool×(Unit×Unit))))) := fun ⟨⟨a,c,f,h,i,j,k,l,m,n,o,q,s,t,u,w,x,y,z,a0,_,_⟩,_⟩ =>
orK (E := Unit×Unit)
 (orK (E := Unit×((Z0)×Unit))
 (orK (E := Unit×((Z0)×Unit))
 (bif (l==(1:Int)) then
 orK (E := ((Bool×((ByteArray×(Int×Unit))×Unit))×Unit)×((Z0)×Unit))
 (bif eqL i then
 bif eqL j then
 bif eqL k then
 Option.bind (p145_1 fu ((a,c,f,h,i,j,k,l,m,n,o,q,s,t,u,w,x,y,z,a0,(),()),())) fun ⟨⟨⟨c0,f0,h0,i0,j0,k0,l0,m0,n0,o0,q0,s0,t0,u0,w0,x0,y0,z0,a1,c1,_,_⟩,_,_,_,_⟩,⟨f1,⟨h1,i1,_⟩,_⟩⟩ =>
 bif eqL j0 then
 bif eqL k0 then
 bif eqL l0 then
 some (.inl (((f1,(h1,i1,()),()),()),((c0,f0,h0,i0,j0,k0,l0,m0,n0,o0,q0,s0,t0,u0,w0,x0,y0,z0,a1,c1,(),()),())))
 else none
 else none
 else none
 else none
 else none
 else none)
 fun ⟨⟨⟨j1,⟨k1,l1,_⟩,_⟩,_⟩,⟨⟨m1,n1,o1,q1,s1,t1,u1,w1,x1,y1,z1,a2,c2,f2,h2,i2,j2,k2,l2,m2,_,_⟩,_⟩⟩ =>
 bif j1 then
 inrO (inrO (inrO (bif eqL s1 then
 bif eqL t1 then
 bif eqL u1 then
 some (((m1,n1,o1,q1,s1,t1,u1,w1,x1,y1,z1,a2,c2,f2,h2,i2,j2,k2,l2,m2,(),()),(),(),(),()),(true,(k1,l1,()),dflt (.pair .bool (.pair .unit .unit))))
 else none
 else none
 else none)))
 else
 bif eqL s1 then
 bif eqL t1 then
 bif eqL u1 then
 some (.inl ((),((m1,n1,o1,q1,s1,t1,u1,w1,x1,y1,z1,a2,c2,f2,h2,i2,j2,k2,l2,m2,(),()),())))
 else none
 else none
 else none
 else
 bif (l==(3:Int)) then
 bif eqL i then
 bif eqL j then
 bif eqL k then
 some (.inl ((),((a,c,f,h,i,j,k,l,m,n,o,q,s,t,u,w,x,y,z,a0,(),()),())))
 else none
 else none
 else none
 else
 bif (l==(2:Int)) then
 inrO (bif eqL i then
 bif eqL j then
 bif eqL k then
 some (.inl ((),((a,c,f,h,i,j,k,l,m,n,o,q,s,t,u,w,x,y,z,a0,(),()),())))
 else none
 else none
 else none)
 else
 bif (l==(4:Int)) then
 inrO (bif eqL i then
 bif eqL j then
 bif eqL k then
 some (.inl ((),((a,c,f,h,i,j,k,l,m,n,o,q,s,t,u,w,x,y,z,a0,(),()),())))
 else none
 else none
 else none)
 else
 bif (l==(5:Int)) then
 inrO (inrO (some (.inl ((),()))))
 else
 bif (l==(6:Int)) then
 inrO (inrO (some (.inl ((),()))))
 else
 inrO (inrO (inrO (bif eqL i then
 bif eqL j then
 bif eqL k then
 some (((a,c,f,h,i,j,k,l,m,n,o,q,s,t,u,w,x,y,z,a0,(),()),(),(),(),()),(false,dflt (.pair .str (.pair (.int .i64) .unit)),(true,(),dflt .unit)))
 else none
 else none
 else none))))
 fun ⟨_,⟨⟨m1,n1,o1,q1,s1,t1,u1,w1,x1,y1,z1,a2,c2,f2,h2,i2,j2,k2,l2,m2,_,_⟩,_⟩⟩ =>
 orK (E := ((Z1)×Unit)×((Z0)×Unit))
 (bif eqL s1 then
 bif eqL t1 then
 bif eqL u1 then
 Option.bind (p146 fu ((m1,n1,o1,q1,s1,t1,u1,w1,x1,y1,z1,a2,c2,f2,h2,i2,j2,k2,l2,m2,(),()),())) fun ⟨⟨⟨n2,o2,q2,s2,t2,u2,w2,x2,y2,z2,a3,c3,f3,h3,i3,j3,k3,l3,m3,n3,_,_⟩,_,_,_,_⟩,⟨o3,_,⟨q3,_,⟨s3,t3,_⟩⟩⟩⟩ =>
 bif o3 then
 bif eqL t2 then
 bif eqL u2 then
 bif eqL w2 then
 some (.inl (((true,(),dflt (.pair .bool (.pair .unit (.pair .str (.pair (.int .i64) .unit))))),()),((n2,o2,q2,s2,t2,u2,w2,x2,y2,z2,a3,c3,f3,h3,i3,j3,k3,l3,m3,n3,(),()),())))
 else none
 else none
 else none
 else
 bif q3 then
 bif eqL t2 then
 bif eqL u2 then
 bif eqL w2 then
 some (.inl (((false,dflt .unit,(true,(),dflt (.pair .str (.pair (.int .i64) .unit)))),()),((n2,o2,q2,s2,t2,u2,w2,x2,y2,z2,a3,c3,f3,h3,i3,j3,k3,l3,m3,n3,(),()),())))
 else none
 else none
 else none
 else
 bif eqL t2 then
 bif eqL u2 then
 bif eqL w2 then
 some (.inl (((false,dflt .unit,(false,dflt .unit,(s3,t3,()))),()),((n2,o2,q2,s2,t2,u2,w2,x2,y2,z2,a3,c3,f3,h3,i3,j3,k3,l3,m3,n3,(),()),())))
 else none
 else none
 else none
 else none
 else none
 else none)
 fun ⟨⟨⟨u3,_,⟨w3,_,⟨x3,y3,_⟩⟩⟩,_⟩,⟨⟨m1,n1,o1,q1,s1,t1,u1,w1,x1,y1,z1,a2,c2,f2,h2,i2,j2,k2,l2,m2,_,_⟩,_⟩⟩ =>
 bif u3 then
 bif eqL s1 then
 bif eqL t1 then
 bif eqL u1 then
 some (.inl ((),((m1,n1,o1,q1,s1,t1,u1,w1,x1,y1,z1,a2,c2,f2,h2,i2,j2,k2,l2,m2,(),()),())))
 else none
 else none
 else none
 else
 bif w3 then
 inrO (inrO (bif eqL s1 then
 bif eqL t1 then
 bif eqL u1 then
 some (((m1,n1,o1,q1,s1,t1,u1,w1,x1,y1,z1,a2,c2,f2,h2,i2,j2,k2,l2,m2,(),()),(),(),(),()),(false,dflt (.pair .str (.pair (.int .i64) .unit)),(false,dflt .unit,())))
 else none
 else none
 else none))
 else
 inrO (inrO (bif eqL s1 then
 bif eqL t1 then
 bif eqL u1 then
 some (((m1,n1,o1,q1,s1,t1,u1,w1,x1,y1,z1,a2,c2,f2,h2,i2,j2,k2,l2,m2,(),()),(),(),(),()),(true,(x3,y3,()),dflt (.pair .bool (.pair .unit .unit))))
 else none
 else none
 else none)))
 fun ⟨_,⟨⟨m1,n1,o1,q1,s1,t1,u1,w1,x1,y1,z1,a2,c2,f2,h2,i2,j2,k2,l2,m2,_,_⟩,_⟩⟩ =>
 bif (h != (0:Int)) then
 orK (E := ((Bool×((ByteArray×(Int×Unit))×Unit))×Unit)×Unit)
 (Option.bind (p113 fu ((⟨#[102,114,111,122,101,110]⟩:ByteArray),(164:Int),())) fun ⟨_,⟨z3,⟨a4,c4,_⟩,_⟩⟩ =>
 some (.inl (((z3,(a4,c4,()),()),()),())))
 fun ⟨⟨⟨f4,⟨h4,i4,_⟩,_⟩,_⟩,_⟩ =>
 bif f4 then
 inrO (bif eqL s1 then
 bif eqL t1 then
 bif eqL u1 then
 some (((m1,n1,o1,q1,s1,t1,u1,w1,x1,y1,z1,a2,c2,f2,h2,i2,j2,k2,l2,m2,(),()),(),(),(),()),(true,(h4,i4,()),dflt (.pair .bool (.pair .unit .unit))))
 else none
 else none
 else none)
 else
 inrO (bif eqL s1 then
 bif eqL t1 then
 bif eqL u1 then
 some (((m1,n1,o1,q1,s1,t1,u1,w1,x1,y1,z1,a2,c2,f2,h2,i2,j2,k2,l2,m2,(),()),(),(),(),()),(false,dflt (.pair .str (.pair (.int .i64) .unit)),(true,(),dflt .unit)))
 else none
 else none
 else none)
 else
 inrO (bif eqL s1 then
 bif eqL t1 then
 bif eqL u1 then
 some (((m1,n1,o1,q1,s1,t1,u1,w1,x1,y1,z1,a2,c2,f2,h2,i2,j2,k2,l2,m2,(),()),(),(),(),()),(false,dflt (.pair .str (.pair (.int .i64) .unit)),(true,(),dflt .unit)))
 else none
 else none
 else none))
 fun ⟨_,_⟩ =>
bif (h != (0:Int)) then
 bif (h != x) then
 orK (E := ((Bool×((ByteArray×(Int×Unit))×Unit))×Unit)×Unit)
 (Option.bind (p113 fu ((⟨#[102,114,111,122,101,110,32,98,121,32,97,110,111,116,104,101,114,32,112,108,97,110]⟩:ByteArray),(164:Int),())) fun ⟨_,⟨j4,⟨k4,l4,_⟩,_⟩⟩ =>
 some (.inl (((j4,(k4,l4,()),()),()),())))
 fun ⟨⟨⟨f4,⟨h4,i4,_⟩,_⟩,_⟩,_⟩ =>
 bif f4 then
 bif eqL i then
 bif eqL j then
 bif eqL k then
 some (((a,c,f,h,i,j,k,l,m,n,o,q,s,t,u,w,x,y,z,a0,(),()),(),(),(),()),(true,(h4,i4,()),dflt (.pair .bool (.pair .unit .unit))))
 else none
 else none
 else none
 else
 bif eqL i then
 bif eqL j then
 bif eqL k then
 some (((a,c,f,h,i,j,k,l,m,n,o,q,s,t,u,w,x,y,z,a0,(),()),(),(),(),()),(false,dflt (.pair .str (.pair (.int .i64) .unit)),(true,(),dflt .unit)))
 else none
 else none
 else none
 else
 bif eqL i then
 bif eqL j then
 bif eqL k then
 some (((a,c,f,h,i,j,k,l,m,n,o,q,s,t,u,w,x,y,z,a0,(),()),(),(),(),()),(false,dflt (.pair .str (.pair (.int .i64) .unit)),(true,(),dflt .unit)))
 else none
 else none
 else none
else
 bif eqL i then
 bif eqL j then
 bif eqL k then
 some (((a,c,f,h,i,j,k,l,m,n,o,q,s,t,u,w,x,y,z,a0,(),()),(),(),(),()),(false,dflt (.pair .str (.pair (.int .i64) .unit)),(true,(),dflt .unit)))
 else none
 else none
 else none
def e114 (fu:Nat):Ent := ⟨114,(.cons Y9 .nil),(.cons Y10 (.cons .dead (.cons .dead (.cons .dead .nil)))),(.alt false (.ifc 101 (.look (.cons hT (.cons hI .nil)))) (.alt false (.nilv 1) (.cst 0 227))),p114 fu⟩
def d114 (fu:Nat):DC := (.seq (.region [opD 2 (.mov (.const .nilIface))] [[]] false) (.seq (.region [mvD 7 0,nD 8 7,fD 9 7 8,opD 10 (.load true 10 (tD 9)),opD 3 (.alloc 44 10 [vI,vU,vU,vU,vT,vS,vU,vI,vT,vU]),onD (.store 10 (tD 3) (tD 10))] [[],[0],[1],[2],[],[4,3,0,1,2,3,4]] false) (.seq (.region [mvD 11 0,nD 12 11,fD 13 0 12,fD 14 3 13,lD 15 1 14,opD 16 (.bin .neq (tD 15) (.const vU)),mvD 4 16] [[],[0],[1],[2],[3],[4],[5,0,1,2,3,4,5]] false) (.seq (.seq (.region [fD 17 0 3,lD 18 1 17] [[],[0]] false) (.block 0 (.join ⟨[],.nil,[],.nil,[0,3,4],[0,1,2,3,5,6,7,88]⟩
 (.block 4 (.join ⟨[],.nil,[(0,97,21)],(.cons Y10 .nil),[4],[1,2,3]⟩
 (.block 3 (.join ⟨[],.nil,[(0,97,21)],(.cons Y10 .nil),[0,4],[1,2,3]⟩
 (.block 2 (.seq (.block 1 (.seq (.seq (.seq (.region [opD 20 (.bin .eql (tD 18) (cD 1)),mvD 19 20] [[],[0]] false) (.cond (.tmp 19) (.exit 1) .skip)) (.seq (.seq (.region [opD 22 (.bin .eql (tD 18) (cD 3)),mvD 21 22] [[],[0]] false) (.cond (.tmp 21) (.exit 2) .skip)) (.seq (.seq (.seq (.region [opD 24 (.bin .eql (tD 18) (cD 2)),mvD 23 24] [[],[0]] false) (.cond (.tmp 23) .skip (.region [opD 25 (.bin .eql (tD 18) (cD 4)),mvD 23 25] [[],[0]] false))) (.cond (.tmp 23) (.exit 3) .skip)) (.seq (.seq (.region [opD 27 (.bin .eql (tD 18) (cD 5)),mvD 26 27] [[],[0]] false) (.cond (.tmp 26) .skip (.region [opD 28 (.bin .eql (tD 18) (cD 6)),mvD 26 28] [[],[0]] false))) (.cond (.tmp 26) (.exit 4) .skip))))) (.exit 0))) (.join ⟨[5],(.cons (.alt false (.ifc 101 (.look (.cons hT (.cons hI .nil)))) (.nilv 1)) .nil),[(0,97,21)],(.cons Y10 .nil),[0,4],[1,2,3]⟩
 (.region [mvD 29 0,oqD 30 (.call 145 [(tD 29)]) (.ent (e145_1 fu)),mvD 5 30] [[],[0],[1,1,0,1]] false)
 (.seq (.region [mvD 31 5,opD 32 (.pure (.nilq 1 true) [(tD 31)])] [[],[0]] false) (.cond (.tmp 32) (.seq (.region [mvD 33 5,mvD 2 33] [[],[0,0]] false) .ret) .skip)))))
 (.join ⟨[6],(.cons (.alt false (.nilv 1) (.alt false (.cst 0 227) (.ifc 101 (.look (.cons hT (.cons hI .nil)))))) .nil),[(0,97,21)],(.cons Y10 .nil),[4],[1,2,3]⟩
 (.region [mvD 34 0,oqD 35 (.call 146 [(tD 34)]) (.ent (e146 fu)),mvD 6 35] [[],[0],[1,1,0,1]] false)
 (.seq (.region [mvD 36 6,opD 37 (.pure (.nilq 1 true) [(tD 36)])] [[],[0]] false) (.cond (.tmp 37) (.seq (.region [mvD 38 6,mvD 2 38] [[],[0,0]] false) .ret) .skip)))))
 (.seq (.seq (.region [mvD 39 4] [[]] false) (.cond (.tmp 39) (.join ⟨[2],(.cons (.alt false (.ifc 101 (.look (.cons hT (.cons hI .nil)))) (.nilv 1)) .nil),[],.nil,[],[0,1,2,3,264,265,266]⟩
 (.region [oqD 40 (.call 113 [(.const (.string ⟨#[102,114,111,122,101,110]⟩)),(cD 164)]) (.ent (e113 fu)),mvD 2 40] [[],[0,0,0]] false)
 .ret) .skip)) (.exit 0))))
 (.seq (.seq (.region [mvD 41 4,mvD 42 41,ogD 43 42 true (.mov (tD 0)),ogD 44 42 true (.pure .nilc [(tD 43)]),ogD 45 42 true (.faddr 0 (tD 44)),ogD 46 42 true (.faddr 3 (tD 45)),ogD 47 42 true (.load false 1 (tD 46)),ogD 48 42 true (.faddr 9 (tD 3)),ogD 49 42 true (.load false 1 (tD 48)),ogD 50 42 true (.bin .neq (tD 47) (tD 49)),opD 51 (.pick (tD 42) (tD 50) (.const vB))] [[],[0],[1],[2,1],[3,1],[4,1],[5,1],[1],[7,1],[6,8,1],[1,9]] true) (.cond (.tmp 51) (.join ⟨[2],(.cons (.alt false (.ifc 101 (.look (.cons hT (.cons hI .nil)))) (.nilv 1)) .nil),[],.nil,[],[0,1,2,3,5,6,7]⟩
 (.region [oqD 52 (.call 113 [(.const (.string ⟨#[102,114,111,122,101,110,32,98,121,32,97,110,111,116,104,101,114,32,112,108,97,110]⟩)),(cD 164)]) (.ent (e113 fu)),mvD 2 52] [[],[0,0,0]] false)
 .ret) .skip)) (.exit 0))))) (.seq (.region [opD 2 (.mov (.const .nilIface))] [[]] false) .ret)))))
theorem g114 (fu:Nat):(e114 fu).Good Tryz.prog := Q0c Q0d Tryz.func114 fu (d114 fu) rs114 53 (l := [e145_1 fu,e146 fu,e113 fu,e113 fu]) ⟨K9h fu,g146 fu,g113 fu,g113 fu,trivial⟩
def rs172:List RVx := [(.tmp 2)]
def p172 (_:Nat):(List Int)×Unit→Option (Unit×(List Int)) := fun ⟨a,_⟩ =>
bif ((a.length:Int)==(0:Int)) then
 some ((),[])
else
 bif decide ((0:Int)≤(a.length:Int)∧((a.length:Int):Int)≤(a.length:Int)∧((a.length:Int):Int)≤9223372036854775807∧(1:Int) * (a.length:Int)≤140737488355328) then
 bif decide (Int.toNat (a.length:Int)=List.length (List.replicate (Int.toNat (a.length:Int)) (0:Int):List Int)) then
 bif decide (Int.toNat (a.length:Int)=List.length (copyL (List.replicate (Int.toNat (a.length:Int)) (0:Int):List Int) 0 (Int.toNat (a.length:Int)) a)) then
 some ((),(copyL (List.replicate (Int.toNat (a.length:Int)) (0:Int):List Int) 0 (Int.toNat (a.length:Int)) a))
 else none
 else none
 else none
def e172 (fu:Nat):Ent := ⟨172,(.cons (.hole (.sl (.int .u8))) .nil),.nil,(.own .own 5 (.int .u8)),p172 fu⟩
def d172 (_:Nat):DC := (.seq (.region [opD 2 (.mov (.const vS))] [[]] false) (.seq (.seq (.region [mvD 4 0,opD 5 (.len false (tD 4)),opD 6 (.bin .eql (tD 5) (cD 0))] [[],[0],[1]] false) (.cond (.tmp 6) (.seq (.region [opD 2 (.mov (.const vS))] [[]] false) .ret) .skip)) (.seq (.region [mvD 7 0,opD 8 (.len false (tD 7)),oqD 9 (.make false 5 1 [(.int .u8 0)] 1 (tD 8) (tD 8)) (.ty (.int .u8)),mvD 3 9] [[],[0],[1,1],[2,0,1,2]] false) (.seq (.region [mvD 10 3,mvD 11 0,opD 12 (.copy 1 (tD 10) (tD 11))] [[],[],[0,1]] false) (.seq (.region [mvD 13 3,mvD 2 13] [[],[0,0]] false) .ret)))))
theorem g172 (fu:Nat):(e172 fu).Good Tryz.prog := Q0c Q0d Tryz.func172 fu (d172 fu) rs172 14 (l := []) trivial
def rs165:List RVx := [(.cell 2 true 5)]
def p165 (fu:Nat):(Int×(ByteArray×((List Int)×(Int×(Int×Unit)))))×Unit→Option (Unit×(Int×(ByteArray×((List Int)×(Int×(Int×Unit)))))) := fun ⟨⟨a,c,f,h,i,_⟩,_⟩ =>
Option.bind (p172 fu (f,())) fun ⟨_,j⟩ =>
bif eqL j then
 some ((),(a,c,j,h,i,()))
else none
def e165 (fu:Nat):Ent := ⟨165,(.cons Y5 .nil),.nil,Y11,p165 fu⟩
def d165 (fu:Nat):DC := (.seq (.region [opD 1 (.box 49 5 (tD 0)),opD 2 (.alloc 49 5 [vU,vT,vS,vU,vU])] [[],[]] false) (.seq (.region [fD 3 2 1,lD 4 1 3,oqD 5 (.call 172 [(tD 4)]) (.ent (e172 fu)),fD 6 2 1,onD (.store 1 (tD 6) (tD 5))] [[],[0],[1],[0,1,2],[3,2,2,0,1,2]] false) (.seq (.region [opD 7 (.load true 5 (tD 1)),onD (.store 5 (tD 2) (tD 7))] [[],[0,0]] false) .ret)))
theorem g165 (fu:Nat):(e165 fu).Good Tryz.prog := Q0c Q0d Tryz.func165 fu (d165 fu) rs165 8 (l := [e172 fu]) ⟨g172 fu,trivial⟩
def rs159:List RVx := [(.tmp 4)]
def p159 (fu:Nat):(List (D_api_Record))×((Int×(ByteArray×((List Int)×(Int×(Int×Unit)))))×Unit)→Option ((Unit×Unit)×(List (D_api_Record))) := fun ⟨a,⟨c,f,h,i,j,_⟩,_⟩ =>
Option.bind (p165 fu ((c,f,h,i,j,()),())) fun ⟨_,⟨_,k,l,m,n,_⟩⟩ =>
bif eqL l then
 bif eqL a then
 bif decide (a.length+List.length ([(IntKind.wrap .u64 ((a.length):Int),k,l,m,n)])≤maxLen∧(a.length+List.length ([(IntKind.wrap .u64 ((a.length):Int),k,l,m,n)])) * 64≤140737488355328) then
 bif eqL (a ++ [(IntKind.wrap .u64 ((a.length):Int),k,l,m,n)]) then
 some (((),()),(a ++ [(IntKind.wrap .u64 ((a.length):Int),k,l,m,n)]))
 else none
 else none
 else none
else none
def e159 (fu:Nat):Ent := ⟨159,(.cons (.own .own 49 T_api_Record) (.cons Y5 .nil)),(.cons .dead .nil),(.own .own 49 T_api_Record),p159 fu⟩
def d159 (fu:Nat):DC := (.seq (.region [opD 3 (.box 49 5 (tD 1)),opD 4 (.mov (.const vS))] [[],[]] false) (.seq (.region [opD 5 (.load true 5 (tD 3)),oqD 6 (.call 165 [(tD 5)]) (.ent (e165 fu)),onD (.store 5 (tD 3) (tD 6))] [[],[0],[1,1,0,1]] false) (.seq (.region [mvD 7 0,opD 8 (.len false (tD 7)),opD 9 (.conv .u64 (tD 8)),fD 10 0 3,onD (.store 1 (tD 10) (tD 9))] [[],[0],[1],[0,1,2],[3,2,0,1,2]] false) (.seq (.region [mvD 11 0,opD 12 (.load true 5 (tD 3)),oqD 13 (.bslice 49 5 1 [vU,vT,vS,vU,vU] [(0,(tD 12))]) (.ty T_api_Record),oqD 14 (.app 49 5 [vU,vT,vS,vU,vU] 64 (tD 11) (tD 13)) (.ty T_api_Record),mvD 4 14] [[],[],[1],[0,2],[3,3,0,1,2,3]] false) .ret))))
theorem g159 (fu:Nat):(e159 fu).Good Tryz.prog := Q0c Q0d Tryz.func159 fu (d159 fu) rs159 15 (l := [e165 fu]) ⟨g165 fu,trivial⟩
def rs147:List RVx := [(.tmp 4),(.tmp 5),(.tmp 6)]
def p147 (fu:Nat):(List (D_api_Record))×((Int×(ByteArray×((List Int)×(Int×(Int×Unit)))))×Unit)→Option (Unit×((List (D_api_Record))×(Int×(Int×Unit)))) := fun ⟨a,⟨c,f,h,i,j,_⟩,_⟩ =>
Option.bind (p37 fu (a,())) fun ⟨_,k⟩ =>
bif !k then
 some ((),([],(0:Int),(1:Int),()))
else
 Option.bind (p99 fu ((c,f,h,i,j,()),())) fun ⟨_,l⟩ =>
 bif (l != (0:Int)) then
 some ((),([],(0:Int),l,()))
 else
 bif decide ((a.length:Int)≥(4096:Int)) then
 some ((),([],(0:Int),(143:Int),()))
 else
 Option.bind (p110 fu (a,())) fun ⟨_,m⟩ =>
 bif eqL m then
 Option.bind (p159 fu (m,(c,f,h,i,j,()),())) fun ⟨⟨_,_⟩,n⟩ =>
 bif eqL n then
 some ((),(n,IntKind.wrap .u64 (a.length:Int),(0:Int),()))
 else none
 else none
def e147 (fu:Nat):Ent := ⟨147,(.cons (.hole (.sl T_api_Record)) (.cons Y5 .nil)),.nil,(.tup 3 (.cons (.own .own 49 T_api_Record) (.cons hU (.cons hI .nil)))),p147 fu⟩
def d147 (fu:Nat):DC := (.seq (.region [opD 3 (.box 49 5 (tD 1)),opD 4 (.mov (.const vS)),opD 5 (.mov (.const vU)),opD 6 (.mov (cD 0))] [[],[],[1],[2]] false) (.seq (.seq (.region [mvD 8 0,oqD 9 (.call 37 [(tD 8)]) (.ent (e37 fu)),opD 10 (.not (tD 9))] [[],[0],[1]] false) (.cond (.tmp 10) (.seq (.region [opD 4 (.mov (.const vS)),opD 5 (.mov (.const vU)),opD 6 (.mov (cD 1))] [[],[0,0],[1,0,1]] false) .ret) .skip)) (.seq (.seq (.region [opD 11 (.load true 5 (tD 3)),oqD 12 (.call 99 [(tD 11)]) (.ent (e99 fu)),mvD 7 12] [[],[0],[1,1,0,1]] false) (.seq (.region [mvD 13 7,opD 14 (.bin .neq (tD 13) (cD 0))] [[],[0]] false) (.cond (.tmp 14) (.seq (.region [mvD 15 7,opD 4 (.mov (.const vS)),opD 5 (.mov (.const vU)),mvD 6 15] [[],[],[1,1],[0,2,0,1,2]] false) .ret) .skip))) (.seq (.seq (.region [mvD 16 0,opD 17 (.len false (tD 16)),opD 18 (.bin .geq (tD 17) (cD 4096))] [[],[0],[1]] false) (.cond (.tmp 18) (.seq (.region [opD 4 (.mov (.const vS)),opD 5 (.mov (.const vU)),opD 6 (.mov (cD 143))] [[],[0,0],[1,0,1]] false) .ret) .skip)) (.seq (.region [mvD 19 0,oqD 20 (.call 110 [(tD 19)]) (.ent (e110 fu)),opD 21 (.load true 5 (tD 3)),oqD 22 (.call 159 [(tD 20),(tD 21)]) (.ent (e159 fu)),mvD 23 0,opD 24 (.len false (tD 23)),opD 25 (.conv .u64 (tD 24)),mvD 4 22,mvD 5 25,opD 6 (.mov (cD 0))] [[],[0],[],[1,2,1],[],[4],[5],[3,3,0,1,2,3],[6,7,0,1,2,3,4,5,6,7],[8,0,1,2,3,4,5,6,7,8]] true) .ret)))))
theorem g147 (fu:Nat):(e147 fu).Good Tryz.prog := Q0c Q0d Tryz.func147 fu (d147 fu) rs147 26 (l := [e37 fu,e99 fu,e110 fu,e159 fu]) ⟨g37 fu,g99 fu,g110 fu,g159 fu,trivial⟩
def rs166:List RVx := [(.cell 4 true 4)]
def p166 (_:Nat):(Int×(Int×(Bool×(Int×Unit))))×((Int×(Int×(Bool×(Int×Unit))))×Unit)→Option (Unit×(Int×(Int×(Bool×(Int×Unit))))) := fun ⟨⟨_,_,_,_,_⟩,⟨a,c,f,h,_⟩,_⟩ =>
some ((),(a,c,f,h,()))
def e166 (fu:Nat):Ent := ⟨166,(.cons (.agg 4 (.cons hU (.cons hU (.cons (.hole .bool) (.cons hU .nil))))) (.cons (.agg 4 (.cons hU (.cons hU (.cons (.hole .bool) (.cons hU .nil))))) .nil)),.nil,(.agg 4 (.cons hU (.cons hU (.cons (.hole .bool) (.cons hU .nil))))),p166 fu⟩
def d166 (_:Nat):DC := (.seq (.region [opD 2 (.box 77 4 (tD 0)),opD 3 (.box 77 4 (tD 1)),opD 4 (.alloc 77 4 [vU,vU,vB,vU])] [[],[],[]] false) (.seq (.region [opD 5 (.load true 4 (tD 3)),onD (.store 4 (tD 4) (tD 5))] [[],[0,0]] false) .ret))
theorem g166 (fu:Nat):(e166 fu).Good Tryz.prog := Q0c Q0d Tryz.func166 fu (d166 fu) rs166 6 (l := []) trivial
def rs168:List RVx := [(.tmp 8)]
def p168 (fu:Nat):(List (D_api_Producer))×((List (D_api_Producer))×((Unit×Unit)×((Unit×Unit)×Unit)))→Option (Unit×(List (D_api_Producer))) := fun ⟨a,c,⟨_,_⟩,⟨_,_⟩,_⟩ =>
orK (E := ((List (D_api_Producer))×((List (D_api_Producer))×((List (D_api_Producer))×Unit)))×Unit)
 (loopO (S := ((List (D_api_Producer))×((List (D_api_Producer))×((List (D_api_Producer))×Unit)))×Unit) fu (fun ⟨⟨f,h,i,_⟩,_⟩ =>
 bif decide ((f.length:Int)>(0:Int)) then
 bif decide ((h.length:Int)>(0:Int)) then
 bif decide ((0:Int)≤0∧0<(f.length:Int)) then
 bif decide (0<f.length) then
 bif decide ((0:Int)≤0∧0<(h.length:Int)) then
 bif decide (0<h.length) then
 Option.bind (p100 fu (((f.getD 0 (dflt T_api_Producer)).1,((f.getD 0 (dflt T_api_Producer)).2).1,(((f.getD 0 (dflt T_api_Producer)).2).2).1,(((f.getD 0 (dflt T_api_Producer)).2).2).2,()),((h.getD 0 (dflt T_api_Producer)).1,((h.getD 0 (dflt T_api_Producer)).2).1,(((h.getD 0 (dflt T_api_Producer)).2).2).1,(((h.getD 0 (dflt T_api_Producer)).2).2).2,()),())) fun ⟨_,j⟩ =>
 bif decide (j<(0:Int)) then
 bif decide ((0:Int)≤0∧0<(f.length:Int)) then
 bif decide (0<f.length) then
 bif eqL i then
 bif decide (i.length+List.length ([((f.getD 0 (dflt T_api_Producer)).1,((f.getD 0 (dflt T_api_Producer)).2).1,(((f.getD 0 (dflt T_api_Producer)).2).2).1,(((f.getD 0 (dflt T_api_Producer)).2).2).2)])≤maxLen∧(i.length+List.length ([((f.getD 0 (dflt T_api_Producer)).1,((f.getD 0 (dflt T_api_Producer)).2).1,(((f.getD 0 (dflt T_api_Producer)).2).2).1,(((f.getD 0 (dflt T_api_Producer)).2).2).2)])) * 32≤140737488355328) then
 bif decide (1≤f.length) then
 bif eqL (i ++ [((f.getD 0 (dflt T_api_Producer)).1,((f.getD 0 (dflt T_api_Producer)).2).1,(((f.getD 0 (dflt T_api_Producer)).2).2).1,(((f.getD 0 (dflt T_api_Producer)).2).2).2)]) then
 some (.inl ((List.drop 1 f,h,(i ++ [((f.getD 0 (dflt T_api_Producer)).1,((f.getD 0 (dflt T_api_Producer)).2).1,(((f.getD 0 (dflt T_api_Producer)).2).2).1,(((f.getD 0 (dflt T_api_Producer)).2).2).2)]),()),()))
 else none
 else none
 else none
 else none
 else none
 else none
 else
 bif decide (j>(0:Int)) then
 bif decide ((0:Int)≤0∧0<(h.length:Int)) then
 bif decide (0<h.length) then
 bif eqL i then
 bif decide (i.length+List.length ([((h.getD 0 (dflt T_api_Producer)).1,((h.getD 0 (dflt T_api_Producer)).2).1,(((h.getD 0 (dflt T_api_Producer)).2).2).1,(((h.getD 0 (dflt T_api_Producer)).2).2).2)])≤maxLen∧(i.length+List.length ([((h.getD 0 (dflt T_api_Producer)).1,((h.getD 0 (dflt T_api_Producer)).2).1,(((h.getD 0 (dflt T_api_Producer)).2).2).1,(((h.getD 0 (dflt T_api_Producer)).2).2).2)])) * 32≤140737488355328) then
 bif decide (1≤h.length) then
 bif eqL (i ++ [((h.getD 0 (dflt T_api_Producer)).1,((h.getD 0 (dflt T_api_Producer)).2).1,(((h.getD 0 (dflt T_api_Producer)).2).2).1,(((h.getD 0 (dflt T_api_Producer)).2).2).2)]) then
 some (.inl ((f,List.drop 1 h,(i ++ [((h.getD 0 (dflt T_api_Producer)).1,((h.getD 0 (dflt T_api_Producer)).2).1,(((h.getD 0 (dflt T_api_Producer)).2).2).1,(((h.getD 0 (dflt T_api_Producer)).2).2).2)]),()),()))
 else none
 else none
 else none
 else none
 else none
 else none
 else
 bif decide ((0:Int)≤0∧0<(f.length:Int)) then
 bif decide (0<f.length) then
 bif decide ((0:Int)≤0∧0<(h.length:Int)) then
 bif decide (0<h.length) then
 Option.bind (p166 fu (((f.getD 0 (dflt T_api_Producer)).1,((f.getD 0 (dflt T_api_Producer)).2).1,(((f.getD 0 (dflt T_api_Producer)).2).2).1,(((f.getD 0 (dflt T_api_Producer)).2).2).2,()),((h.getD 0 (dflt T_api_Producer)).1,((h.getD 0 (dflt T_api_Producer)).2).1,(((h.getD 0 (dflt T_api_Producer)).2).2).1,(((h.getD 0 (dflt T_api_Producer)).2).2).2,()),())) fun ⟨_,⟨k,l,m,n,_⟩⟩ =>
 bif eqL i then
 bif decide (i.length+List.length ([(k,l,m,n)])≤maxLen∧(i.length+List.length ([(k,l,m,n)])) * 32≤140737488355328) then
 bif decide (1≤f.length) then
 bif decide (1≤h.length) then
 bif eqL (i ++ [(k,l,m,n)]) then
 some (.inl ((List.drop 1 f,List.drop 1 h,(i ++ [(k,l,m,n)]),()),()))
 else none
 else none
 else none
 else none
 else none
 else none
 else none
 else none
 else none
 else none
 else none
 else none
 else none
 else
 inrO (bif eqL i then
 some (.inl ((f,h,i,()),()))
 else none)
 else
 inrO (bif eqL i then
 some (.inl ((f,h,i,()),()))
 else none))
 ((a,c,[],()),()))
 fun ⟨⟨f,h,i,_⟩,_⟩ =>
bif eqL i then
 bif decide (i.length+f.length≤maxLen∧(i.length+f.length) * 32≤140737488355328) then
 bif eqL (i ++ f) then
 bif decide (List.length (i ++ f)+h.length≤maxLen∧(List.length (i ++ f)+h.length) * 32≤140737488355328) then
 bif eqL ((i ++ f) ++ h) then
 some ((),((i ++ f) ++ h))
 else none
 else none
 else none
 else none
else none
def e168 (fu:Nat):Ent := ⟨168,(.cons (.hole (.sl T_api_Producer)) (.cons (.hole (.sl T_api_Producer)) (.cons (.clo 100 0 .nil 0 .nil) (.cons (.clo 166 0 .nil 0 .nil) .nil)))),.nil,(.own .own 77 T_api_Producer),p168 fu⟩
def d168 (fu:Nat):DC := (.seq (.region [opD 8 (.mov (.const vS))] [[]] false) (.seq (.region [opD 9 (.mov (.const vS))] [[]] false) (.join ⟨[0,1,9],(.cons (.hole (.sl T_api_Producer)) (.cons (.hole (.sl T_api_Producer)) (.cons (.own .own 77 T_api_Producer) .nil))),[],.nil,[],[]⟩
 (.block 0 (.loop ⟨[0,1,9],(.cons (.hole (.sl T_api_Producer)) (.cons (.hole (.sl T_api_Producer)) (.cons (.own .own 77 T_api_Producer) .nil))),[],.nil,[2,3],[]⟩
 (.seq (.seq (.region [mvD 11 0,opD 12 (.len false (tD 11)),opD 13 (.bin .gtr (tD 12) (cD 0)),mvD 14 13,ogD 15 14 true (.mov (tD 1)),ogD 16 14 true (.len false (tD 15)),ogD 17 14 true (.bin .gtr (tD 16) (cD 0)),opD 18 (.pick (tD 14) (tD 17) (.const vB))] [[],[0],[1],[2],[3],[4,3],[5,3],[3,6]] false) (.cond (.tmp 18) .skip (.exit 0))) (.block 1 (.seq (.region [mvD 19 2,mvD 20 0,opD 21 (.iaddr 4 (tD 20) (cD 0)),opD 22 (.load true 4 (tD 21)),mvD 23 1,opD 24 (.iaddr 4 (tD 23) (cD 0)),opD 25 (.load true 4 (tD 24)),oqD 26 (.callv (tD 19) [(tD 22),(tD 25)]) (.ent (e100 fu)),mvD 10 26] [[],[],[1],[2],[],[4],[5],[0,3,6],[7,7,0,1,2,3,4,5,6,7]] true) (.block 2 (.seq (.region [mvD 43 10,opD 44 (.bin .lss (tD 43) (cD 0)),mvD 42 44] [[],[0],[1]] false) (.cond (.tmp 42) (.region [mvD 45 9,mvD 46 0,opD 47 (.iaddr 4 (tD 46) (cD 0)),opD 48 (.load true 4 (tD 47)),oqD 49 (.bslice 77 4 1 [vU,vU,vB,vU] [(0,(tD 48))]) (.ty T_api_Producer),oqD 50 (.app 77 4 [vU,vU,vB,vU] 32 (tD 45) (tD 49)) (.ty T_api_Producer),mvD 51 0,opD 52 (.slc 4 (tD 51) (some (cD 1)) none),mvD 9 50,mvD 0 52] [[],[],[1],[2],[3],[0,4],[],[6],[5,5,0,1,2,3,4,5],[7,8,0,1,2,3,4,5,6,7,8]] true) (.seq (.region [mvD 54 10,opD 55 (.bin .gtr (tD 54) (cD 0)),mvD 53 55] [[],[0],[1]] false) (.cond (.tmp 53) (.region [mvD 56 9,mvD 57 1,opD 58 (.iaddr 4 (tD 57) (cD 0)),opD 59 (.load true 4 (tD 58)),oqD 60 (.bslice 77 4 1 [vU,vU,vB,vU] [(0,(tD 59))]) (.ty T_api_Producer),oqD 61 (.app 77 4 [vU,vU,vB,vU] 32 (tD 56) (tD 60)) (.ty T_api_Producer),mvD 62 1,opD 63 (.slc 4 (tD 62) (some (cD 1)) none),mvD 9 61,mvD 1 63] [[],[],[1],[2],[3],[0,4],[],[6],[5,5,0,1,2,3,4,5],[7,8,0,1,2,3,4,5,6,7,8]] true) (.region [mvD 27 9,mvD 28 3,mvD 29 0,opD 30 (.iaddr 4 (tD 29) (cD 0)),opD 31 (.load true 4 (tD 30)),mvD 32 1,opD 33 (.iaddr 4 (tD 32) (cD 0)),opD 34 (.load true 4 (tD 33)),oqD 35 (.callv (tD 28) [(tD 31),(tD 34)]) (.ent (e166 fu)),oqD 36 (.bslice 77 4 1 [vU,vU,vB,vU] [(0,(tD 35))]) (.ty T_api_Producer),oqD 37 (.app 77 4 [vU,vU,vB,vU] 32 (tD 27) (tD 36)) (.ty T_api_Producer),mvD 38 0,opD 39 (.slc 4 (tD 38) (some (cD 1)) none),mvD 40 1,opD 41 (.slc 4 (tD 40) (some (cD 1)) none),mvD 9 37,mvD 0 39,mvD 1 41] [[],[],[],[2],[3],[],[5],[6],[1,4,7],[8],[0,9,8],[],[11],[],[13],[10,10,0,1,2,3,4,5,6,7,8,9,10],[12,15,0,1,2,3,4,5,6,7,8,9,10,11,12,15],[14,16,0,1,2,3,4,5,6,7,8,9,10,11,12,13,14,15,16]] true)))))))))))
 (.seq (.region [mvD 64 9,mvD 65 0,oqD 66 (.app 77 4 [vU,vU,vB,vU] 32 (tD 64) (tD 65)) (.ty T_api_Producer),mvD 67 1,oqD 68 (.app 77 4 [vU,vU,vB,vU] 32 (tD 66) (tD 67)) (.ty T_api_Producer),mvD 8 68] [[],[],[0,1],[],[2,3,2],[4,4,0,1,2,3,4]] false) .ret))))
theorem g168 (fu:Nat):(e168 fu).Good Tryz.prog := Q0c Q0d Tryz.func168 fu (d168 fu) rs168 69 (l := [e100 fu,e166 fu]) ⟨g100 fu,g166 fu,trivial⟩
def rs167:List RVx := [(.tmp 2),(.tmp 3)]
def p167_1 (_:Nat):(List (D_api_Producer))×Unit→Option ((Unit×Unit)×((List (D_api_Producer))×(Int×Unit))) := fun ⟨a,_⟩ =>
bif decide (((a.length):Int)>(256:Int)) then
 some (((),()),([],(153:Int),()))
else
 bif eqL a then
 some (((),()),(a,(0:Int),()))
 else none
def e167_1 (fu:Nat):Ent := ⟨167,(.cons (.own .own 77 T_api_Producer) .nil),(.cons .dead .nil),(.tup 2 (.cons (.own .own 77 T_api_Producer) (.cons hI .nil))),p167_1 fu⟩
def d167_1 (_:Nat):DC := (.seq (.region [opD 2 (.mov (.const vS)),opD 3 (.mov (cD 0))] [[],[0]] false) (.seq (.seq (.region [mvD 4 0,opD 5 (.len false (tD 4)),opD 6 (.bin .gtr (tD 5) (cD 256))] [[],[0],[1]] false) (.cond (.tmp 6) (.seq (.region [opD 2 (.mov (.const vS)),opD 3 (.mov (cD 153))] [[],[0,0]] false) .ret) .skip)) (.seq (.region [mvD 7 0,mvD 2 7,opD 3 (.mov (cD 0))] [[],[0,0],[1,0,1]] false) .ret)))
theorem K9i (fu:Nat):(e167_1 fu).Good Tryz.prog := Q0c Q0d Tryz.func167 fu (d167_1 fu) rs167 8 (l := []) trivial
def rs160:List RVx := [(.tmp 4),(.tmp 5)]
def p160 (fu:Nat):(List (D_api_Producer))×((Int×(Int×(Bool×(Int×Unit))))×Unit)→Option (Unit×((List (D_api_Producer))×(Int×Unit))) := fun ⟨a,⟨c,f,h,i,_⟩,_⟩ =>
Option.bind (p38 fu (a,())) fun ⟨_,j⟩ =>
bif !j then
 some ((),([],(1:Int),()))
else
 Option.bind (p157 fu (a,c,f,())) fun ⟨_,⟨k,_,_⟩⟩ =>
 bif (k==(4:Int)) then
 some ((),([],(151:Int),()))
 else
 bif (k==(2:Int)) then
 some ((),([],(152:Int),()))
 else
 bif (k==(3:Int)) then
 some ((),([],(152:Int),()))
 else
 Option.bind (p168 fu (a,[(c,f,h,i)],((),()),((),()),())) fun ⟨_,l⟩ =>
 bif eqL l then
 Option.bind (p167_1 fu (l,())) fun ⟨⟨_,_⟩,⟨m,n,_⟩⟩ =>
 bif eqL m then
 some ((),(m,n,()))
 else none
 else none
def e160 (fu:Nat):Ent := ⟨160,(.cons (.hole (.sl T_api_Producer)) (.cons (.agg 4 (.cons hU (.cons hU (.cons (.hole .bool) (.cons hU .nil))))) .nil)),.nil,(.tup 2 (.cons (.own .own 77 T_api_Producer) (.cons hI .nil))),p160 fu⟩
def d160 (fu:Nat):DC := (.seq (.region [opD 3 (.box 77 4 (tD 1)),opD 4 (.mov (.const vS)),opD 5 (.mov (cD 0))] [[],[],[1]] false) (.seq (.seq (.region [mvD 9 0,oqD 10 (.call 38 [(tD 9)]) (.ent (e38 fu)),opD 11 (.not (tD 10))] [[],[0],[1]] false) (.cond (.tmp 11) (.seq (.region [opD 4 (.mov (.const vS)),opD 5 (.mov (cD 1))] [[],[0,0]] false) .ret) .skip)) (.seq (.seq (.region [mvD 13 0,fD 14 0 3,lD 15 1 14,fD 16 1 3,lD 17 1 16,oqD 18 (.call 157 [(tD 13),(tD 15),(tD 17)]) (.ent (e157 fu)),mvD 12 18,opD 19 (.ext (tD 12) 0),opD 20 (.ext (tD 12) 1),mvD 6 19,mvD 7 20] [[],[],[1],[],[3],[0,2,4],[5],[6],[6],[7,5,0,1,2,3,4,5,6,7],[8,9,0,1,2,3,4,5,6,7,8,9]] false) (.seq (.region [mvD 21 6] [[]] false) (.block 0 (.seq (.region [opD 23 (.bin .eql (tD 21) (cD 4)),mvD 22 23] [[],[0]] false) (.cond (.tmp 22) (.seq (.region [opD 4 (.mov (.const vS)),opD 5 (.mov (cD 151))] [[],[0,0]] false) .ret) (.seq (.seq (.region [opD 25 (.bin .eql (tD 21) (cD 2)),mvD 24 25] [[],[0]] false) (.cond (.tmp 24) .skip (.region [opD 26 (.bin .eql (tD 21) (cD 3)),mvD 24 26] [[],[0]] false))) (.cond (.tmp 24) (.seq (.region [opD 4 (.mov (.const vS)),opD 5 (.mov (cD 152))] [[],[0,0]] false) .ret) .skip))))))) (.seq (.region [opD 8 (.mov (.func 166))] [[]] false) (.seq (.region [mvD 27 0,opD 28 (.load true 4 (tD 3)),oqD 29 (.bslice 77 4 1 [vU,vU,vB,vU] [(0,(tD 28))]) (.ty T_api_Producer),mvD 30 8,oqD 31 (.call 168 [(tD 27),(tD 29),(.func 100),(tD 30)]) (.ent (e168 fu)),oqD 32 (.call 167 [(tD 31)]) (.ent (e167_1 fu)),opD 33 (.ext (tD 32) 0),opD 34 (.ext (tD 32) 1),mvD 4 33,mvD 5 34] [[],[],[1],[],[0,2,3],[4,4],[5],[5],[6,5,0,1,2,3,4,5,6,7],[7,8,0,1,2,3,4,5,6,7,8]] false) .ret)))))
theorem g160 (fu:Nat):(e160 fu).Good Tryz.prog := Q0c Q0d Tryz.func160 fu (d160 fu) rs160 35 (l := [e38 fu,e157 fu,e168 fu,e167_1 fu]) ⟨g38 fu,g157 fu,g168 fu,K9i fu,trivial⟩
def rs148:List RVx := [(.tmp 8),(.tmp 9)]
def p148 (fu:Nat):(List (D_api_Producer))×(Int×(Int×(Int×Unit)))→Option (Unit×((List (D_api_Producer))×(Int×Unit))) := fun ⟨a,c,f,h,_⟩ =>
Option.bind (p160 fu (a,(c,f,true,h,()),())) fun ⟨_,⟨i,j,_⟩⟩ =>
bif eqL i then
 some ((),(i,j,()))
else none
def e148 (fu:Nat):Ent := ⟨148,(.cons (.hole (.sl T_api_Producer)) (.cons hU (.cons hU (.cons hU .nil)))),.nil,(.tup 2 (.cons (.own .own 77 T_api_Producer) (.cons hI .nil))),p148 fu⟩
def d148 (fu:Nat):DC := (.seq (.region [opD 8 (.mov (.const vS)),opD 9 (.mov (cD 0))] [[],[0]] false) (.seq (.region [mvD 10 0,mvD 11 1,mvD 12 2,mvD 13 3,opD 14 (.build 4 [vU,vU,vB,vU] [(0,(1,(tD 11))),(1,(1,(tD 12))),(2,(1,(.const (.bool true)))),(3,(1,(tD 13)))]),oqD 15 (.call 160 [(tD 10),(tD 14)]) (.ent (e160 fu)),opD 16 (.ext (tD 15) 0),opD 17 (.ext (tD 15) 1),mvD 8 16,mvD 9 17] [[],[],[],[],[1,2,3],[0,4],[5],[5],[6,5,0,1,2,3,4,5,6,7],[7,8,0,1,2,3,4,5,6,7,8]] false) .ret))
theorem g148 (fu:Nat):(e148 fu).Good Tryz.prog := Q0c Q0d Tryz.func148 fu (d148 fu) rs148 18 (l := [e160 fu]) ⟨g160 fu,trivial⟩
def rs115:List RVx := [(.tmp 2)]
def p115 (fu:Nat):(Z0)×Unit→Option (((Z0)×(Unit×(Unit×(Unit×Unit))))×(Bool×((ByteArray×(Int×Unit))×Unit))) := fun ⟨⟨a,c,f,h,i,j,k,l,m,n,o,q,s,t,u,w,x,y,z,a0,_,_⟩,_⟩ =>
bif eqL i then
 Option.bind (p147 fu (i,((0:Int),q,s,n,o,()),())) fun ⟨_,⟨c0,f0,h0,_⟩⟩ =>
 bif (h0 != (0:Int)) then
 Option.bind (p113 fu ((⟨#[97,32,114,101,99,111,114,100]⟩:ByteArray),h0,())) fun ⟨_,⟨i0,⟨j0,k0,_⟩,_⟩⟩ =>
 bif eqL i then
 bif eqL j then
 bif eqL k then
 some (((a,c,f,h,i,j,k,l,m,n,o,q,s,t,u,w,x,y,z,a0,(),()),(),(),(),()),(i0,(j0,k0,()),()))
 else none
 else none
 else none
 else
 bif eqL j then
 Option.bind (p148 fu (j,n,o,f0,())) fun ⟨_,⟨l0,m0,_⟩⟩ =>
 bif (m0 != (0:Int)) then
 Option.bind (p113 fu ((⟨#[97,32,112,114,111,100,117,99,101,114]⟩:ByteArray),m0,())) fun ⟨_,⟨n0,⟨o0,q0,_⟩,_⟩⟩ =>
 bif eqL i then
 bif eqL j then
 bif eqL k then
 some (((a,c,f,h,i,j,k,l,m,n,o,q,s,t,u,w,x,y,z,a0,(),()),(),(),(),()),(n0,(o0,q0,()),()))
 else none
 else none
 else none
 else
 bif eqL c0 then
 bif eqL l0 then
 bif eqL k then
 some (((a,c,f,h,c0,l0,k,l,m,n,o,q,s,t,u,w,x,y,f0,a0,(),()),(),(),(),()),(false,dflt (.pair .str (.pair (.int .i64) .unit)),()))
 else none
 else none
 else none
 else none
else none
def e115 (fu:Nat):Ent := ⟨115,(.cons Y9 .nil),(.cons Y12 (.cons .dead (.cons .dead (.cons .dead .nil)))),(.alt true (.ifc 101 (.look (.cons hT (.cons hI .nil)))) (.nilv 1)),p115 fu⟩
def d115 (fu:Nat):DC := (.seq (.region [opD 2 (.mov (.const .nilIface))] [[]] false) (.seq (.region [mvD 9 0,nD 10 9,fD 11 7 10,opD 12 (.load true 10 (tD 11)),opD 3 (.alloc 44 10 [vI,vU,vU,vU,vT,vS,vU,vI,vT,vU]),onD (.store 10 (tD 3) (tD 12))] [[],[0],[1],[2],[],[4,3,0,1,2,3,4]] false) (.seq (.region [fD 13 4 3,lD 14 1 13,fD 15 5 3,lD 16 1 15,fD 17 2 3,lD 18 1 17,fD 19 3 3,lD 20 1 19,opD 21 (.build 5 [vU,vT,vS,vU,vU] [(1,(1,(tD 14))),(2,(1,(tD 16))),(3,(1,(tD 18))),(4,(1,(tD 20)))]),opD 4 (.alloc 49 5 [vU,vT,vS,vU,vU]),onD (.store 5 (tD 4) (tD 21))] [[],[0],[],[2],[],[4],[],[6],[1,3,5,7],[],[9,8,0,1,2,3,4,5,6,7,8,9]] false) (.seq (.region [mvD 23 0,nD 24 23,fD 25 0 24,fD 26 4 25,lD 27 1 26,opD 28 (.load true 5 (tD 4)),oqD 29 (.call 147 [(tD 27),(tD 28)]) (.ent (e147 fu)),mvD 22 29,opD 30 (.ext (tD 22) 0),opD 31 (.ext (tD 22) 1),opD 32 (.ext (tD 22) 2),mvD 5 30,mvD 6 31,mvD 7 32] [[],[0],[1],[2],[3],[],[4,5],[6],[7],[7],[7],[8,6,0,1,2,3,4,5,6,7,8],[9,11,0,1,2,3,4,5,6,7,8,9,11],[10,12,0,1,2,3,4,5,6,7,8,9,10,11,12]] true) (.seq (.seq (.region [mvD 33 7,opD 34 (.bin .neq (tD 33) (cD 0))] [[],[0]] false) (.cond (.tmp 34) (.seq (.region [mvD 35 7,oqD 36 (.call 113 [(.const (.string ⟨#[97,32,114,101,99,111,114,100]⟩)),(tD 35)]) (.ent (e113 fu)),mvD 2 36] [[],[0],[1,1,0,1]] false) .ret) .skip)) (.seq (.region [mvD 38 0,nD 39 38,fD 40 0 39,fD 41 5 40,lD 42 1 41,fD 43 2 3,lD 44 1 43,fD 45 3 3,lD 46 1 45,mvD 47 6,oqD 48 (.call 148 [(tD 42),(tD 44),(tD 46),(tD 47)]) (.ent (e148 fu)),mvD 37 48,opD 49 (.ext (tD 37) 0),opD 50 (.ext (tD 37) 1),mvD 8 49,mvD 7 50] [[],[0],[1],[2],[3],[],[5],[],[7],[],[4,6,8,9],[10],[11],[11],[12,10,0,1,2,3,4,5,6,7,8,9,10,11,12],[13,14,0,1,2,3,4,5,6,7,8,9,10,11,12,13,14]] true) (.seq (.seq (.region [mvD 51 7,opD 52 (.bin .neq (tD 51) (cD 0))] [[],[0]] false) (.cond (.tmp 52) (.seq (.region [mvD 53 7,oqD 54 (.call 113 [(.const (.string ⟨#[97,32,112,114,111,100,117,99,101,114]⟩)),(tD 53)]) (.ent (e113 fu)),mvD 2 54] [[],[0],[1,1,0,1]] false) .ret) .skip)) (.seq (.region [mvD 55 0,mvD 56 0,mvD 57 5,mvD 58 8,nD 59 55,fD 60 0 59,fD 61 4 60,onD (.store 1 (tD 61) (tD 57)),nD 62 56,fD 63 0 62,fD 64 5 63,onD (.store 1 (tD 64) (tD 58))] [[],[],[],[],[0,0,2],[4,0,2],[5,0,2],[6,2,0,2],[1,0,1,2,3,4,5,6,7],[8,0,1,2,3,4,5,6,7],[9,0,1,2,3,4,5,6,7],[10,3,7,0,1,2,3,4,5,6,7]] false) (.seq (.region [mvD 65 0,mvD 66 6,nD 67 65,fD 68 17 67,fD 69 1 68,onD (.store 1 (tD 69) (tD 66))] [[],[],[0,0,1],[2,0,1],[3,0,1],[4,1,0,1]] false) (.seq (.region [opD 2 (.mov (.const .nilIface))] [[]] false) .ret))))))))))
theorem g115 (fu:Nat):(e115 fu).Good Tryz.prog := Q0c Q0d Tryz.func115 fu (d115 fu) rs115 70 (l := [e147 fu,e113 fu,e148 fu,e113 fu]) ⟨g147 fu,g113 fu,g148 fu,g113 fu,trivial⟩
def rs149:List RVx := [(.tmp 6),(.tmp 7)]
def p149 (fu:Nat):(List (D_api_Record))×(Int×(Int×Unit))→Option (Unit×((List (D_api_Record))×(Int×Unit))) := fun ⟨a,c,f,_⟩ =>
Option.bind (p37 fu (a,())) fun ⟨_,h⟩ =>
bif !h then
 some ((),([],(1:Int),()))
else
 bif decide (c>(IntKind.wrap .u64 (a.length:Int))) then
 some ((),([],(141:Int),()))
 else
 bif decide ((0:Int)≤c) then
 bif decide (c.toNat≤a.length) then
 bif decide ((0:Int)≤(if (List.length (slice' a (c.toNat) none):Int)<(if (64:Int)<(if (0:Int)>f then (0:Int) else f) then (64:Int) else (if (0:Int)>f then (0:Int) else f)) then (List.length (slice' a (c.toNat) none):Int) else (if (64:Int)<(if (0:Int)>f then (0:Int) else f) then (64:Int) else (if (0:Int)>f then (0:Int) else f)))) then
 bif decide (0≤Int.toNat (if (List.length (slice' a (c.toNat) none):Int)<(if (64:Int)<(if (0:Int)>f then (0:Int) else f) then (64:Int) else (if (0:Int)>f then (0:Int) else f)) then (List.length (slice' a (c.toNat) none):Int) else (if (64:Int)<(if (0:Int)>f then (0:Int) else f) then (64:Int) else (if (0:Int)>f then (0:Int) else f)))∧Int.toNat (if (List.length (slice' a (c.toNat) none):Int)<(if (64:Int)<(if (0:Int)>f then (0:Int) else f) then (64:Int) else (if (0:Int)>f then (0:Int) else f)) then (List.length (slice' a (c.toNat) none):Int) else (if (64:Int)<(if (0:Int)>f then (0:Int) else f) then (64:Int) else (if (0:Int)>f then (0:Int) else f)))≤List.length (slice' a (c.toNat) none)) then
 Option.bind (p110 fu (List.take (Int.toNat (if (List.length (slice' a (c.toNat) none):Int)<(if (64:Int)<(if (0:Int)>f then (0:Int) else f) then (64:Int) else (if (0:Int)>f then (0:Int) else f)) then (List.length (slice' a (c.toNat) none):Int) else (if (64:Int)<(if (0:Int)>f then (0:Int) else f) then (64:Int) else (if (0:Int)>f then (0:Int) else f)))) (slice' a (c.toNat) none),())) fun ⟨_,i⟩ =>
 bif eqL i then
 some ((),(i,(0:Int),()))
 else none
 else none
 else none
 else none
 else none
def e149 (fu:Nat):Ent := ⟨149,(.cons (.hole (.sl T_api_Record)) (.cons hU (.cons hI .nil))),.nil,(.tup 2 (.cons (.own .own 49 T_api_Record) (.cons hI .nil))),p149 fu⟩
def d149 (fu:Nat):DC := (.seq (.region [opD 6 (.mov (.const vS)),opD 7 (.mov (cD 0))] [[],[0]] false) (.seq (.seq (.region [mvD 9 0,oqD 10 (.call 37 [(tD 9)]) (.ent (e37 fu)),opD 11 (.not (tD 10))] [[],[0],[1]] false) (.cond (.tmp 11) (.seq (.region [opD 6 (.mov (.const vS)),opD 7 (.mov (cD 1))] [[],[0,0]] false) .ret) .skip)) (.seq (.seq (.region [mvD 12 1,mvD 13 0,opD 14 (.len false (tD 13)),opD 15 (.conv .u64 (tD 14)),opD 16 (.bin .gtr (tD 12) (tD 15))] [[],[],[1],[2],[0,3]] false) (.cond (.tmp 16) (.seq (.region [opD 6 (.mov (.const vS)),opD 7 (.mov (cD 141))] [[],[0,0]] false) .ret) .skip)) (.seq (.region [mvD 17 0,mvD 18 1,opD 19 (.slc 5 (tD 17) (some (tD 18)) none),mvD 8 19] [[],[],[0,1],[2,0,1,2]] false) (.seq (.region [mvD 20 8,mvD 21 2,opD 22 (.mm true (tD 21) (cD 0)),mvD 23 8,opD 24 (.len false (tD 23)),opD 25 (.pure (.mm3 false) [(tD 22),(cD 64),(tD 24)]),opD 26 (.slc 5 (tD 20) none (some (tD 25))),oqD 27 (.call 110 [(tD 26)]) (.ent (e110 fu)),mvD 6 27,opD 7 (.mov (cD 0))] [[],[],[1],[],[3],[2,4],[0,5],[6],[7,7,0,1,2,3,4,5,6,7],[8,0,1,2,3,4,5,6,7,8]] false) .ret)))))
theorem g149 (fu:Nat):(e149 fu).Good Tryz.prog := Q0c Q0d Tryz.func149 fu (d149 fu) rs149 28 (l := [e37 fu,e110 fu]) ⟨g37 fu,g110 fu,trivial⟩
def rs116:List RVx := [(.tmp 2)]
def p116 (fu:Nat):(Z0)×Unit→Option (((Z2)×(Unit×(Unit×(Unit×Unit))))×(Bool×((ByteArray×(Int×Unit))×Unit))) := fun ⟨⟨a,c,f,h,i,j,k,l,m,n,o,q,s,t,u,w,x,y,z,a0,_,_⟩,_⟩ =>
bif eqL i then
 Option.bind (p149 fu (i,t,u,())) fun ⟨_,⟨c0,f0,_⟩⟩ =>
 bif (f0 != (0:Int)) then
 Option.bind (p113 fu ((⟨#[97,32,102,101,116,99,104]⟩:ByteArray),f0,())) fun ⟨_,⟨h0,⟨i0,j0,_⟩,_⟩⟩ =>
 bif eqL i then
 bif eqL j then
 bif eqL k then
 some (((a,c,f,h,i,j,k,l,m,n,o,q,s,t,u,w,x,y,z,a0,[],()),(),(),(),()),(h0,(i0,j0,()),()))
 else none
 else none
 else none
 else
 bif eqL i then
 bif eqL j then
 bif eqL k then
 bif eqL c0 then
 some (((a,c,f,h,i,j,k,l,m,n,o,q,s,t,u,w,x,y,IntKind.wrap .u64 (t+(IntKind.wrap .u64 ((c0.length):Int))),a0,c0,()),(),(),(),()),(false,dflt (.pair .str (.pair (.int .i64) .unit)),()))
 else none
 else none
 else none
 else none
else none
def e116 (fu:Nat):Ent := ⟨116,(.cons Y9 .nil),(.cons Y13 (.cons .dead (.cons .dead (.cons .dead .nil)))),(.alt true (.ifc 101 (.look (.cons hT (.cons hI .nil)))) (.nilv 1)),p116 fu⟩
def d116 (fu:Nat):DC := (.seq (.region [opD 2 (.mov (.const .nilIface))] [[]] false) (.seq (.region [mvD 6 0,nD 7 6,fD 8 0 7,fD 9 4 8,lD 10 1 9,mvD 11 0,nD 12 11,fD 13 7 12,fD 14 6 13,lD 15 1 14,mvD 16 0,nD 17 16,fD 18 7 17,fD 19 7 18,lD 20 1 19,oqD 21 (.call 149 [(tD 10),(tD 15),(tD 20)]) (.ent (e149 fu)),mvD 5 21,opD 22 (.ext (tD 5) 0),opD 23 (.ext (tD 5) 1),mvD 3 22,mvD 4 23] [[],[0],[1],[2],[3],[],[5],[6],[7],[8],[],[10],[11],[12],[13],[4,9,14],[15],[16],[16],[17,15,0,1,2,3,4,5,6,7,8,9,10,11,12,13,14,15,16,17],[18,19,0,1,2,3,4,5,6,7,8,9,10,11,12,13,14,15,16,17,18,19]] true) (.seq (.seq (.region [mvD 24 4,opD 25 (.bin .neq (tD 24) (cD 0))] [[],[0]] false) (.cond (.tmp 25) (.seq (.region [mvD 26 4,oqD 27 (.call 113 [(.const (.string ⟨#[97,32,102,101,116,99,104]⟩)),(tD 26)]) (.ent (e113 fu)),mvD 2 27] [[],[0],[1,1,0,1]] false) .ret) .skip)) (.seq (.region [mvD 28 0,mvD 29 0,mvD 30 3,mvD 31 0,nD 32 31,fD 33 7 32,fD 34 6 33,lD 35 1 34,mvD 36 3,opD 37 (.len false (tD 36)),opD 38 (.conv .u64 (tD 37)),opD 39 (.bin .add (tD 35) (tD 38)),nD 40 28,fD 41 17 40,fD 42 3 41,onD (.store 1 (tD 42) (tD 30)),nD 43 29,fD 44 17 43,fD 45 1 44,onD (.store 1 (tD 45) (tD 39))] [[],[],[],[],[3],[4],[5],[6],[],[8],[9],[7,10],[0,0,2,7],[12,0,2,7],[13,0,2,7],[14,2,0,2,7],[1,0,1,2,3,4,5,6,7,8,9,10,11,12,13,14,15],[16,0,1,2,3,4,5,6,7,8,9,10,11,12,13,14,15],[17,0,1,2,3,4,5,6,7,8,9,10,11,12,13,14,15],[18,11,15,0,1,2,3,4,5,6,7,8,9,10,11,12,13,14,15]] false) (.seq (.region [opD 2 (.mov (.const .nilIface))] [[]] false) .ret)))))
theorem g116 (fu:Nat):(e116 fu).Good Tryz.prog := Q0c Q0d Tryz.func116 fu (d116 fu) rs116 46 (l := [e149 fu,e113 fu]) ⟨g149 fu,g113 fu,trivial⟩
def rs171:List RVx := [(.tmp 4)]
def p171 (fu:Nat):ByteArray×(ByteArray×Unit)→Option (Unit×Int) := fun ⟨a,c,_⟩ =>
Option.bind (pCmpS fu (a,c,())) fun ⟨_,f⟩ =>
some ((),f)
def e171 (fu:Nat):Ent := ⟨171,(.cons hT (.cons hT .nil)),.nil,hI,p171 fu⟩
def d171 (fu:Nat):DC := (.seq (.region [opD 4 (.mov (cD 0))] [[]] false) (.seq (.region [mvD 5 0,mvD 6 1,oqD 7 (.call 175 [(tD 5),(tD 6)]) (.ent (eCmpS fu)),mvD 4 7] [[],[],[0,1],[2,2,0,1,2]] false) .ret))
theorem g171 (fu:Nat):(e171 fu).Good Tryz.prog := Q0c Q0d Tryz.func171 fu (d171 fu) rs171 8 (l := [eCmpS fu]) ⟨K3q fu,trivial⟩
def rs162:List RVx := [(.tmp 4)]
def p162 (fu:Nat):(ByteArray×(Int×Unit))×((ByteArray×(Int×Unit))×Unit)→Option (Unit×Int) := fun ⟨⟨a,_,_⟩,⟨c,_,_⟩,_⟩ =>
Option.bind (p171 fu (a,c,())) fun ⟨_,f⟩ =>
some ((),f)
def e162 (fu:Nat):Ent := ⟨162,(.cons (.agg 2 (.cons hT (.cons hU .nil))) (.cons (.agg 2 (.cons hT (.cons hU .nil))) .nil)),.nil,hI,p162 fu⟩
def d162 (fu:Nat):DC := (.seq (.region [opD 2 (.box 79 2 (tD 0)),opD 3 (.box 79 2 (tD 1)),opD 4 (.mov (cD 0))] [[],[],[]] false) (.seq (.region [fD 5 0 2,lD 6 1 5,fD 7 0 3,lD 8 1 7,oqD 9 (.call 171 [(tD 6),(tD 8)]) (.ent (e171 fu)),mvD 4 9] [[],[0],[],[2],[1,3],[4,4,0,1,2,3,4]] false) .ret))
theorem g162 (fu:Nat):(e162 fu).Good Tryz.prog := Q0c Q0d Tryz.func162 fu (d162 fu) rs162 10 (l := [e171 fu]) ⟨g171 fu,trivial⟩
def rs169:List RVx := [(.tmp 6),(.tmp 7)]
def p169 (fu:Nat):(List (D_runtime_errorAddressString))×((ByteArray×(Int×Unit))×((Unit×Unit)×Unit))→Option (Unit×(Int×(Bool×Unit))) := fun ⟨a,⟨c,f,_⟩,⟨_,_⟩,_⟩ =>
loopO (S := (Int×(Int×Unit))×Unit) fu (fun ⟨⟨h,i,_⟩,_⟩ =>
 bif decide (h<i) then
 bif decide ((0:Int)≤IntKind.wrap .i64 (Int.fdiv (IntKind.wrap .u64 (IntKind.wrap .i64 (h+i))) (2 ^ (min (Int.toNat (1:Int)) (IntKind.bits .u64))))∧IntKind.wrap .i64 (Int.fdiv (IntKind.wrap .u64 (IntKind.wrap .i64 (h+i))) (2 ^ (min (Int.toNat (1:Int)) (IntKind.bits .u64))))<(a.length:Int)) then
 bif decide (Int.toNat (IntKind.wrap .i64 (Int.fdiv (IntKind.wrap .u64 (IntKind.wrap .i64 (h+i))) (2 ^ (min (Int.toNat (1:Int)) (IntKind.bits .u64)))))<a.length) then
 Option.bind (p162 fu (((a.getD (Int.toNat (IntKind.wrap .i64 (Int.fdiv (IntKind.wrap .u64 (IntKind.wrap .i64 (h+i))) (2 ^ (min (Int.toNat (1:Int)) (IntKind.bits .u64)))))) (dflt T_runtime_errorAddressString)).1,(a.getD (Int.toNat (IntKind.wrap .i64 (Int.fdiv (IntKind.wrap .u64 (IntKind.wrap .i64 (h+i))) (2 ^ (min (Int.toNat (1:Int)) (IntKind.bits .u64)))))) (dflt T_runtime_errorAddressString)).2,()),(c,f,()),())) fun ⟨_,j⟩ =>
 bif decide (j<(0:Int)) then
 some (.inl ((IntKind.wrap .i64 ((IntKind.wrap .i64 (Int.fdiv (IntKind.wrap .u64 (IntKind.wrap .i64 (h+i))) (2 ^ (min (Int.toNat (1:Int)) (IntKind.bits .u64)))))+(1:Int)),i,()),()))
 else
 some (.inl ((h,IntKind.wrap .i64 (Int.fdiv (IntKind.wrap .u64 (IntKind.wrap .i64 (h+i))) (2 ^ (min (Int.toNat (1:Int)) (IntKind.bits .u64)))),()),()))
 else none
 else none
 else
 inrO (bif decide (h<(a.length:Int)) then
 bif decide ((0:Int)≤h∧h<(a.length:Int)) then
 bif decide (h.toNat<a.length) then
 Option.bind (p162 fu (((a.getD (h.toNat) (dflt T_runtime_errorAddressString)).1,(a.getD (h.toNat) (dflt T_runtime_errorAddressString)).2,()),(c,f,()),())) fun ⟨_,k⟩ =>
 some ((),(h,(k==(0:Int)),()))
 else none
 else none
 else
 some ((),(h,false,()))))
 (((0:Int),(a.length:Int),()),())
def e169 (fu:Nat):Ent := ⟨169,(.cons (.hole (.sl T_runtime_errorAddressString)) (.cons (.agg 2 (.cons hT (.cons hU .nil))) (.cons (.clo 162 0 .nil 0 .nil) .nil))),.nil,(.tup 2 (.cons hI (.cons (.hole .bool) .nil))),p169 fu⟩
def d169 (fu:Nat):DC := (.seq (.region [opD 4 (.box 79 2 (tD 1)),opD 6 (.mov (cD 0)),opD 7 (.mov (.const vB))] [[],[],[1]] false) (.seq (.region [mvD 12 0,opD 13 (.len false (tD 12)),mvD 8 13] [[],[0],[1,0,1]] false) (.seq (.region [mvD 14 8,opD 9 (.mov (cD 0)),mvD 10 14] [[],[],[0,1,0,1]] false) (.seq (.block 0 (.loop ⟨[9,10],(.cons hI (.cons hI .nil)),[],.nil,[0,2,4,8],[0]⟩
 (.seq (.seq (.region [mvD 15 9,mvD 16 10,opD 17 (.bin .lss (tD 15) (tD 16))] [[],[],[0,1]] false) (.cond (.tmp 17) .skip (.exit 0))) (.block 1 (.seq (.region [mvD 18 9,mvD 19 10,opD 20 (.bin .add (tD 18) (tD 19)),opD 21 (.conv .u64 (tD 20)),opD 22 (.bin .shr (tD 21) (.const (.int .u64 1))),opD 23 (.conv .i64 (tD 22)),mvD 11 23] [[],[],[0,1],[2],[3],[4],[5,0,1,2,3,4,5]] false) (.seq (.region [mvD 24 2,mvD 25 0,mvD 26 11,opD 27 (.iaddr 2 (tD 25) (tD 26)),opD 28 (.load true 2 (tD 27)),opD 29 (.load true 2 (tD 4)),oqD 30 (.callv (tD 24) [(tD 28),(tD 29)]) (.ent (e162 fu)),opD 31 (.bin .lss (tD 30) (cD 0))] [[],[],[],[1,2],[3],[],[0,4,5],[6]] true) (.cond (.tmp 31) (.region [mvD 32 11,opD 33 (.bin .add (tD 32) (cD 1)),mvD 9 33] [[],[0],[1,0,1]] false) (.region [mvD 34 11,mvD 10 34] [[],[0,0]] false)))))))) (.seq (.region [mvD 35 9,mvD 36 9,mvD 37 8,opD 38 (.bin .lss (tD 36) (tD 37)),mvD 39 38,ogD 40 39 true (.mov (tD 2)),ogD 41 39 true (.mov (tD 0)),ogD 42 39 true (.mov (tD 9)),ogD 43 39 true (.iaddr 2 (tD 41) (tD 42)),ogD 44 39 true (.load true 2 (tD 43)),ogD 45 39 true (.load true 2 (tD 4)),(⟨(some 46),(some (39,true)),(.callv (tD 40) [(tD 44),(tD 45)])⟩,(.ent (e162 fu))),ogD 47 39 true (.bin .eql (tD 46) (cD 0)),opD 48 (.pick (tD 39) (tD 47) (.const vB)),mvD 6 35,mvD 7 48] [[],[],[],[1,2],[3],[4],[4],[4],[6,7,4],[8,4],[4],[5,9,10,4,4],[11,4],[4,12],[0,11,0],[13,14,0,1,2,3,4,5,6,7,8,9,10,11,12,13,14]] true) .ret)))))
theorem g169 (fu:Nat):(e169 fu).Good Tryz.prog := Q0c Q0d Tryz.func169 fu (d169 fu) rs169 49 (l := [e162 fu,e162 fu]) ⟨g162 fu,g162 fu,trivial⟩
def rs161:List RVx := [(.tmp 6)]
def p161 (fu:Nat):(List (D_runtime_errorAddressString))×((ByteArray×(Int×Unit))×((Unit×Unit)×Unit))→Option (Unit×(List (D_runtime_errorAddressString))) := fun ⟨a,⟨c,f,_⟩,⟨_,_⟩,_⟩ =>
Option.bind (p169 fu (a,(c,f,()),((),()),())) fun ⟨_,⟨h,i,_⟩⟩ =>
Option.bind (p112 fu (a,())) fun ⟨_,j⟩ =>
bif i then
 bif decide ((0:Int)≤h∧h<(j.length:Int)) then
 bif decide (h.toNat<j.length) then
 bif decide (j.length=List.length (List.set j (h.toNat) (c,f))) then
 some ((),(List.set j (h.toNat) (c,f)))
 else none
 else none
 else none
else
 bif eqL j then
 Option.bind (pInsertC fu (j,h,[(c,f)],())) fun ⟨⟨_,_,_⟩,k⟩ =>
 bif eqL k then
 some ((),k)
 else none
 else none
def e161 (fu:Nat):Ent := ⟨161,(.cons (.hole (.sl T_runtime_errorAddressString)) (.cons (.agg 2 (.cons hT (.cons hU .nil))) (.cons (.clo 162 0 .nil 0 .nil) .nil))),.nil,(.own .own 79 T_runtime_errorAddressString),p161 fu⟩
def d161 (fu:Nat):DC := (.seq (.region [opD 4 (.box 79 2 (tD 1)),opD 6 (.mov (.const vS))] [[],[]] false) (.seq (.region [mvD 11 0,opD 12 (.load true 2 (tD 4)),mvD 13 2,oqD 14 (.call 169 [(tD 11),(tD 12),(tD 13)]) (.ent (e169 fu)),mvD 10 14,opD 15 (.ext (tD 10) 0),opD 16 (.ext (tD 10) 1),mvD 7 15,mvD 8 16] [[],[],[],[0,1,2],[3],[4],[4],[5,3,0,1,2,3,4,5],[6,7,0,1,2,3,4,5,6,7]] false) (.seq (.region [mvD 17 0,oqD 18 (.call 112 [(tD 17)]) (.ent (e112 fu)),mvD 9 18] [[],[0],[1,1,0,1]] false) (.seq (.seq (.region [mvD 19 8] [[]] false) (.cond (.tmp 19) (.seq (.region [mvD 20 9,mvD 21 7,opD 22 (.load true 2 (tD 4)),opD 23 (.iaddr 2 (tD 20) (tD 21)),onD (.store 2 (tD 23) (tD 22))] [[],[],[],[0,1,0,1,2],[3,2,0,1,2]] false) (.seq (.region [mvD 24 9,mvD 6 24] [[],[0,0]] false) .ret)) .skip)) (.seq (.region [mvD 25 9,mvD 26 7,opD 27 (.load true 2 (tD 4)),oqD 28 (.bslice 79 2 1 [vT,vU] [(0,(tD 27))]) (.ty T_runtime_errorAddressString),oqD 29 (.call 170 [(tD 25),(tD 26),(tD 28)]) (.ent (eInsertC fu)),mvD 6 29] [[],[],[],[2],[0,1,3],[4,4,0,1,2,3,4]] false) .ret)))))
theorem g161 (fu:Nat):(e161 fu).Good Tryz.prog := Q0c Q0d Tryz.func161 fu (d161 fu) rs161 30 (l := [e169 fu,e112 fu,eInsertC fu]) ⟨g169 fu,g112 fu,K8o fu,trivial⟩
def rs150:List RVx := [(.tmp 6),(.tmp 7)]
def p150 (fu:Nat):(List (D_runtime_errorAddressString))×((ByteArray×(Int×Unit))×(Int×Unit))→Option (Unit×((List (D_runtime_errorAddressString))×(Int×Unit))) := fun ⟨a,⟨c,f,_⟩,h,_⟩ =>
Option.bind (p39 fu (a,())) fun ⟨_,i⟩ =>
bif !i then
 some ((),([],(1:Int),()))
else
 Option.bind (p102 fu (c,())) fun ⟨_,j⟩ =>
 bif !j then
 some ((),([],(142:Int),()))
 else
 bif decide (f>h) then
 some ((),([],(141:Int),()))
 else
 Option.bind (p161 fu (a,(c,f,()),((),()),())) fun ⟨_,k⟩ =>
 bif decide (((k.length):Int)≤(64:Int)) then
 bif eqL k then
 some ((),(k,(0:Int),()))
 else none
 else
 some ((),([],(143:Int),()))
def e150 (fu:Nat):Ent := ⟨150,(.cons (.hole (.sl T_runtime_errorAddressString)) (.cons (.agg 2 (.cons hT (.cons hU .nil))) (.cons hU .nil))),.nil,(.tup 2 (.cons (.own .own 79 T_runtime_errorAddressString) (.cons hI .nil))),p150 fu⟩
def d150 (fu:Nat):DC := (.seq (.region [opD 4 (.box 79 2 (tD 1)),opD 6 (.mov (.const vS)),opD 7 (.mov (cD 0))] [[],[],[1]] false) (.seq (.block 0 (.seq (.region [mvD 10 0,oqD 11 (.call 39 [(tD 10)]) (.ent (e39 fu)),opD 12 (.not (tD 11)),mvD 9 12] [[],[0],[1],[2,1]] false) (.cond (.tmp 9) (.seq (.region [opD 6 (.mov (.const vS)),opD 7 (.mov (cD 1))] [[],[0,0]] false) .ret) (.seq (.region [fD 14 0 4,lD 15 1 14,oqD 16 (.call 102 [(tD 15)]) (.ent (e102 fu)),opD 17 (.not (tD 16)),mvD 13 17] [[],[0],[1],[2],[3,2]] false) (.cond (.tmp 13) (.seq (.region [opD 6 (.mov (.const vS)),opD 7 (.mov (cD 142))] [[],[0,0]] false) .ret) (.seq (.region [fD 19 1 4,lD 20 1 19,mvD 21 2,opD 22 (.bin .gtr (tD 20) (tD 21)),mvD 18 22] [[],[0],[],[1,2],[3]] false) (.cond (.tmp 18) (.seq (.region [opD 6 (.mov (.const vS)),opD 7 (.mov (cD 141))] [[],[0,0]] false) .ret) .skip))))))) (.seq (.seq (.region [mvD 23 0,opD 24 (.load true 2 (tD 4)),oqD 25 (.call 161 [(tD 23),(tD 24),(.func 162)]) (.ent (e161 fu)),mvD 8 25] [[],[],[0,1],[2,2,0,1,2]] false) (.seq (.region [mvD 26 8,opD 27 (.len false (tD 26)),opD 28 (.bin .leq (tD 27) (cD 64))] [[],[0],[1]] false) (.cond (.tmp 28) (.seq (.region [mvD 29 8,mvD 6 29,opD 7 (.mov (cD 0))] [[],[0,0],[1,0,1]] false) .ret) .skip))) (.seq (.region [opD 6 (.mov (.const vS)),opD 7 (.mov (cD 143))] [[],[0,0]] false) .ret))))
theorem g150 (fu:Nat):(e150 fu).Good Tryz.prog := Q0c Q0d Tryz.func150 fu (d150 fu) rs150 30 (l := [e39 fu,e102 fu,e161 fu]) ⟨g39 fu,g102 fu,g161 fu,trivial⟩
def rs151:List RVx := [(.tmp 6),(.tmp 7)]
def p151 (fu:Nat):(List (D_api_Producer))×(Int×(Int×Unit))→Option (Unit×((List (D_api_Producer))×(Int×Unit))) := fun ⟨a,c,f,_⟩ =>
Option.bind (p160 fu (a,(c,f,false,(0:Int),()),())) fun ⟨_,⟨h,i,_⟩⟩ =>
bif eqL h then
 some ((),(h,i,()))
else none
def e151 (fu:Nat):Ent := ⟨151,(.cons (.hole (.sl T_api_Producer)) (.cons hU (.cons hU .nil))),.nil,(.tup 2 (.cons (.own .own 77 T_api_Producer) (.cons hI .nil))),p151 fu⟩
def d151 (fu:Nat):DC := (.seq (.region [opD 6 (.mov (.const vS)),opD 7 (.mov (cD 0))] [[],[0]] false) (.seq (.region [mvD 8 0,mvD 9 1,mvD 10 2,opD 11 (.build 4 [vU,vU,vB,vU] [(0,(1,(tD 9))),(1,(1,(tD 10)))]),oqD 12 (.call 160 [(tD 8),(tD 11)]) (.ent (e160 fu)),opD 13 (.ext (tD 12) 0),opD 14 (.ext (tD 12) 1),mvD 6 13,mvD 7 14] [[],[],[],[1,2],[0,3],[4],[4],[5,4,0,1,2,3,4,5,6],[6,7,0,1,2,3,4,5,6,7]] false) .ret))
theorem g151 (fu:Nat):(e151 fu).Good Tryz.prog := Q0c Q0d Tryz.func151 fu (d151 fu) rs151 15 (l := [e160 fu]) ⟨g160 fu,trivial⟩
def rs117:List RVx := [(.tmp 2)]
def p117 (fu:Nat):(Z0)×Unit→Option (((Z0)×(Unit×(Unit×(Unit×Unit))))×(Bool×((ByteArray×(Int×Unit))×Unit))) := fun ⟨⟨a,c,f,h,i,j,k,l,m,n,o,q,s,t,u,w,x,y,z,a0,_,_⟩,_⟩ =>
bif eqL k then
 Option.bind (p150 fu (k,(w,t,()),IntKind.wrap .u64 ((i.length):Int),())) fun ⟨_,⟨c0,f0,_⟩⟩ =>
 bif (f0 != (0:Int)) then
 Option.bind (p113 fu ((⟨#[97,32,99,111,110,115,117,109,101,114]⟩:ByteArray),f0,())) fun ⟨_,⟨h0,⟨i0,j0,_⟩,_⟩⟩ =>
 bif eqL i then
 bif eqL j then
 bif eqL k then
 some (((a,c,f,h,i,j,k,l,m,n,o,q,s,t,u,w,x,y,z,a0,(),()),(),(),(),()),(h0,(i0,j0,()),()))
 else none
 else none
 else none
 else
 bif eqL j then
 Option.bind (p151 fu (j,n,o,())) fun ⟨_,⟨k0,l0,_⟩⟩ =>
 bif (l0 != (0:Int)) then
 Option.bind (p113 fu ((⟨#[97,32,112,114,111,100,117,99,101,114]⟩:ByteArray),l0,())) fun ⟨_,⟨m0,⟨n0,o0,_⟩,_⟩⟩ =>
 bif eqL i then
 bif eqL j then
 bif eqL k then
 some (((a,c,f,h,i,j,k,l,m,n,o,q,s,t,u,w,x,y,z,a0,(),()),(),(),(),()),(m0,(n0,o0,()),()))
 else none
 else none
 else none
 else
 bif eqL i then
 bif eqL k0 then
 bif eqL c0 then
 some (((a,c,f,h,i,k0,c0,l,m,n,o,q,s,t,u,w,x,y,t,a0,(),()),(),(),(),()),(false,dflt (.pair .str (.pair (.int .i64) .unit)),()))
 else none
 else none
 else none
 else none
else none
def e117 (fu:Nat):Ent := ⟨117,(.cons Y9 .nil),(.cons Y10 (.cons .dead (.cons .dead (.cons .dead .nil)))),(.alt true (.ifc 101 (.look (.cons hT (.cons hI .nil)))) (.nilv 1)),p117 fu⟩
def d117 (fu:Nat):DC := (.seq (.region [opD 2 (.mov (.const .nilIface))] [[]] false) (.seq (.region [mvD 7 0,nD 8 7,fD 9 7 8,opD 10 (.load true 10 (tD 9)),opD 3 (.alloc 44 10 [vI,vU,vU,vU,vT,vS,vU,vI,vT,vU]),onD (.store 10 (tD 3) (tD 10))] [[],[0],[1],[2],[],[4,3,0,1,2,3,4]] false) (.seq (.region [mvD 12 0,nD 13 12,fD 14 0 13,fD 15 6 14,lD 16 1 15,fD 17 8 3,lD 18 1 17,fD 19 6 3,lD 20 1 19,opD 21 (.build 2 [vT,vU] [(0,(1,(tD 18))),(1,(1,(tD 20)))]),mvD 22 0,nD 23 22,fD 24 0 23,fD 25 4 24,lD 26 1 25,opD 27 (.len false (tD 26)),opD 28 (.conv .u64 (tD 27)),oqD 29 (.call 150 [(tD 16),(tD 21),(tD 28)]) (.ent (e150 fu)),mvD 11 29,opD 30 (.ext (tD 11) 0),opD 31 (.ext (tD 11) 1),mvD 4 30,mvD 5 31] [[],[0],[1],[2],[3],[],[5],[],[7],[6,8],[],[10],[11],[12],[13],[14],[15],[4,9,16],[17],[18],[18],[19,17,0,1,2,3,4,5,6,7,8,9,10,11,12,13,14,15,16,17,18,19],[20,21,0,1,2,3,4,5,6,7,8,9,10,11,12,13,14,15,16,17,18,19,20,21]] true) (.seq (.seq (.region [mvD 32 5,opD 33 (.bin .neq (tD 32) (cD 0))] [[],[0]] false) (.cond (.tmp 33) (.seq (.region [mvD 34 5,oqD 35 (.call 113 [(.const (.string ⟨#[97,32,99,111,110,115,117,109,101,114]⟩)),(tD 34)]) (.ent (e113 fu)),mvD 2 35] [[],[0],[1,1,0,1]] false) .ret) .skip)) (.seq (.region [mvD 37 0,nD 38 37,fD 39 0 38,fD 40 5 39,lD 41 1 40,fD 42 2 3,lD 43 1 42,fD 44 3 3,lD 45 1 44,oqD 46 (.call 151 [(tD 41),(tD 43),(tD 45)]) (.ent (e151 fu)),mvD 36 46,opD 47 (.ext (tD 36) 0),opD 48 (.ext (tD 36) 1),mvD 6 47,mvD 5 48] [[],[0],[1],[2],[3],[],[5],[],[7],[4,6,8],[9],[10],[10],[11,9,0,1,2,3,4,5,6,7,8,9,10,11],[12,13,0,1,2,3,4,5,6,7,8,9,10,11,12,13]] true) (.seq (.seq (.region [mvD 49 5,opD 50 (.bin .neq (tD 49) (cD 0))] [[],[0]] false) (.cond (.tmp 50) (.seq (.region [mvD 51 5,oqD 52 (.call 113 [(.const (.string ⟨#[97,32,112,114,111,100,117,99,101,114]⟩)),(tD 51)]) (.ent (e113 fu)),mvD 2 52] [[],[0],[1,1,0,1]] false) .ret) .skip)) (.seq (.region [mvD 53 0,mvD 54 0,mvD 55 4,mvD 56 6,nD 57 53,fD 58 0 57,fD 59 6 58,onD (.store 1 (tD 59) (tD 55)),nD 60 54,fD 61 0 60,fD 62 5 61,onD (.store 1 (tD 62) (tD 56))] [[],[],[],[],[0,0,2],[4,0,2],[5,0,2],[6,2,0,2],[1,0,1,2,3,4,5,6,7],[8,0,1,2,3,4,5,6,7],[9,0,1,2,3,4,5,6,7],[10,3,7,0,1,2,3,4,5,6,7]] false) (.seq (.region [mvD 63 0,fD 64 6 3,lD 65 1 64,nD 66 63,fD 67 17 66,fD 68 1 67,onD (.store 1 (tD 68) (tD 65))] [[],[],[1],[0,0,1,2],[3,0,1,2],[4,0,1,2],[5,2,0,1,2]] false) (.seq (.region [opD 2 (.mov (.const .nilIface))] [[]] false) .ret)))))))))
theorem g117 (fu:Nat):(e117 fu).Good Tryz.prog := Q0c Q0d Tryz.func117 fu (d117 fu) rs117 69 (l := [e150 fu,e113 fu,e151 fu,e113 fu]) ⟨g150 fu,g113 fu,g151 fu,g113 fu,trivial⟩
def rs118:List RVx := [(.tmp 4),(.tmp 5)]
def p118 (fu:Nat):(List (D_runtime_errorAddressString))×(ByteArray×Unit)→Option (Unit×(Int×(Bool×Unit))) := fun ⟨a,c,_⟩ =>
loopO (S := (Int×Unit)×Unit) fu (fun ⟨⟨f,_⟩,_⟩ =>
 bif decide (f<(a.length:Int)) then
 bif decide ((0:Int)≤f∧f<(a.length:Int)) then
 bif decide (f.toNat<a.length) then
 bif ByteArray.toList ((a.getD (f.toNat) (dflt T_runtime_errorAddressString)).1)==ByteArray.toList c then
 inrO (some ((),((a.getD (f.toNat) (dflt T_runtime_errorAddressString)).2,true,())))
 else
 some (.inl ((IntKind.wrap .i64 (f+(1:Int)),()),()))
 else none
 else none
 else
 inrO (some ((),((0:Int),false,()))))
 (((0:Int),()),())
def e118 (fu:Nat):Ent := ⟨118,(.cons (.hole (.sl T_runtime_errorAddressString)) (.cons hT .nil)),.nil,(.tup 2 (.cons hU (.cons (.hole .bool) .nil))),p118 fu⟩
def d118 (_:Nat):DC := (.seq (.region [opD 4 (.mov (.const vU)),opD 5 (.mov (.const vB))] [[],[0]] false) (.seq (.seq (.region [mvD 8 0,opD 9 (.len false (tD 8)),opD 10 (.mov (cD 0))] [[],[0],[]] false) (.block 0 (.loop ⟨[10],(.cons hI .nil),[],.nil,[1,8,9],[]⟩
 (.seq (.region [opD 11 (.bin .lss (tD 10) (tD 9))] [[]] false) (.seq (.cond (.tmp 11) .skip (.exit 0)) (.seq (.block 1 (.seq (.region [opD 12 (.iaddr 2 (tD 8) (tD 10)),opD 13 (.load true 2 (tD 12)),opD 7 (.alloc 79 2 [vT,vU]),onD (.store 2 (tD 7) (tD 13))] [[],[0],[],[2,1,0,1,2]] false) (.seq (.region [fD 14 0 7,lD 15 1 14,mvD 16 1,opD 17 (.bin .eql (tD 15) (tD 16))] [[],[0],[],[1,2]] false) (.cond (.tmp 17) (.seq (.region [fD 18 1 7,lD 19 1 18,mvD 4 19,opD 5 (.mov (.const (.bool true)))] [[],[0],[1,0,1],[2,0,1,2]] false) .ret) .skip)))) (.region [opD 20 (.bin .add (tD 10) (cD 1)),mvD 10 20] [[],[0]] false))))))) (.seq (.region [opD 4 (.mov (.const vU)),opD 5 (.mov (.const vB))] [[],[0,0]] false) .ret)))
theorem g118 (fu:Nat):(e118 fu).Good Tryz.prog := Q0c Q0d Tryz.func118 fu (d118 fu) rs118 21 (l := []) trivial
def rs62:List RVx := [(.tmp 2)]
def p62 (fu:Nat):(Z0)×Unit→Option (((Z2)×(Unit×(Unit×(Unit×Unit))))×(Bool×((ByteArray×(Int×Unit))×(Bool×(Unit×Unit))))) := fun ⟨⟨a,c,f,h,i,j,k,l,m,n,o,q,s,t,u,w,x,y,z,a0,_,_⟩,_⟩ =>
Option.bind (p88 fu ((l,m,n,o,q,s,t,u,w,x,()),())) fun ⟨_,c0⟩ =>
bif !c0 then
 orK (E := ((Bool×((ByteArray×(Int×Unit))×Unit))×Unit)×Unit)
 (Option.bind (p113 fu ((⟨#[97,32,99,111,109,109,97,110,100,32,116,104,97,116,32,105,115,32,110,111,116,32,119,101,108,108,32,102,111,114,109,101,100]⟩:ByteArray),(161:Int),())) fun ⟨_,⟨f0,⟨h0,i0,_⟩,_⟩⟩ =>
 some (.inl (((f0,(h0,i0,()),()),()),())))
 fun ⟨⟨⟨j0,⟨k0,l0,_⟩,_⟩,_⟩,_⟩ =>
 bif j0 then
 bif eqL i then
 bif eqL j then
 bif eqL k then
 some (((a,c,f,h,i,j,k,l,m,n,o,q,s,t,u,w,x,y,z,a0,[],()),(),(),(),()),(true,(k0,l0,()),dflt (.pair .bool (.pair .unit .unit))))
 else none
 else none
 else none
 else
 bif eqL i then
 bif eqL j then
 bif eqL k then
 some (((a,c,f,h,i,j,k,l,m,n,o,q,s,t,u,w,x,y,z,a0,[],()),(),(),(),()),(false,dflt (.pair .str (.pair (.int .i64) .unit)),(true,(),dflt .unit)))
 else none
 else none
 else none
else
 bif (m != f) then
 orK (E := ((Bool×((ByteArray×(Int×Unit))×Unit))×Unit)×Unit)
 (Option.bind (p113 fu ((⟨#[97,110,111,116,104,101,114,32,101,112,111,99,104]⟩:ByteArray),(162:Int),())) fun ⟨_,⟨m0,⟨n0,o0,_⟩,_⟩⟩ =>
 some (.inl (((m0,(n0,o0,()),()),()),())))
 fun ⟨⟨⟨j0,⟨k0,l0,_⟩,_⟩,_⟩,_⟩ =>
 bif j0 then
 bif eqL i then
 bif eqL j then
 bif eqL k then
 some (((a,c,f,h,i,j,k,l,m,n,o,q,s,t,u,w,x,y,z,a0,[],()),(),(),(),()),(true,(k0,l0,()),dflt (.pair .bool (.pair .unit .unit))))
 else none
 else none
 else none
 else
 bif eqL i then
 bif eqL j then
 bif eqL k then
 some (((a,c,f,h,i,j,k,l,m,n,o,q,s,t,u,w,x,y,z,a0,[],()),(),(),(),()),(false,dflt (.pair .str (.pair (.int .i64) .unit)),(true,(),dflt .unit)))
 else none
 else none
 else none
 else
 orK (E := ((Bool×((ByteArray×(Int×Unit))×(Bool×(Unit×Unit))))×Unit)×((Z0)×Unit))
 (bif eqL i then
 bif eqL j then
 bif eqL k then
 Option.bind (p114 fu ((a,c,f,h,i,j,k,l,m,n,o,q,s,t,u,w,x,y,z,a0,(),()),())) fun ⟨⟨⟨q0,s0,t0,u0,w0,x0,y0,z0,a1,c1,f1,h1,i1,j1,k1,l1,m1,n1,o1,q1,_,_⟩,_,_,_,_⟩,⟨s1,⟨t1,u1,_⟩,⟨w1,_,_⟩⟩⟩ =>
 bif s1 then
 bif eqL w0 then
 bif eqL x0 then
 bif eqL y0 then
 some (.inl (((true,(t1,u1,()),dflt (.pair .bool (.pair .unit .unit))),()),((q0,s0,t0,u0,w0,x0,y0,z0,a1,c1,f1,h1,i1,j1,k1,l1,m1,n1,o1,q1,(),()),())))
 else none
 else none
 else none
 else
 bif w1 then
 bif eqL w0 then
 bif eqL x0 then
 bif eqL y0 then
 some (.inl (((false,dflt (.pair .str (.pair (.int .i64) .unit)),(true,(),dflt .unit)),()),((q0,s0,t0,u0,w0,x0,y0,z0,a1,c1,f1,h1,i1,j1,k1,l1,m1,n1,o1,q1,(),()),())))
 else none
 else none
 else none
 else
 bif eqL w0 then
 bif eqL x0 then
 bif eqL y0 then
 some (.inl (((false,dflt (.pair .str (.pair (.int .i64) .unit)),(false,dflt .unit,())),()),((q0,s0,t0,u0,w0,x0,y0,z0,a1,c1,f1,h1,i1,j1,k1,l1,m1,n1,o1,q1,(),()),())))
 else none
 else none
 else none
 else none
 else none
 else none)
 fun ⟨⟨⟨x1,⟨y1,z1,_⟩,⟨a2,_,_⟩⟩,_⟩,⟨⟨c2,f2,h2,i2,j2,k2,l2,m2,n2,o2,q2,s2,t2,u2,w2,x2,y2,z2,a3,c3,_,_⟩,_⟩⟩ =>
 bif x1 then
 bif eqL j2 then
 bif eqL k2 then
 bif eqL l2 then
 some (((c2,f2,h2,i2,j2,k2,l2,m2,n2,o2,q2,s2,t2,u2,w2,x2,y2,z2,a3,c3,[],()),(),(),(),()),(true,(y1,z1,()),dflt (.pair .bool (.pair .unit .unit))))
 else none
 else none
 else none
 else
 bif a2 then
 bif (m2==(1:Int)) then
 orK (E := ((Bool×((ByteArray×(Int×Unit))×Unit))×Unit)×((Z0)×Unit))
 (bif eqL j2 then
 bif eqL k2 then
 bif eqL l2 then
 Option.bind (p115 fu ((c2,f2,h2,i2,j2,k2,l2,m2,n2,o2,q2,s2,t2,u2,w2,x2,y2,z2,a3,c3,(),()),())) fun ⟨⟨⟨f3,h3,i3,j3,k3,l3,m3,n3,o3,q3,s3,t3,u3,w3,x3,y3,z3,a4,c4,f4,_,_⟩,_,_,_,_⟩,⟨h4,⟨i4,j4,_⟩,_⟩⟩ =>
 bif eqL l3 then
 bif eqL m3 then
 some (.inl (((h4,(i4,j4,()),()),()),((f3,h3,i3,j3,k3,l3,m3,n3,o3,q3,s3,t3,u3,w3,x3,y3,z3,a4,c4,f4,(),()),())))
 else none
 else none
 else none
 else none
 else none)
 fun ⟨⟨⟨j0,⟨k0,l0,_⟩,_⟩,_⟩,⟨⟨c2,f2,h2,i2,j2,k2,l2,m2,n2,o2,q2,s2,t2,u2,w2,x2,y2,z2,a3,c3,_,_⟩,_⟩⟩ =>
 bif j0 then
 bif eqL k2 then
 bif eqL l2 then
 some (((c2,f2,h2,i2,j2,k2,l2,m2,n2,o2,q2,s2,t2,u2,w2,x2,y2,z2,a3,c3,[],()),(),(),(),()),(true,(k0,l0,()),dflt (.pair .bool (.pair .unit .unit))))
 else none
 else none
 else
 bif eqL k2 then
 bif eqL l2 then
 some (((c2,f2,h2,i2,j2,k2,l2,m2,n2,o2,q2,s2,t2,u2,w2,x2,y2,z2,a3,c3,[],()),(),(),(),()),(false,dflt (.pair .str (.pair (.int .i64) .unit)),(true,(),dflt .unit)))
 else none
 else none
 else
 bif (m2==(2:Int)) then
 orK (E := ((Bool×((ByteArray×(Int×Unit))×Unit))×Unit)×((Z2)×Unit))
 (bif eqL j2 then
 bif eqL k2 then
 bif eqL l2 then
 Option.bind (p116 fu ((c2,f2,h2,i2,j2,k2,l2,m2,n2,o2,q2,s2,t2,u2,w2,x2,y2,z2,a3,c3,(),()),())) fun ⟨⟨⟨k4,l4,m4,n4,o4,q4,s4,t4,u4,w4,x4,y4,z4,a5,c5,f5,h5,i5,j5,k5,l5,_⟩,_,_,_,_⟩,⟨m5,⟨n5,o5,_⟩,_⟩⟩ =>
 bif eqL q4 then
 bif eqL s4 then
 bif eqL l5 then
 some (.inl (((m5,(n5,o5,()),()),()),((k4,l4,m4,n4,o4,q4,s4,t4,u4,w4,x4,y4,z4,a5,c5,f5,h5,i5,j5,k5,l5,()),())))
 else none
 else none
 else none
 else none
 else none
 else none)
 fun ⟨⟨⟨j0,⟨k0,l0,_⟩,_⟩,_⟩,⟨⟨c2,f2,h2,i2,j2,k2,l2,m2,n2,o2,q2,s2,t2,u2,w2,x2,y2,z2,a3,c3,q5,_⟩,_⟩⟩ =>
 bif j0 then
 bif eqL k2 then
 bif eqL l2 then
 bif eqL q5 then
 some (((c2,f2,h2,i2,j2,k2,l2,m2,n2,o2,q2,s2,t2,u2,w2,x2,y2,z2,a3,c3,q5,()),(),(),(),()),(true,(k0,l0,()),dflt (.pair .bool (.pair .unit .unit))))
 else none
 else none
 else none
 else
 bif eqL k2 then
 bif eqL l2 then
 bif eqL q5 then
 some (((c2,f2,h2,i2,j2,k2,l2,m2,n2,o2,q2,s2,t2,u2,w2,x2,y2,z2,a3,c3,q5,()),(),(),(),()),(false,dflt (.pair .str (.pair (.int .i64) .unit)),(true,(),dflt .unit)))
 else none
 else none
 else none
 else
 bif (m2==(3:Int)) then
 orK (E := ((Bool×((ByteArray×(Int×Unit))×Unit))×Unit)×((Z0)×Unit))
 (bif eqL j2 then
 bif eqL k2 then
 bif eqL l2 then
 Option.bind (p117 fu ((c2,f2,h2,i2,j2,k2,l2,m2,n2,o2,q2,s2,t2,u2,w2,x2,y2,z2,a3,c3,(),()),())) fun ⟨⟨⟨s5,t5,u5,w5,x5,y5,z5,a6,c6,f6,h6,i6,j6,k6,l6,m6,n6,o6,q6,s6,_,_⟩,_,_,_,_⟩,⟨t6,⟨u6,w6,_⟩,_⟩⟩ =>
 bif eqL x5 then
 bif eqL y5 then
 bif eqL z5 then
 some (.inl (((t6,(u6,w6,()),()),()),((s5,t5,u5,w5,x5,y5,z5,a6,c6,f6,h6,i6,j6,k6,l6,m6,n6,o6,q6,s6,(),()),())))
 else none
 else none
 else none
 else none
 else none
 else none)
 fun ⟨⟨⟨j0,⟨k0,l0,_⟩,_⟩,_⟩,⟨⟨c2,f2,h2,i2,j2,k2,l2,m2,n2,o2,q2,s2,t2,u2,w2,x2,y2,z2,a3,c3,_,_⟩,_⟩⟩ =>
 bif j0 then
 bif eqL j2 then
 bif eqL k2 then
 bif eqL l2 then
 some (((c2,f2,h2,i2,j2,k2,l2,m2,n2,o2,q2,s2,t2,u2,w2,x2,y2,z2,a3,c3,[],()),(),(),(),()),(true,(k0,l0,()),dflt (.pair .bool (.pair .unit .unit))))
 else none
 else none
 else none
 else
 bif eqL j2 then
 bif eqL k2 then
 bif eqL l2 then
 some (((c2,f2,h2,i2,j2,k2,l2,m2,n2,o2,q2,s2,t2,u2,w2,x2,y2,z2,a3,c3,[],()),(),(),(),()),(false,dflt (.pair .str (.pair (.int .i64) .unit)),(true,(),dflt .unit)))
 else none
 else none
 else none
 else
 bif (m2==(4:Int)) then
 bif eqL l2 then
 Option.bind (p118 fu (l2,x2,())) fun ⟨_,⟨x6,y6,_⟩⟩ =>
 bif eqL j2 then
 bif eqL k2 then
 bif eqL l2 then
 some (((c2,f2,h2,i2,j2,k2,l2,m2,n2,o2,q2,s2,t2,u2,w2,x2,y2,z2,x6,y6,[],()),(),(),(),()),(false,dflt (.pair .str (.pair (.int .i64) .unit)),(true,(),dflt .unit)))
 else none
 else none
 else none
 else none
 else
 bif (m2==(5:Int)) then
 bif eqL j2 then
 bif eqL k2 then
 bif eqL l2 then
 some (((c2,f2,h2,y2,j2,k2,l2,m2,n2,o2,q2,s2,t2,u2,w2,x2,y2,z2,a3,(i2 != (0:Int)),[],()),(),(),(),()),(false,dflt (.pair .str (.pair (.int .i64) .unit)),(true,(),dflt .unit)))
 else none
 else none
 else none
 else
 bif (m2==(6:Int)) then
 bif eqL j2 then
 bif eqL k2 then
 bif eqL l2 then
 some (((c2,f2,h2,(0:Int),j2,k2,l2,m2,n2,o2,q2,s2,t2,u2,w2,x2,y2,z2,a3,(i2==(0:Int)),[],()),(),(),(),()),(false,dflt (.pair .str (.pair (.int .i64) .unit)),(true,(),dflt .unit)))
 else none
 else none
 else none
 else
 bif eqL j2 then
 bif eqL k2 then
 bif eqL l2 then
 some (((c2,f2,h2,i2,j2,k2,l2,m2,n2,o2,q2,s2,t2,u2,w2,x2,y2,z2,a3,c3,[],()),(),(),(),()),(false,dflt (.pair .str (.pair (.int .i64) .unit)),(true,(),dflt .unit)))
 else none
 else none
 else none
 else
 bif eqL j2 then
 bif eqL k2 then
 bif eqL l2 then
 some (((c2,f2,h2,i2,j2,k2,l2,m2,n2,o2,q2,s2,t2,u2,w2,x2,y2,z2,a3,c3,[],()),(),(),(),()),(false,dflt (.pair .str (.pair (.int .i64) .unit)),(false,dflt .unit,())))
 else none
 else none
 else none
def e62 (fu:Nat):Ent := ⟨62,(.cons Y9 .nil),(.cons Y13 (.cons .dead (.cons .dead (.cons .dead .nil)))),(.alt false (.ifc 101 (.look (.cons hT (.cons hI .nil)))) (.alt false (.nilv 1) (.cst 0 227))),p62 fu⟩
def d62 (fu:Nat):DC := (.seq (.region [opD 2 (.mov (.const .nilIface))] [[]] false) (.seq (.seq (.region [mvD 4 0,nD 5 4,fD 6 7 5,opD 7 (.load true 10 (tD 6)),oqD 8 (.call 88 [(tD 7)]) (.ent (e88 fu)),opD 9 (.not (tD 8))] [[],[0],[1],[2],[3],[4]] false) (.cond (.tmp 9) (.join ⟨[2],(.cons (.alt false (.ifc 101 (.look (.cons hT (.cons hI .nil)))) (.nilv 1)) .nil),[],.nil,[],[0,1,2,3,5,6,7]⟩
 (.region [oqD 10 (.call 113 [(.const (.string ⟨#[97,32,99,111,109,109,97,110,100,32,116,104,97,116,32,105,115,32,110,111,116,32,119,101,108,108,32,102,111,114,109,101,100]⟩)),(cD 161)]) (.ent (e113 fu)),mvD 2 10] [[],[0,0,0]] false)
 .ret) .skip)) (.seq (.seq (.region [mvD 11 0,nD 12 11,fD 13 7 12,fD 14 1 13,lD 15 1 14,mvD 16 0,nD 17 16,fD 18 0 17,fD 19 2 18,lD 20 1 19,opD 21 (.bin .neq (tD 15) (tD 20))] [[],[0],[1],[2],[3],[],[5],[6],[7],[8],[4,9]] true) (.cond (.tmp 21) (.join ⟨[2],(.cons (.alt false (.ifc 101 (.look (.cons hT (.cons hI .nil)))) (.nilv 1)) .nil),[],.nil,[],[0,1,2,3,5,6,7]⟩
 (.region [oqD 22 (.call 113 [(.const (.string ⟨#[97,110,111,116,104,101,114,32,101,112,111,99,104]⟩)),(cD 162)]) (.ent (e113 fu)),mvD 2 22] [[],[0,0,0]] false)
 .ret) .skip)) (.seq (.join ⟨[3],(.cons (.alt false (.ifc 101 (.look (.cons hT (.cons hI .nil)))) (.alt false (.nilv 1) (.cst 0 227))) .nil),[(0,97,21)],(.cons Y10 .nil),[0],[1,2,3]⟩
 (.region [mvD 23 0,oqD 24 (.call 114 [(tD 23)]) (.ent (e114 fu)),mvD 3 24] [[],[0],[1,1,0,1]] false)
 (.seq (.region [mvD 25 3,opD 26 (.pure (.nilq 1 true) [(tD 25)])] [[],[0]] false) (.cond (.tmp 26) (.seq (.region [mvD 27 3,mvD 2 27] [[],[0,0]] false) .ret) .skip))) (.seq (.seq (.region [mvD 28 0,nD 29 28,fD 30 7 29,fD 31 0 30,lD 32 1 31] [[],[0],[1],[2],[3]] false) (.block 0 (.seq (.region [opD 34 (.bin .eql (tD 32) (cD 1)),mvD 33 34] [[],[0]] false) (.cond (.tmp 33) (.join ⟨[2],(.cons (.alt false (.ifc 101 (.look (.cons hT (.cons hI .nil)))) (.nilv 1)) .nil),[(0,97,21)],(.cons Y12 .nil),[],[1,2,3]⟩
 (.region [mvD 35 0,oqD 36 (.call 115 [(tD 35)]) (.ent (e115 fu)),mvD 2 36] [[],[0],[1,1,0,1]] false)
 .ret) (.seq (.region [opD 38 (.bin .eql (tD 32) (cD 2)),mvD 37 38] [[],[0]] false) (.cond (.tmp 37) (.join ⟨[2],(.cons (.alt false (.ifc 101 (.look (.cons hT (.cons hI .nil)))) (.nilv 1)) .nil),[(0,97,21)],(.cons Y13 .nil),[],[1,2,3]⟩
 (.region [mvD 39 0,oqD 40 (.call 116 [(tD 39)]) (.ent (e116 fu)),mvD 2 40] [[],[0],[1,1,0,1]] false)
 .ret) (.seq (.region [opD 42 (.bin .eql (tD 32) (cD 3)),mvD 41 42] [[],[0]] false) (.cond (.tmp 41) (.join ⟨[2],(.cons (.alt false (.ifc 101 (.look (.cons hT (.cons hI .nil)))) (.nilv 1)) .nil),[(0,97,21)],(.cons Y10 .nil),[],[1,2,3]⟩
 (.region [mvD 43 0,oqD 44 (.call 117 [(tD 43)]) (.ent (e117 fu)),mvD 2 44] [[],[0],[1,1,0,1]] false)
 .ret) (.seq (.region [opD 46 (.bin .eql (tD 32) (cD 4)),mvD 45 46] [[],[0]] false) (.cond (.tmp 45) (.region [mvD 48 0,mvD 49 0,mvD 50 0,nD 51 50,fD 52 0 51,fD 53 6 52,lD 54 1 53,mvD 55 0,nD 56 55,fD 57 7 56,fD 58 8 57,lD 59 1 58,oqD 60 (.call 118 [(tD 54),(tD 59)]) (.ent (e118 fu)),mvD 47 60,opD 61 (.ext (tD 47) 0),opD 62 (.ext (tD 47) 1),nD 63 48,fD 64 17 63,fD 65 1 64,onD (.store 1 (tD 65) (tD 61)),nD 66 49,fD 67 17 66,fD 68 2 67,onD (.store 1 (tD 68) (tD 62))] [[],[],[],[2],[3],[4],[5],[],[7],[8],[9],[10],[6,11],[12],[13],[13],[0,0,2,3,4,5,6,7,8,9,10,11,12,13,14],[16,0,2,3,4,5,6,7,8,9,10,11,12,13,14],[17,0,2,3,4,5,6,7,8,9,10,11,12,13,14],[18,14,12,0,2,3,4,5,6,7,8,9,10,11,12,13,14],[1,0,1,2,3,4,5,6,7,8,9,10,11,12,13,14,15,16,17,18,19],[20,0,1,2,3,4,5,6,7,8,9,10,11,12,13,14,15,16,17,18,19],[21,0,1,2,3,4,5,6,7,8,9,10,11,12,13,14,15,16,17,18,19],[22,15,19,0,1,2,3,4,5,6,7,8,9,10,11,12,13,14,15,16,17,18,19]] true) (.seq (.region [opD 70 (.bin .eql (tD 32) (cD 5)),mvD 69 70] [[],[0]] false) (.cond (.tmp 69) (.seq (.region [mvD 71 0,mvD 72 0,nD 73 72,fD 74 0 73,fD 75 3 74,lD 76 1 75,opD 77 (.bin .neq (tD 76) (.const vU)),nD 78 71,fD 79 17 78,fD 80 2 79,onD (.store 1 (tD 80) (tD 77))] [[],[],[1],[2],[3],[4],[5],[0,0,1,2,3,4,5,6],[7,0,1,2,3,4,5,6],[8,0,1,2,3,4,5,6],[9,6,0,1,2,3,4,5,6]] false) (.region [mvD 81 0,mvD 82 0,nD 83 82,fD 84 7 83,fD 85 9 84,lD 86 1 85,nD 87 81,fD 88 0 87,fD 89 3 88,onD (.store 1 (tD 89) (tD 86))] [[],[],[1],[2],[3],[4],[0,0,1,2,3,4,5],[6,0,1,2,3,4,5],[7,0,1,2,3,4,5],[8,5,0,1,2,3,4,5]] false)) (.seq (.region [opD 91 (.bin .eql (tD 32) (cD 6)),mvD 90 91] [[],[0]] false) (.cond (.tmp 90) (.seq (.region [mvD 92 0,mvD 93 0,nD 94 93,fD 95 0 94,fD 96 3 95,lD 97 1 96,opD 98 (.bin .eql (tD 97) (.const vU)),nD 99 92,fD 100 17 99,fD 101 2 100,onD (.store 1 (tD 101) (tD 98))] [[],[],[1],[2],[3],[4],[5],[0,0,1,2,3,4,5,6],[7,0,1,2,3,4,5,6],[8,0,1,2,3,4,5,6],[9,6,0,1,2,3,4,5,6]] false) (.region [mvD 102 0,nD 103 102,fD 104 0 103,fD 105 3 104,onD (.store 1 (tD 105) (.const vU))] [[],[0,0],[1,0],[2,0],[3,0]] false)) .skip)))))))))))))) (.seq (.region [opD 2 (.mov (.const .nilIface))] [[]] false) .ret))))))
theorem g62 (fu:Nat):(e62 fu).Good Tryz.prog := Q0c Q0d Tryz.func62 fu (d62 fu) rs62 106 (l := [e88 fu,e113 fu,e113 fu,e114 fu,e115 fu,e116 fu,e117 fu,e118 fu]) ⟨g88 fu,g113 fu,g113 fu,g114 fu,g115 fu,g116 fu,g117 fu,g118 fu,trivial⟩
def rs14:List RVx := [(.cell 4 true 7),(.cell 5 true 4)]
def p14 (fu:Nat):(Z4)×((Z3)×Unit)→Option (Unit×((Z4)×((Int×(Int×(Bool×((List (D_api_Record))×Unit))))×Unit))) := fun ⟨⟨a,c,f,h,i,j,k,_⟩,⟨l,m,n,o,q,s,t,u,w,x,_⟩,_⟩ =>
Option.bind (p10 fu ((a,c,f,h,i,j,k,()),())) fun ⟨_,y⟩ =>
bif (y != (0:Int)) then
 some ((),(((⟨#[]⟩:ByteArray),(⟨#[]⟩:ByteArray),(0:Int),(0:Int),[],[],[],()),(y,(0:Int),false,[],()),()))
else
 Option.bind (p61 fu ((a,c,f,h,i,j,k,()),())) fun ⟨_,⟨z,a0,c0,f0,h0,i0,j0,_⟩⟩ =>
 orK (E := ((Bool×((ByteArray×(Int×Unit))×(Bool×(Unit×Unit))))×Unit)×((Z2)×Unit))
 (bif eqL h0 then
 bif eqL i0 then
 bif eqL j0 then
 Option.bind (p62 fu ((z,a0,c0,f0,h0,i0,j0,l,m,n,o,q,s,t,u,w,x,(0:Int),(0:Int),false,(),()),())) fun ⟨⟨⟨k0,l0,m0,n0,o0,q0,s0,t0,u0,w0,x0,y0,z0,a1,c1,f1,h1,i1,j1,k1,l1,_⟩,_,_,_,_⟩,⟨m1,⟨n1,o1,_⟩,⟨q1,_,_⟩⟩⟩ =>
 bif m1 then
 bif eqL q0 then
 bif eqL s0 then
 bif eqL l1 then
 some (.inl (((true,(n1,o1,()),dflt (.pair .bool (.pair .unit .unit))),()),((k0,l0,m0,n0,o0,q0,s0,t0,u0,w0,x0,y0,z0,a1,c1,f1,h1,i1,j1,k1,l1,()),())))
 else none
 else none
 else none
 else
 bif q1 then
 bif eqL q0 then
 bif eqL s0 then
 bif eqL l1 then
 some (.inl (((false,dflt (.pair .str (.pair (.int .i64) .unit)),(true,(),dflt .unit)),()),((k0,l0,m0,n0,o0,q0,s0,t0,u0,w0,x0,y0,z0,a1,c1,f1,h1,i1,j1,k1,l1,()),())))
 else none
 else none
 else none
 else
 bif eqL q0 then
 bif eqL s0 then
 bif eqL l1 then
 some (.inl (((false,dflt (.pair .str (.pair (.int .i64) .unit)),(false,dflt .unit,())),()),((k0,l0,m0,n0,o0,q0,s0,t0,u0,w0,x0,y0,z0,a1,c1,f1,h1,i1,j1,k1,l1,()),())))
 else none
 else none
 else none
 else none
 else none
 else none)
 fun ⟨⟨⟨s1,⟨t1,u1,_⟩,⟨w1,_,_⟩⟩,_⟩,⟨⟨x1,y1,z1,a2,c2,f2,h2,_,_,_,_,_,_,_,_,_,_,i2,j2,k2,l2,_⟩,_⟩⟩ =>
 bif s1 then
 orK (E := Unit×Unit)
 (orK (E := (Bool×Unit)×(((Bool×(Unit×(ByteArray×(Int×Unit))))×Unit)×Unit))
 (Option.bind (pIs fu ((false,dflt .unit,(true,(t1,u1,()),dflt .unit)),(),())) fun ⟨_,m2⟩ =>
 bif !m2 then
 Option.bind (pAsR fu ((false,dflt .unit,(true,(t1,u1,()),dflt .unit)),((),()),())) fun ⟨⟨⟨⟨n2,_,⟨o2,q2,_⟩⟩,_⟩,_⟩,s2⟩ =>
 bif n2 then
 some (.inl ((s2,()),(((true,(),dflt (.pair .str (.pair (.int .i64) .unit))),()),())))
 else
 some (.inl ((s2,()),(((false,dflt .unit,(o2,q2,())),()),())))
 else
 some (.inl ((false,()),(((true,(),dflt (.pair .str (.pair (.int .i64) .unit))),()),()))))
 fun ⟨⟨t2,_⟩,⟨⟨⟨u2,_,⟨_,w2,_⟩⟩,_⟩,_⟩⟩ =>
 bif u2 then
 bif t2 then
 Option.bind (p61 fu ((a,c,f,h,i,j,k,()),())) fun ⟨_,⟨_,_,_,_,_,_,_,_⟩⟩ =>
 none
 else
 some (.inl ((),()))
 else
 bif t2 then
 Option.bind (p61 fu ((a,c,f,h,i,j,k,()),())) fun ⟨_,⟨x2,y2,z2,a3,c3,f3,h3,_⟩⟩ =>
 inrO (bif eqL c3 then
 bif eqL f3 then
 bif eqL h3 then
 some ((),((x2,y2,z2,a3,c3,f3,h3,()),(w2,(0:Int),false,[],()),()))
 else none
 else none
 else none)
 else
 some (.inl ((),())))
 fun ⟨_,_⟩ =>
 bif eqL f2 then
 bif eqL h2 then
 bif eqL l2 then
 some ((),((x1,y1,z1,a2,c2,f2,h2,()),(i2,j2,k2,l2,()),()))
 else none
 else none
 else none
 else
 bif w1 then
 orK (E := Unit×Unit)
 (orK (E := (Bool×Unit)×(((Bool×(Unit×(ByteArray×(Int×Unit))))×Unit)×Unit))
 (Option.bind (pIs fu ((true,(),dflt (.pair .bool (.pair (.pair .str (.pair (.int .i64) .unit)) .unit))),(),())) fun ⟨_,i3⟩ =>
 bif !i3 then
 Option.bind (pAsR fu ((true,(),dflt (.pair .bool (.pair (.pair .str (.pair (.int .i64) .unit)) .unit))),((),()),())) fun ⟨⟨⟨⟨j3,_,⟨k3,l3,_⟩⟩,_⟩,_⟩,m3⟩ =>
 bif j3 then
 some (.inl ((m3,()),(((true,(),dflt (.pair .str (.pair (.int .i64) .unit))),()),())))
 else
 some (.inl ((m3,()),(((false,dflt .unit,(k3,l3,())),()),())))
 else
 some (.inl ((false,()),(((true,(),dflt (.pair .str (.pair (.int .i64) .unit))),()),()))))
 fun ⟨⟨t2,_⟩,⟨⟨⟨u2,_,⟨_,w2,_⟩⟩,_⟩,_⟩⟩ =>
 bif u2 then
 bif t2 then
 Option.bind (p61 fu ((a,c,f,h,i,j,k,()),())) fun ⟨_,⟨_,_,_,_,_,_,_,_⟩⟩ =>
 none
 else
 some (.inl ((),()))
 else
 bif t2 then
 Option.bind (p61 fu ((a,c,f,h,i,j,k,()),())) fun ⟨_,⟨n3,o3,q3,s3,t3,u3,w3,_⟩⟩ =>
 inrO (bif eqL t3 then
 bif eqL u3 then
 bif eqL w3 then
 some ((),((n3,o3,q3,s3,t3,u3,w3,()),(w2,(0:Int),false,[],()),()))
 else none
 else none
 else none)
 else
 some (.inl ((),())))
 fun ⟨_,_⟩ =>
 bif eqL f2 then
 bif eqL h2 then
 bif eqL l2 then
 some ((),((x1,y1,z1,a2,c2,f2,h2,()),(i2,j2,k2,l2,()),()))
 else none
 else none
 else none
 else
 orK (E := Unit×Unit)
 (orK (E := (Bool×Unit)×(((Bool×(Unit×(ByteArray×(Int×Unit))))×Unit)×Unit))
 (Option.bind (pIs fu ((false,dflt .unit,(false,dflt (.pair .str (.pair (.int .i64) .unit)),())),(),())) fun ⟨_,x3⟩ =>
 bif !x3 then
 Option.bind (pAsR fu ((false,dflt .unit,(false,dflt (.pair .str (.pair (.int .i64) .unit)),())),((),()),())) fun ⟨⟨⟨⟨y3,_,⟨z3,a4,_⟩⟩,_⟩,_⟩,c4⟩ =>
 bif y3 then
 some (.inl ((c4,()),(((true,(),dflt (.pair .str (.pair (.int .i64) .unit))),()),())))
 else
 some (.inl ((c4,()),(((false,dflt .unit,(z3,a4,())),()),())))
 else
 some (.inl ((false,()),(((true,(),dflt (.pair .str (.pair (.int .i64) .unit))),()),()))))
 fun ⟨⟨t2,_⟩,⟨⟨⟨u2,_,⟨_,w2,_⟩⟩,_⟩,_⟩⟩ =>
 bif u2 then
 bif t2 then
 Option.bind (p61 fu ((a,c,f,h,i,j,k,()),())) fun ⟨_,⟨_,_,_,_,_,_,_,_⟩⟩ =>
 none
 else
 some (.inl ((),()))
 else
 bif t2 then
 Option.bind (p61 fu ((a,c,f,h,i,j,k,()),())) fun ⟨_,⟨f4,h4,i4,j4,k4,l4,m4,_⟩⟩ =>
 inrO (bif eqL k4 then
 bif eqL l4 then
 bif eqL m4 then
 some ((),((f4,h4,i4,j4,k4,l4,m4,()),(w2,(0:Int),false,[],()),()))
 else none
 else none
 else none)
 else
 some (.inl ((),())))
 fun ⟨_,_⟩ =>
 bif eqL f2 then
 bif eqL h2 then
 bif eqL l2 then
 some ((),((x1,y1,z1,a2,c2,f2,h2,()),(i2,j2,k2,l2,()),()))
 else none
 else none
 else none
def e14 (fu:Nat):Ent := ⟨14,(.cons Y6 (.cons Y7 .nil)),.nil,(.tup 2 (.cons Y14 (.cons Y15 .nil))),p14 fu⟩
def d14 (fu:Nat):DC := (.seq (.region [opD 2 (.box 29 7 (tD 0)),opD 3 (.box 44 10 (tD 1)),opD 4 (.alloc 29 7 [vT,vT,vU,vU,vS,vS,vS]),opD 5 (.alloc 39 4 [vI,vU,vB,vS])] [[],[],[],[]] false) (.seq (.seq (.region [opD 10 (.load true 7 (tD 2)),oqD 11 (.call 10 [(tD 10)]) (.ent (e10 fu)),mvD 6 11] [[],[0],[1,1,0,1]] false) (.seq (.region [mvD 12 6,opD 13 (.bin .neq (tD 12) (cD 0))] [[],[0]] false) (.cond (.tmp 13) (.seq (.region [opD 14 (.build 7 [vT,vT,vU,vU,vS,vS,vS] []),mvD 15 6,opD 16 (.build 4 [vI,vU,vB,vS] [(0,(1,(tD 15)))]),onD (.store 7 (tD 4) (tD 14)),onD (.store 4 (tD 5) (tD 16))] [[],[],[1],[0,0],[2,3,0,1,2,3]] false) .ret) .skip))) (.seq (.region [opD 17 (.load true 7 (tD 2)),oqD 18 (.call 61 [(tD 17)]) (.ent (e61 fu)),opD 19 (.load true 10 (tD 3)),opD 20 (.build 21 [vT,vT,vU,vU,vS,vS,vS,vI,vU,vU,vU,vT,vS,vU,vI,vT,vU,vI,vU,vB,vS] [(0,(7,(tD 18))),(7,(10,(tD 19)))]),opD 21 (.box 97 21 (tD 20)),mvD 7 21] [[],[0],[],[1,2],[3],[4,1,0,1,2,3,4]] true) (.join ⟨[8],(.cons (.alt false (.ifc 101 (.look (.cons hT (.cons hI .nil)))) (.alt false (.nilv 1) (.cst 0 227))) .nil),[(208,97,21)],(.cons Y13 .nil),[2,4,5,7],[0,32,48]⟩
 (.region [mvD 22 7,oqD 23 (.call 62 [(tD 22)]) (.ent (e62 fu)),mvD 8 23] [[],[0],[1,1,0,1]] false)
 (.seq (.region [opD 9 (.alloc 101 1 [(.pointer none)])] [[]] false) (.join ⟨[],.nil,[],.nil,[4,5,7],[32,48,208,240,241,242]⟩
 (.join ⟨[32],(.cons (.hole .bool) .nil),[(243,101,1)],(.cons (.agg 1 (.cons (.alt false .nilp (.look (.cons hT (.cons hI .nil)))) .nil)) .nil),[2,4,5,7,9],[0,32,48,208,240,241,242]⟩
 (.region [mvD 24 8,opD 25 (.load false 1 (.global 0)),oqD 26 (.call 63 [(tD 24),(tD 25)]) (.ent (eIs fu)),opD 27 (.not (tD 26)),mvD 28 27,ogD 29 28 true (.mov (tD 8)),ogD 30 28 true (.ifc 104 (tD 9)),(⟨(some 31),(some (28,true)),(.call 64 [(tD 29),(tD 30)])⟩,(.ent (eAsR fu))),opD 32 (.pick (tD 28) (tD 31) (.const vB))] [[],[],[0,1],[2],[3,2],[4],[4],[5,6,4,4],[4,7]] false)
 (.cond (.tmp 32) (.seq (.region [opD 33 (.load true 7 (tD 2)),oqD 34 (.call 61 [(tD 33)]) (.ent (e61 fu)),lD 35 1 9,nD 36 35,fD 37 1 36,lD 38 1 37,opD 39 (.build 4 [vI,vU,vB,vS] [(0,(1,(tD 38)))]),onD (.store 7 (tD 4) (tD 34)),onD (.store 4 (tD 5) (tD 39))] [[],[0],[],[2],[3],[4],[5],[1,1,0,1],[6,7,0,1,2,3,4,5,6,7]] true) .ret) .skip))
 (.seq (.region [mvD 40 7,nD 41 40,fD 42 0 41,opD 43 (.load true 7 (tD 42)),mvD 44 7,nD 45 44,fD 46 17 45,opD 47 (.load true 4 (tD 46)),onD (.store 7 (tD 4) (tD 43)),onD (.store 4 (tD 5) (tD 47))] [[],[0],[1],[2],[],[4],[5],[6],[3,0,1,2,3],[7,8,0,1,2,3,4,5,6,7,8]] true) .ret)))))))
theorem g14 (fu:Nat):(e14 fu).Good Tryz.prog := Q0c Q0d Tryz.func14 fu (d14 fu) rs14 48 (l := [e10 fu,e61 fu,e62 fu,eIs fu,eAsR fu,e61 fu]) ⟨g10 fu,g61 fu,g62 fu,gIs fu,gAsR fu,g61 fu,trivial⟩
def rs9:List RVx := [(.tmp 0)]
def p9 (fu:Nat):Unit→Option (Unit×Bool) := fun _ =>
Option.bind (p19 fu (((⟨#[]⟩:ByteArray),(⟨#[]⟩:ByteArray),()),(1:Int),())) fun ⟨_,⟨⟨a,c,f,h,i,j,k,_⟩,l,_⟩⟩ =>
Option.bind (p35 fu ((1:Int),(⟨#[107]⟩:ByteArray),())) fun ⟨_,⟨m,n,o,q,s,t,u,w,x,y,_⟩⟩ =>
Option.bind (p14 fu ((a,c,f,h,i,j,k,()),(m,n,o,q,s,t,u,w,x,y,()),())) fun ⟨_,⟨⟨z,a0,c0,f0,h0,i0,j0,_⟩,⟨k0,_,_,_,_⟩,_⟩⟩ =>
Option.bind (p35 fu ((1:Int),(⟨#[107]⟩:ByteArray),())) fun ⟨_,⟨l0,m0,n0,o0,q0,s0,t0,u0,w0,x0,_⟩⟩ =>
bif eqL i0 then
 bif eqL j0 then
 Option.bind (p14 fu ((z,a0,c0,f0,h0,i0,j0,()),(l0,m0,n0,o0,q0,s0,t0,u0,w0,x0,()),())) fun ⟨_,⟨⟨_,_,_,_,_,_,_,_⟩,⟨y0,_,z0,_,_⟩,_⟩⟩ =>
 bif (l==(0:Int)) then
 bif (k0==(0:Int)) then
 bif ((h0.length:Int)==(1:Int)) then
 bif z0 then
 some ((),(y0==(0:Int)))
 else
 some ((),false)
 else
 some ((),false)
 else
 some ((),false)
 else
 some ((),false)
 else none
else none
def e9 (fu:Nat):Ent := ⟨9,.nil,.nil,(.hole .bool),p9 fu⟩
def d9 (fu:Nat):DC := (.seq (.region [opD 0 (.mov (.const vB))] [[]] false) (.seq (.region [opD 8 (.build 2 [vT,vT] []),oqD 9 (.call 19 [(tD 8),(.const (.int .u64 1))]) (.ent (e19 fu)),mvD 7 9,opD 10 (.ext (tD 7) 0),opD 11 (.ext (tD 7) 1),opD 1 (.alloc 29 7 [vT,vT,vU,vU,vS,vS,vS]),onD (.store 7 (tD 1) (tD 10)),mvD 2 11] [[],[0],[1],[2],[2],[],[5,3,1,0,1,2,3,5],[4,6,0,1,2,3,4,5,6]] false) (.seq (.region [opD 13 (.load true 7 (tD 1)),oqD 14 (.call 35 [(.const (.int .u64 1)),(.const (.string ⟨#[107]⟩))]) (.ent (e35 fu)),oqD 15 (.call 14 [(tD 13),(tD 14)]) (.ent (e14 fu)),mvD 12 15,opD 16 (.ext (tD 12) 0),opD 17 (.ext (tD 12) 1),opD 3 (.alloc 29 7 [vT,vT,vU,vU,vS,vS,vS]),opD 4 (.alloc 39 4 [vI,vU,vB,vS]),onD (.store 7 (tD 3) (tD 16)),onD (.store 4 (tD 4) (tD 17))] [[],[],[0,1,1],[2],[3],[3],[],[],[6,4,2,0,1,2,3,4,6,7],[7,5,8,0,1,2,3,4,5,6,7,8]] true) (.seq (.region [opD 19 (.load true 7 (tD 3)),oqD 20 (.call 35 [(.const (.int .u64 1)),(.const (.string ⟨#[107]⟩))]) (.ent (e35 fu)),oqD 21 (.call 14 [(tD 19),(tD 20)]) (.ent (e14 fu)),mvD 18 21,opD 22 (.ext (tD 18) 0),opD 23 (.ext (tD 18) 1),opD 5 (.alloc 29 7 [vT,vT,vU,vU,vS,vS,vS]),opD 6 (.alloc 39 4 [vI,vU,vB,vS]),onD (.store 7 (tD 5) (tD 22)),onD (.store 4 (tD 6) (tD 23))] [[],[],[0,1,1],[2],[3],[3],[],[],[6,4,2,0,1,2,3,4,6,7],[7,5,8,0,1,2,3,4,5,6,7,8]] true) (.seq (.region [mvD 24 2,opD 25 (.bin .eql (tD 24) (cD 0)),mvD 26 25,ogD 27 26 true (.faddr 0 (tD 4)),ogD 28 26 true (.load false 1 (tD 27)),ogD 29 26 true (.bin .eql (tD 28) (cD 0)),opD 30 (.pick (tD 26) (tD 29) (.const vB)),mvD 31 30,ogD 32 31 true (.faddr 4 (tD 3)),ogD 33 31 true (.load false 1 (tD 32)),ogD 34 31 true (.len false (tD 33)),ogD 35 31 true (.bin .eql (tD 34) (cD 1)),opD 36 (.pick (tD 31) (tD 35) (.const vB)),mvD 37 36,ogD 38 37 true (.faddr 2 (tD 6)),ogD 39 37 true (.load false 1 (tD 38)),opD 40 (.pick (tD 37) (tD 39) (.const vB)),mvD 41 40,ogD 42 41 true (.faddr 0 (tD 6)),ogD 43 41 true (.load false 1 (tD 42)),ogD 44 41 true (.bin .eql (tD 43) (cD 0)),opD 45 (.pick (tD 41) (tD 44) (.const vB)),mvD 0 45] [[],[0],[1],[2],[3,2],[4,2],[2,5],[6,2],[7],[8,7],[9,7],[10,7],[7,11],[12,7],[13],[14,13],[13,15],[16,13],[17],[18,17],[19,17],[17,20],[21,17,0,1,2,3,4,5,6,7,8,9,10,11,12,13,14,15,16,17,18,19,20,21]] false) .ret)))))
theorem g9 (fu:Nat):(e9 fu).Good Tryz.prog := Q0c Q0d Tryz.func9 fu (d9 fu) rs9 46 (l := [e19 fu,e35 fu,e14 fu,e35 fu,e14 fu]) ⟨g19 fu,g35 fu,g14 fu,g35 fu,g14 fu,trivial⟩
def rs74:List RVx := []
def p74 (fu:Nat):(Unit×Unit)×(Int×Unit)→Option ((((List Int)×Unit)×Unit)×Unit) := fun ⟨⟨_,_⟩,a,_⟩ =>
loopO (S := (Int×Unit)×(((List Int)×Unit)×Unit)) fu (fun ⟨⟨c,_⟩,⟨⟨f,_⟩,_⟩⟩ =>
 bif decide (c≥(128:Int)) then
 bif eqL f then
 bif decide (f.length+List.length ([IntKind.wrap .u8 ((BitVec.ofInt (IntKind.bits .u8) (IntKind.wrap .u8 c) ||| BitVec.ofInt (IntKind.bits .u8) (128:Int)).toNat:Int)])≤maxLen∧(f.length+List.length ([IntKind.wrap .u8 ((BitVec.ofInt (IntKind.bits .u8) (IntKind.wrap .u8 c) ||| BitVec.ofInt (IntKind.bits .u8) (128:Int)).toNat:Int)])) * 1≤140737488355328) then
 bif eqL (f ++ [IntKind.wrap .u8 ((BitVec.ofInt (IntKind.bits .u8) (IntKind.wrap .u8 c) ||| BitVec.ofInt (IntKind.bits .u8) (128:Int)).toNat:Int)]) then
 some (.inl ((Int.fdiv c (2 ^ (min (Int.toNat (7:Int)) (IntKind.bits .u64))),()),(((f ++ [IntKind.wrap .u8 ((BitVec.ofInt (IntKind.bits .u8) (IntKind.wrap .u8 c) ||| BitVec.ofInt (IntKind.bits .u8) (128:Int)).toNat:Int)]),()),())))
 else none
 else none
 else none
 else
 inrO (bif eqL f then
 bif decide (f.length+List.length ([IntKind.wrap .u8 c])≤maxLen∧(f.length+List.length ([IntKind.wrap .u8 c])) * 1≤140737488355328) then
 bif eqL (f ++ [IntKind.wrap .u8 c]) then
 some ((((f ++ [IntKind.wrap .u8 c]),()),()),())
 else none
 else none
 else none))
 ((a,()),(([],()),()))
def e74 (fu:Nat):Ent := ⟨74,(.cons (.box 117 1 (.cons .nils .nil)) (.cons hU .nil)),(.cons (.agg 1 (.cons (.own .own 5 (.int .u8)) .nil)) .nil),(.tup 0 .nil),p74 fu⟩
def d74 (_:Nat):DC := (.seq (.block 0 (.loop ⟨[1],(.cons hU .nil),[(0,117,1)],(.cons (.agg 1 (.cons (.own .own 5 (.int .u8)) .nil)) .nil),[0],[]⟩
 (.seq (.seq (.region [mvD 4 1,opD 5 (.bin .geq (tD 4) (.const (.int .u64 128)))] [[],[0]] false) (.cond (.tmp 5) .skip (.exit 0))) (.block 1 (.seq (.region [mvD 6 0,mvD 7 0,nD 8 7,fD 9 0 8,lD 10 1 9,mvD 11 1,opD 12 (.conv .u8 (tD 11)),opD 13 (.bin .or (tD 12) (.const (.int .u8 128))),oqD 14 (.bslice 5 1 1 [(.int .u8 0)] [(0,(tD 13))]) (.ty (.int .u8)),oqD 15 (.app 5 1 [(.int .u8 0)] 1 (tD 10) (tD 14)) (.ty (.int .u8)),nD 16 6,fD 17 0 16,onD (.store 1 (tD 17) (tD 15))] [[],[],[1],[2],[3],[],[5],[6],[7],[4,8],[0,0,1,2,3,4,5,6,7,8,9],[10,0,1,2,3,4,5,6,7,8,9],[11,9,9,0,1,2,3,4,5,6,7,8,9]] false) (.region [mvD 18 1,opD 19 (.bin .shr (tD 18) (.const (.int .u64 7))),mvD 1 19] [[],[0],[1,0,1]] false)))))) (.region [mvD 20 0,mvD 21 0,nD 22 21,fD 23 0 22,lD 24 1 23,mvD 25 1,opD 26 (.conv .u8 (tD 25)),oqD 27 (.bslice 5 1 1 [(.int .u8 0)] [(0,(tD 26))]) (.ty (.int .u8)),oqD 28 (.app 5 1 [(.int .u8 0)] 1 (tD 24) (tD 27)) (.ty (.int .u8)),nD 29 20,fD 30 0 29,onD (.store 1 (tD 30) (tD 28))] [[],[],[1],[2],[3],[],[5],[6],[4,7],[0,0,1,2,3,4,5,6,7,8],[9,0,1,2,3,4,5,6,7,8],[10,8,8,0,1,2,3,4,5,6,7,8]] false))
theorem g74 (fu:Nat):(e74 fu).Good Tryz.prog := Q0c Q0d Tryz.func74 fu (d74 fu) rs74 31 (l := []) trivial
def rs73:List RVx := []
def p73 (fu:Nat):(Unit×Unit)×(Int×Unit)→Option ((((List Int)×Unit)×Unit)×Unit) := fun ⟨⟨_,_⟩,a,_⟩ =>
Option.bind (p74 fu (((),()),IntKind.wrap .u64 ((BitVec.ofInt (IntKind.bits .u64) (IntKind.wrap .u64 ((IntKind.wrap .u64 a) * 2 ^ (min (Int.toNat (1:Int)) (IntKind.bits .u64)))) ^^^ BitVec.ofInt (IntKind.bits .u64) (IntKind.wrap .u64 (Int.fdiv a (2 ^ (min (Int.toNat (63:Int)) (IntKind.bits .i64)))))).toNat:Int),())) fun ⟨⟨⟨c,_⟩,_⟩,_⟩ =>
bif eqL c then
 some (((c,()),()),())
else none
def e73 (fu:Nat):Ent := ⟨73,(.cons (.box 117 1 (.cons .nils .nil)) (.cons hI .nil)),(.cons (.agg 1 (.cons (.own .own 5 (.int .u8)) .nil)) .nil),(.tup 0 .nil),p73 fu⟩
def d73 (fu:Nat):DC := (.region [mvD 4 0,mvD 5 1,opD 6 (.conv .u64 (tD 5)),opD 7 (.bin .shl (tD 6) (.const (.int .u64 1))),mvD 8 1,opD 9 (.bin .shr (tD 8) (.const (.int .u64 63))),opD 10 (.conv .u64 (tD 9)),opD 11 (.bin .xor (tD 7) (tD 10)),oqD 12 (.call 74 [(tD 4),(tD 11)]) (.ent (e74 fu))] [[],[],[1],[2],[],[4],[5],[3,6],[0,7]] false)
theorem g73 (fu:Nat):(e73 fu).Good Tryz.prog := Q0c Q0d Tryz.func73 fu (d73 fu) rs73 13 (l := [e74 fu]) ⟨g74 fu,trivial⟩
def p74_1 (fu:Nat):((List Int)×Unit)×(Int×Unit)→Option ((((List Int)×Unit)×(Unit×Unit))×Unit) := fun ⟨⟨a,_⟩,c,_⟩ =>
bif eqL a then
 loopO (S := (Int×Unit)×(((List Int)×Unit)×Unit)) fu (fun ⟨⟨f,_⟩,⟨⟨h,_⟩,_⟩⟩ =>
 bif decide (f≥(128:Int)) then
 bif eqL h then
 bif decide (h.length+List.length ([IntKind.wrap .u8 ((BitVec.ofInt (IntKind.bits .u8) (IntKind.wrap .u8 f) ||| BitVec.ofInt (IntKind.bits .u8) (128:Int)).toNat:Int)])≤maxLen∧(h.length+List.length ([IntKind.wrap .u8 ((BitVec.ofInt (IntKind.bits .u8) (IntKind.wrap .u8 f) ||| BitVec.ofInt (IntKind.bits .u8) (128:Int)).toNat:Int)])) * 1≤140737488355328) then
 bif eqL (h ++ [IntKind.wrap .u8 ((BitVec.ofInt (IntKind.bits .u8) (IntKind.wrap .u8 f) ||| BitVec.ofInt (IntKind.bits .u8) (128:Int)).toNat:Int)]) then
 some (.inl ((Int.fdiv f (2 ^ (min (Int.toNat (7:Int)) (IntKind.bits .u64))),()),(((h ++ [IntKind.wrap .u8 ((BitVec.ofInt (IntKind.bits .u8) (IntKind.wrap .u8 f) ||| BitVec.ofInt (IntKind.bits .u8) (128:Int)).toNat:Int)]),()),())))
 else none
 else none
 else none
 else
 inrO (bif eqL h then
 bif decide (h.length+List.length ([IntKind.wrap .u8 f])≤maxLen∧(h.length+List.length ([IntKind.wrap .u8 f])) * 1≤140737488355328) then
 bif eqL (h ++ [IntKind.wrap .u8 f]) then
 some ((((h ++ [IntKind.wrap .u8 f]),()),(),()),())
 else none
 else none
 else none))
 ((c,()),((a,()),()))
else none
def e74_1 (fu:Nat):Ent := ⟨74,(.cons (.box 117 1 (.cons (.own .own 5 (.int .u8)) .nil)) (.cons hU .nil)),(.cons (.agg 1 (.cons (.own .own 5 (.int .u8)) .nil)) (.cons .dead .nil)),(.tup 0 .nil),p74_1 fu⟩
def d74_1 (_:Nat):DC := (.seq (.block 0 (.loop ⟨[1],(.cons hU .nil),[(0,117,1)],(.cons (.agg 1 (.cons (.own .own 5 (.int .u8)) .nil)) .nil),[0],[1]⟩
 (.seq (.seq (.region [mvD 4 1,opD 5 (.bin .geq (tD 4) (.const (.int .u64 128)))] [[],[0]] false) (.cond (.tmp 5) .skip (.exit 0))) (.block 1 (.seq (.region [mvD 6 0,mvD 7 0,nD 8 7,fD 9 0 8,lD 10 1 9,mvD 11 1,opD 12 (.conv .u8 (tD 11)),opD 13 (.bin .or (tD 12) (.const (.int .u8 128))),oqD 14 (.bslice 5 1 1 [(.int .u8 0)] [(0,(tD 13))]) (.ty (.int .u8)),oqD 15 (.app 5 1 [(.int .u8 0)] 1 (tD 10) (tD 14)) (.ty (.int .u8)),nD 16 6,fD 17 0 16,onD (.store 1 (tD 17) (tD 15))] [[],[],[1],[2],[3],[],[5],[6],[7],[4,8],[0,0,1,2,3,4,5,6,7,8,9],[10,0,1,2,3,4,5,6,7,8,9],[11,9,9,0,1,2,3,4,5,6,7,8,9]] false) (.region [mvD 18 1,opD 19 (.bin .shr (tD 18) (.const (.int .u64 7))),mvD 1 19] [[],[0],[1,0,1]] false)))))) (.region [mvD 20 0,mvD 21 0,nD 22 21,fD 23 0 22,lD 24 1 23,mvD 25 1,opD 26 (.conv .u8 (tD 25)),oqD 27 (.bslice 5 1 1 [(.int .u8 0)] [(0,(tD 26))]) (.ty (.int .u8)),oqD 28 (.app 5 1 [(.int .u8 0)] 1 (tD 24) (tD 27)) (.ty (.int .u8)),nD 29 20,fD 30 0 29,onD (.store 1 (tD 30) (tD 28))] [[],[],[1],[2],[3],[],[5],[6],[4,7],[0,0,1,2,3,4,5,6,7,8],[9,0,1,2,3,4,5,6,7,8],[10,8,8,0,1,2,3,4,5,6,7,8]] false))
theorem Q1d (fu:Nat):(e74_1 fu).Good Tryz.prog := Q0c Q0d Tryz.func74 fu (d74_1 fu) rs74 31 (l := []) trivial
def rs75:List RVx := []
def p75 (fu:Nat):((List Int)×Unit)×(ByteArray×Unit)→Option ((((List Int)×Unit)×(Unit×Unit))×Unit) := fun ⟨⟨a,_⟩,c,_⟩ =>
bif eqL a then
 Option.bind (p74_1 fu ((a,()),IntKind.wrap .u64 (ByteArray.size c:Int),())) fun ⟨⟨⟨f,_⟩,_,_⟩,_⟩ =>
 bif eqL f then
 bif decide (f.length+ByteArray.size c≤maxLen∧f.length+ByteArray.size c≤140737488355328) then
 bif eqL (f ++ numsOf c) then
 some ((((f ++ numsOf c),()),(),()),())
 else none
 else none
 else none
else none
def e75 (fu:Nat):Ent := ⟨75,(.cons (.box 117 1 (.cons (.own .own 5 (.int .u8)) .nil)) (.cons hT .nil)),(.cons (.agg 1 (.cons (.own .own 5 (.int .u8)) .nil)) (.cons .dead .nil)),(.tup 0 .nil),p75 fu⟩
def d75 (fu:Nat):DC := (.seq (.region [mvD 4 0,mvD 5 1,opD 6 (.len true (tD 5)),opD 7 (.conv .u64 (tD 6)),oqD 8 (.call 74 [(tD 4),(tD 7)]) (.ent (e74_1 fu))] [[],[],[1],[2],[0,3]] false) (.region [mvD 9 0,mvD 10 0,nD 11 10,fD 12 0 11,lD 13 1 12,mvD 14 1,opD 15 (.apps 5 (tD 13) (tD 14)),nD 16 9,fD 17 0 16,onD (.store 1 (tD 17) (tD 15))] [[],[],[1],[2],[3],[],[4,5],[0,0,1,2,3,4,5,6],[7,0,1,2,3,4,5,6],[8,6,6,0,1,2,3,4,5,6]] false))
theorem g75 (fu:Nat):(e75 fu).Good Tryz.prog := Q0c Q0d Tryz.func75 fu (d75 fu) rs75 18 (l := [e74_1 fu]) ⟨Q1d fu,trivial⟩
def rs76:List RVx := []
def p76 (fu:Nat):((List Int)×Unit)×((List Int)×Unit)→Option ((((List Int)×Unit)×(Unit×Unit))×Unit) := fun ⟨⟨a,_⟩,c,_⟩ =>
bif eqL a then
 Option.bind (p74_1 fu ((a,()),IntKind.wrap .u64 (c.length:Int),())) fun ⟨⟨⟨f,_⟩,_,_⟩,_⟩ =>
 bif eqL f then
 bif decide (f.length+c.length≤maxLen∧(f.length+c.length) * 1≤140737488355328) then
 bif eqL (f ++ c) then
 some ((((f ++ c),()),(),()),())
 else none
 else none
 else none
else none
def e76 (fu:Nat):Ent := ⟨76,(.cons (.box 117 1 (.cons (.own .own 5 (.int .u8)) .nil)) (.cons (.hole (.sl (.int .u8))) .nil)),(.cons (.agg 1 (.cons (.own .own 5 (.int .u8)) .nil)) (.cons .dead .nil)),(.tup 0 .nil),p76 fu⟩
def d76 (fu:Nat):DC := (.seq (.region [mvD 4 0,mvD 5 1,opD 6 (.len false (tD 5)),opD 7 (.conv .u64 (tD 6)),oqD 8 (.call 74 [(tD 4),(tD 7)]) (.ent (e74_1 fu))] [[],[],[1],[2],[0,3]] false) (.region [mvD 9 0,mvD 10 0,nD 11 10,fD 12 0 11,lD 13 1 12,mvD 14 1,oqD 15 (.app 5 1 [(.int .u8 0)] 1 (tD 13) (tD 14)) (.ty (.int .u8)),nD 16 9,fD 17 0 16,onD (.store 1 (tD 17) (tD 15))] [[],[],[1],[2],[3],[],[4,5],[0,0,1,2,3,4,5,6],[7,0,1,2,3,4,5,6],[8,6,6,0,1,2,3,4,5,6]] false))
theorem g76 (fu:Nat):(e76 fu).Good Tryz.prog := Q0c Q0d Tryz.func76 fu (d76 fu) rs76 18 (l := [e74_1 fu]) ⟨Q1d fu,trivial⟩
def rs77:List RVx := [(.tmp 2)]
def p77 (_:Nat):((List Int)×Unit)×Unit→Option (Unit×(List Int)) := fun ⟨⟨a,_⟩,_⟩ =>
bif decide (a.length≤maxLen∧a.length * 1≤140737488355328) then
 bif eqL a then
 some ((),a)
 else none
else none
def e77 (fu:Nat):Ent := ⟨77,(.cons (.look (.cons (.hole (.sl (.int .u8))) .nil)) .nil),.nil,(.own .own 5 (.int .u8)),p77 fu⟩
def d77 (_:Nat):DC := (.seq (.region [opD 2 (.mov (.const vS))] [[]] false) (.seq (.region [mvD 3 0,nD 4 3,fD 5 0 4,lD 6 1 5,oqD 7 (.app 5 1 [(.int .u8 0)] 1 (.const vS) (tD 6)) (.ty (.int .u8)),mvD 2 7] [[],[0],[1],[2],[3],[4,4,0,1,2,3,4]] false) .ret))
theorem g77 (fu:Nat):(e77 fu).Good Tryz.prog := Q0c Q0d Tryz.func77 fu (d77 fu) rs77 8 (l := []) trivial
def p73_1 (fu:Nat):((List Int)×Unit)×(Int×Unit)→Option ((((List Int)×Unit)×(Unit×Unit))×Unit) := fun ⟨⟨a,_⟩,c,_⟩ =>
bif eqL a then
 Option.bind (p74_1 fu ((a,()),IntKind.wrap .u64 ((BitVec.ofInt (IntKind.bits .u64) (IntKind.wrap .u64 ((IntKind.wrap .u64 c) * 2 ^ (min (Int.toNat (1:Int)) (IntKind.bits .u64)))) ^^^ BitVec.ofInt (IntKind.bits .u64) (IntKind.wrap .u64 (Int.fdiv c (2 ^ (min (Int.toNat (63:Int)) (IntKind.bits .i64)))))).toNat:Int),())) fun ⟨⟨⟨f,_⟩,_,_⟩,_⟩ =>
 bif eqL f then
 some (((f,()),(),()),())
 else none
else none
def e73_1 (fu:Nat):Ent := ⟨73,(.cons (.box 117 1 (.cons (.own .own 5 (.int .u8)) .nil)) (.cons hI .nil)),(.cons (.agg 1 (.cons (.own .own 5 (.int .u8)) .nil)) (.cons .dead .nil)),(.tup 0 .nil),p73_1 fu⟩
def d73_1 (fu:Nat):DC := (.region [mvD 4 0,mvD 5 1,opD 6 (.conv .u64 (tD 5)),opD 7 (.bin .shl (tD 6) (.const (.int .u64 1))),mvD 8 1,opD 9 (.bin .shr (tD 8) (.const (.int .u64 63))),opD 10 (.conv .u64 (tD 9)),opD 11 (.bin .xor (tD 7) (tD 10)),oqD 12 (.call 74 [(tD 4),(tD 11)]) (.ent (e74_1 fu))] [[],[],[1],[2],[],[4],[5],[3,6],[0,7]] false)
theorem K9j (fu:Nat):(e73_1 fu).Good Tryz.prog := Q0c Q0d Tryz.func73 fu (d73_1 fu) rs73 13 (l := [e74_1 fu]) ⟨Q1d fu,trivial⟩
def rs21:List RVx := [(.tmp 2)]
def p21 (fu:Nat):(Z3)×Unit→Option (Unit×(List Int)) := fun ⟨⟨a,c,f,h,i,j,k,l,m,n,_⟩,_⟩ =>
Option.bind (p73 fu (((),()),a,())) fun ⟨⟨⟨o,_⟩,_⟩,_⟩ =>
bif eqL o then
 Option.bind (p74_1 fu ((o,()),c,())) fun ⟨⟨⟨q,_⟩,_,_⟩,_⟩ =>
 bif (a==(1:Int)) then
 bif eqL q then
 Option.bind (p74_1 fu ((q,()),f,())) fun ⟨⟨⟨s,_⟩,_,_⟩,_⟩ =>
 bif eqL s then
 Option.bind (p74_1 fu ((s,()),h,())) fun ⟨⟨⟨t,_⟩,_,_⟩,_⟩ =>
 bif eqL t then
 Option.bind (p75 fu ((t,()),i,())) fun ⟨⟨⟨u,_⟩,_,_⟩,_⟩ =>
 bif eqL u then
 Option.bind (p76 fu ((u,()),j,())) fun ⟨⟨⟨w,_⟩,_,_⟩,_⟩ =>
 bif eqL w then
 Option.bind (p77 fu ((w,()),())) fun ⟨_,x⟩ =>
 bif eqL x then
 some ((),x)
 else none
 else none
 else none
 else none
 else none
 else none
 else
 bif (a==(2:Int)) then
 bif eqL q then
 Option.bind (p74_1 fu ((q,()),k,())) fun ⟨⟨⟨y,_⟩,_,_⟩,_⟩ =>
 bif eqL y then
 Option.bind (p73_1 fu ((y,()),l,())) fun ⟨⟨⟨z,_⟩,_,_⟩,_⟩ =>
 bif eqL z then
 Option.bind (p77 fu ((z,()),())) fun ⟨_,a0⟩ =>
 bif eqL a0 then
 some ((),a0)
 else none
 else none
 else none
 else none
 else
 bif (a==(3:Int)) then
 bif eqL q then
 Option.bind (p74_1 fu ((q,()),f,())) fun ⟨⟨⟨c0,_⟩,_,_⟩,_⟩ =>
 bif eqL c0 then
 Option.bind (p74_1 fu ((c0,()),h,())) fun ⟨⟨⟨f0,_⟩,_,_⟩,_⟩ =>
 bif eqL f0 then
 Option.bind (p75 fu ((f0,()),m,())) fun ⟨⟨⟨h0,_⟩,_,_⟩,_⟩ =>
 bif eqL h0 then
 Option.bind (p74_1 fu ((h0,()),k,())) fun ⟨⟨⟨i0,_⟩,_,_⟩,_⟩ =>
 bif eqL i0 then
 Option.bind (p77 fu ((i0,()),())) fun ⟨_,j0⟩ =>
 bif eqL j0 then
 some ((),j0)
 else none
 else none
 else none
 else none
 else none
 else none
 else
 bif (a==(4:Int)) then
 bif eqL q then
 Option.bind (p75 fu ((q,()),m,())) fun ⟨⟨⟨k0,_⟩,_,_⟩,_⟩ =>
 bif eqL k0 then
 Option.bind (p77 fu ((k0,()),())) fun ⟨_,l0⟩ =>
 bif eqL l0 then
 some ((),l0)
 else none
 else none
 else none
 else
 orK (E := (Bool×Unit)×Unit)
 (bif (a==(5:Int)) then
 some (.inl ((true,()),()))
 else
 some (.inl (((a==(6:Int)),()),())))
 fun ⟨⟨m0,_⟩,_⟩ =>
 bif m0 then
 bif eqL q then
 Option.bind (p74_1 fu ((q,()),n,())) fun ⟨⟨⟨n0,_⟩,_,_⟩,_⟩ =>
 bif eqL n0 then
 Option.bind (p77 fu ((n0,()),())) fun ⟨_,o0⟩ =>
 bif eqL o0 then
 some ((),o0)
 else none
 else none
 else none
 else
 some ((),[])
else none
def e21 (fu:Nat):Ent := ⟨21,(.cons Y7 .nil),.nil,(.own .own 5 (.int .u8)),p21 fu⟩
def d21 (fu:Nat):DC := (.seq (.region [opD 1 (.box 44 10 (tD 0)),opD 2 (.mov (.const vS))] [[],[]] false) (.seq (.region [opD 4 (.build 1 [vS] []),opD 5 (.box 117 1 (tD 4)),mvD 3 5] [[],[0],[1,0,1]] false) (.seq (.region [mvD 6 3,fD 7 0 1,lD 8 1 7,oqD 9 (.call 73 [(tD 6),(tD 8)]) (.ent (e73 fu))] [[],[],[1],[0,2]] false) (.seq (.region [mvD 10 3,fD 11 1 1,lD 12 1 11,oqD 13 (.call 74 [(tD 10),(tD 12)]) (.ent (e74_1 fu))] [[],[],[1],[0,2]] false) (.seq (.seq (.region [fD 14 0 1,lD 15 1 14] [[],[0]] false) (.block 0 (.seq (.region [opD 17 (.bin .eql (tD 15) (cD 1)),mvD 16 17] [[],[0]] false) (.cond (.tmp 16) (.seq (.region [mvD 18 3,fD 19 2 1,lD 20 1 19,oqD 21 (.call 74 [(tD 18),(tD 20)]) (.ent (e74_1 fu))] [[],[],[1],[0,2]] false) (.seq (.region [mvD 22 3,fD 23 3 1,lD 24 1 23,oqD 25 (.call 74 [(tD 22),(tD 24)]) (.ent (e74_1 fu))] [[],[],[1],[0,2]] false) (.seq (.region [mvD 26 3,fD 27 4 1,lD 28 1 27,oqD 29 (.call 75 [(tD 26),(tD 28)]) (.ent (e75 fu))] [[],[],[1],[0,2]] false) (.region [mvD 30 3,fD 31 5 1,lD 32 1 31,oqD 33 (.call 76 [(tD 30),(tD 32)]) (.ent (e76 fu))] [[],[],[1],[0,2]] false)))) (.seq (.region [opD 35 (.bin .eql (tD 15) (cD 2)),mvD 34 35] [[],[0]] false) (.cond (.tmp 34) (.seq (.region [mvD 36 3,fD 37 6 1,lD 38 1 37,oqD 39 (.call 74 [(tD 36),(tD 38)]) (.ent (e74_1 fu))] [[],[],[1],[0,2]] false) (.region [mvD 40 3,fD 41 7 1,lD 42 1 41,oqD 43 (.call 73 [(tD 40),(tD 42)]) (.ent (e73_1 fu))] [[],[],[1],[0,2]] false)) (.seq (.region [opD 45 (.bin .eql (tD 15) (cD 3)),mvD 44 45] [[],[0]] false) (.cond (.tmp 44) (.seq (.region [mvD 46 3,fD 47 2 1,lD 48 1 47,oqD 49 (.call 74 [(tD 46),(tD 48)]) (.ent (e74_1 fu))] [[],[],[1],[0,2]] false) (.seq (.region [mvD 50 3,fD 51 3 1,lD 52 1 51,oqD 53 (.call 74 [(tD 50),(tD 52)]) (.ent (e74_1 fu))] [[],[],[1],[0,2]] false) (.seq (.region [mvD 54 3,fD 55 8 1,lD 56 1 55,oqD 57 (.call 75 [(tD 54),(tD 56)]) (.ent (e75 fu))] [[],[],[1],[0,2]] false) (.region [mvD 58 3,fD 59 6 1,lD 60 1 59,oqD 61 (.call 74 [(tD 58),(tD 60)]) (.ent (e74_1 fu))] [[],[],[1],[0,2]] false)))) (.seq (.region [opD 63 (.bin .eql (tD 15) (cD 4)),mvD 62 63] [[],[0]] false) (.cond (.tmp 62) (.region [mvD 64 3,fD 65 8 1,lD 66 1 65,oqD 67 (.call 75 [(tD 64),(tD 66)]) (.ent (e75 fu))] [[],[],[1],[0,2]] false) (.join ⟨[68],(.cons (.hole .bool) .nil),[],.nil,[1,3],[0,48,192]⟩
 (.seq (.region [opD 69 (.bin .eql (tD 15) (cD 5)),mvD 68 69] [[],[0]] false) (.cond (.tmp 68) .skip (.region [opD 70 (.bin .eql (tD 15) (cD 6)),mvD 68 70] [[],[0]] false)))
 (.cond (.tmp 68) (.region [mvD 71 3,fD 72 9 1,lD 73 1 72,oqD 74 (.call 74 [(tD 71),(tD 73)]) (.ent (e74_1 fu))] [[],[],[1],[0,2]] false) (.seq (.region [opD 2 (.mov (.const vS))] [[]] false) .ret))))))))))))) (.seq (.region [mvD 75 3,oqD 76 (.call 77 [(tD 75)]) (.ent (e77 fu)),mvD 2 76] [[],[0],[1,1,0,1]] false) .ret))))))
theorem g21 (fu:Nat):(e21 fu).Good Tryz.prog := Q0c Q0d Tryz.func21 fu (d21 fu) rs21 77 (l := [e73 fu,e74_1 fu,e74_1 fu,e74_1 fu,e75 fu,e76 fu,e74_1 fu,e73_1 fu,e74_1 fu,e74_1 fu,e75 fu,e74_1 fu,e75 fu,e74_1 fu,e77 fu]) ⟨g73 fu,Q1d fu,Q1d fu,Q1d fu,g75 fu,g76 fu,Q1d fu,K9j fu,Q1d fu,Q1d fu,g75 fu,Q1d fu,g75 fu,Q1d fu,g77 fu,trivial⟩
def rs82:List RVx := [(.tmp 2)]
def p82 (_:Nat):(List Int)×Unit→Option (Unit×((List Int)×(Int×(Unit×Unit)))) := fun ⟨a,_⟩ =>
bif decide (a.length≤maxLen∧a.length * 1≤140737488355328) then
 bif eqL a then
 some ((),(a,(0:Int),(),()))
 else none
else none
def e82 (fu:Nat):Ent := ⟨82,(.cons (.hole (.sl (.int .u8))) .nil),.nil,(.box 176 3 (.cons (.own .own 5 (.int .u8)) (.cons hI (.cons (.nilv 1) .nil)))),p82 fu⟩
def d82 (_:Nat):DC := (.seq (.region [opD 2 (.mov (.const (.pointer none)))] [[]] false) (.seq (.region [mvD 3 0,oqD 4 (.app 5 1 [(.int .u8 0)] 1 (.const vS) (tD 3)) (.ty (.int .u8)),opD 5 (.build 3 [vS,vI,.nilIface] [(0,(1,(tD 4)))]),opD 6 (.box 176 3 (tD 5)),mvD 2 6] [[],[0],[1],[2],[3,1,0,1,2,3]] false) .ret))
theorem g82 (fu:Nat):(e82 fu).Good Tryz.prog := Q0c Q0d Tryz.func82 fu (d82 fu) rs82 7 (l := []) trivial
def rs130:List RVx := [(.tmp 2),(.tmp 3),(.tmp 4)]
def p130 (fu:Nat):(List Int)×Unit→Option (Unit×(Int×(Int×(Int×Unit)))) := fun ⟨a,_⟩ =>
loopO (S := (Int×(Int×Unit))×Unit) fu (fun ⟨⟨c,f,_⟩,_⟩ =>
 bif decide (f<(10:Int)) then
 bif (f==(a.length:Int)) then
 inrO (some ((),((0:Int),(0:Int),(11:Int),())))
 else
 bif decide ((0:Int)≤f∧f<(a.length:Int)) then
 bif decide (f.toNat<a.length) then
 orK (E := (Bool×(Bool×Unit))×Unit)
 (bif (f==(9:Int)) then
 bif ((a.getD (f.toNat) (dflt (.int .u8))) != (1:Int)) then
 inrO (inrO (some ((),((0:Int),(0:Int),(12:Int),()))))
 else
 bif ((a.getD (f.toNat) (dflt (.int .u8)))==(0:Int)) then
 bif decide (f>(0:Int)) then
 inrO (inrO (some ((),((0:Int),(0:Int),(12:Int),()))))
 else
 some (.inl ((true,decide (f>(0:Int)),()),()))
 else
 some (.inl ((false,false,()),()))
 else
 bif ((a.getD (f.toNat) (dflt (.int .u8)))==(0:Int)) then
 bif decide (f>(0:Int)) then
 inrO (inrO (some ((),((0:Int),(0:Int),(12:Int),()))))
 else
 some (.inl ((true,decide (f>(0:Int)),()),()))
 else
 some (.inl ((false,false,()),())))
 fun ⟨⟨_,_,_⟩,_⟩ =>
 bif decide ((0:Int)≤(IntKind.wrap .i64 ((7:Int) * f))) then
 bif decide ((a.getD (f.toNat) (dflt (.int .u8)))<(128:Int)) then
 inrO (some ((),(IntKind.wrap .u64 ((BitVec.ofInt (IntKind.bits .u64) c ||| BitVec.ofInt (IntKind.bits .u64) (IntKind.wrap .u64 ((IntKind.wrap .u64 (IntKind.wrap .u8 ((BitVec.ofInt (IntKind.bits .u8) (a.getD (f.toNat) (dflt (.int .u8))) &&& BitVec.ofInt (IntKind.bits .u8) (127:Int)).toNat:Int))) * 2 ^ (min (Int.toNat (IntKind.wrap .i64 ((7:Int) * f))) (IntKind.bits .u64))))).toNat:Int),IntKind.wrap .i64 (f+(1:Int)),(0:Int),())))
 else
 some (.inl ((IntKind.wrap .u64 ((BitVec.ofInt (IntKind.bits .u64) c ||| BitVec.ofInt (IntKind.bits .u64) (IntKind.wrap .u64 ((IntKind.wrap .u64 (IntKind.wrap .u8 ((BitVec.ofInt (IntKind.bits .u8) (a.getD (f.toNat) (dflt (.int .u8))) &&& BitVec.ofInt (IntKind.bits .u8) (127:Int)).toNat:Int))) * 2 ^ (min (Int.toNat (IntKind.wrap .i64 ((7:Int) * f))) (IntKind.bits .u64))))).toNat:Int),IntKind.wrap .i64 (f+(1:Int)),()),()))
 else none
 else none
 else none
 else
 inrO (some ((),((0:Int),(0:Int),(12:Int),()))))
 (((0:Int),(0:Int),()),())
def e130 (fu:Nat):Ent := ⟨130,(.cons (.hole (.sl (.int .u8))) .nil),.nil,(.tup 3 (.cons hU (.cons hI (.cons hI .nil)))),p130 fu⟩
def d130 (_:Nat):DC := (.seq (.region [opD 2 (.mov (.const vU)),opD 3 (.mov (cD 0)),opD 4 (.mov (cD 0))] [[],[0],[1]] false) (.seq (.region [opD 5 (.mov (.const vU))] [[]] false) (.seq (.seq (.region [opD 9 (.mov (cD 0))] [[]] false) (.block 0 (.loop ⟨[5,9],(.cons hU (.cons hI .nil)),[],.nil,[0],[]⟩
 (.seq (.region [opD 10 (.bin .lss (tD 9) (cD 10))] [[]] false) (.seq (.cond (.tmp 10) .skip (.exit 0)) (.seq (.block 1 (.seq (.region [mvD 11 9,mvD 6 11] [[],[0,0]] false) (.seq (.seq (.region [mvD 12 6,mvD 13 0,opD 14 (.len false (tD 13)),opD 15 (.bin .eql (tD 12) (tD 14))] [[],[],[1],[0,2]] false) (.cond (.tmp 15) (.seq (.region [opD 2 (.mov (.const vU)),opD 3 (.mov (cD 0)),opD 4 (.mov (cD 11))] [[],[0,0],[1,0,1]] false) .ret) .skip)) (.seq (.region [mvD 16 0,mvD 17 6,opD 18 (.iaddr 1 (tD 16) (tD 17)),lD 19 1 18,mvD 7 19] [[],[],[0,1],[2],[3,0,1,2,3]] false) (.seq (.region [mvD 20 6,opD 21 (.bin .eql (tD 20) (cD 9)),mvD 8 21] [[],[0],[1,0,1]] false) (.join ⟨[30,33],(.cons (.hole .bool) (.cons (.hole .bool) .nil)),[],.nil,[0,5,6,7,9],[]⟩
 (.seq (.region [mvD 22 8,mvD 23 22,ogD 24 23 true (.mov (tD 7)),ogD 25 23 true (.bin .neq (tD 24) (.const (.int .u8 1))),opD 26 (.pick (tD 23) (tD 25) (.const vB)),mvD 27 26,ogD 28 27 false (.mov (tD 7)),ogD 29 27 false (.bin .eql (tD 28) (.const (.int .u8 0))),ogD 30 27 false (.mov (tD 29)),ogD 31 30 true (.mov (tD 6)),ogD 32 30 true (.bin .gtr (tD 31) (cD 0)),ogD 33 27 false (.pick (tD 30) (tD 32) (.const vB)),opD 34 (.pick (tD 27) (.const (.bool true)) (tD 33))] [[],[0],[1],[2,1],[1,3],[4,1],[5],[6,5],[7,5,5],[8],[9,8],[8,10,5],[5,11]] false) (.cond (.tmp 34) (.exit 0) .skip))
 (.seq (.region [mvD 35 5,mvD 36 7,opD 37 (.bin .and (tD 36) (.const (.int .u8 127))),opD 38 (.conv .u64 (tD 37)),mvD 39 6,opD 40 (.bin .mul (cD 7) (tD 39)),opD 41 (.bin .shl (tD 38) (tD 40)),opD 42 (.bin .or (tD 35) (tD 41)),mvD 5 42] [[],[],[1],[2],[],[4],[3,5],[0,6],[7,0,1,2,3,4,5,6,7]] false) (.seq (.region [mvD 43 7,opD 44 (.bin .lss (tD 43) (.const (.int .u8 128)))] [[],[0]] false) (.cond (.tmp 44) (.seq (.region [mvD 45 5,mvD 46 6,opD 47 (.bin .add (tD 46) (cD 1)),mvD 2 45,mvD 3 47,opD 4 (.mov (cD 0))] [[],[],[1],[0,0],[2,3,0,1,2,3],[4,0,1,2,3,4]] false) .ret) .skip))))))))) (.region [opD 48 (.bin .add (tD 9) (cD 1)),mvD 9 48] [[],[0]] false))))))) (.seq (.region [opD 2 (.mov (.const vU)),opD 3 (.mov (cD 0)),opD 4 (.mov (cD 12))] [[],[0,0],[1,0,1]] false) .ret))))
theorem g130 (fu:Nat):(e130 fu).Good Tryz.prog := Q0c Q0d Tryz.func130 fu (d130 fu) rs130 49 (l := []) trivial
def rs135:List RVx := []
def p135 (_:Nat):((List Int)×(Int×(Unit×Unit)))×(Int×(Int×Unit))→Option ((((List Int)×(Int×((Bool×((Int×(Int×Unit))×Unit))×Unit)))×(Unit×Unit))×Unit) := fun ⟨⟨a,c,_,_⟩,f,h,_⟩ =>
bif (h != (0:Int)) then
 bif eqL a then
 some (((a,c,(true,(h,f,()),dflt .unit),()),(),()),())
 else none
else
 bif eqL a then
 some (((a,c,zR0,()),(),()),())
 else none
def e135 (fu:Nat):Ent := ⟨135,(.cons (.box 176 3 (.cons (.own .own 5 (.int .u8)) (.cons hI (.cons (.nilv 1) .nil)))) (.cons hI (.cons hI .nil))),(.cons Y16 (.cons .dead .nil)),(.tup 0 .nil),p135 fu⟩
def d135 (_:Nat):DC := (.seq (.region [mvD 6 0,nD 7 6,fD 8 2 7,lD 9 1 8,opD 10 (.pure (.nilq 1 false) [(tD 9)]),mvD 11 10,ogD 12 11 true (.mov (tD 2)),ogD 13 11 true (.bin .neq (tD 12) (cD 0)),opD 14 (.pick (tD 11) (tD 13) (.const vB))] [[],[0],[1],[2],[3],[4],[5],[6,5],[5,7]] false) (.cond (.tmp 14) (.region [mvD 15 0,mvD 16 2,mvD 17 1,opD 18 (.build 2 [vI,vI] [(0,(1,(tD 16))),(1,(1,(tD 17)))]),opD 19 (.box 210 2 (tD 18)),opD 20 (.ifc 207 (tD 19)),nD 21 15,fD 22 2 21,onD (.store 1 (tD 22) (tD 20))] [[],[],[],[1,2],[3],[4],[0,0,1,2,3,4,5],[6,0,1,2,3,4,5],[7,5,0,1,2,3,4,5]] false) .skip))
theorem g135 (fu:Nat):(e135 fu).Good Tryz.prog := Q0c Q0d Tryz.func135 fu (d135 fu) rs135 23 (l := []) trivial
def rs131:List RVx := []
def p131 (fu:Nat):((List Int)×(Int×(Unit×Unit)))×(Int×Unit)→Option ((((List Int)×(Int×((Bool×((Int×(Int×Unit))×Unit))×Unit)))×(Unit×Unit))×Unit) := fun ⟨⟨a,c,_,_⟩,f,_⟩ =>
bif eqL a then
 Option.bind (p135 fu ((a,c,(),()),c,f,())) fun ⟨⟨⟨h,i,⟨j,⟨k,l,_⟩,_⟩,_⟩,_,_⟩,_⟩ =>
 bif eqL h then
 some (((h,i,(j,(k,l,()),()),()),(),()),())
 else none
else none
def e131 (fu:Nat):Ent := ⟨131,(.cons (.box 176 3 (.cons (.own .own 5 (.int .u8)) (.cons hI (.cons (.nilv 1) .nil)))) (.cons hI .nil)),(.cons Y16 (.cons .dead .nil)),(.tup 0 .nil),p131 fu⟩
def d131 (fu:Nat):DC := (.region [mvD 4 0,mvD 5 0,nD 6 5,fD 7 1 6,lD 8 1 7,mvD 9 1,oqD 10 (.call 135 [(tD 4),(tD 8),(tD 9)]) (.ent (e135 fu))] [[],[],[1],[2],[3],[],[0,4,5]] false)
theorem g131 (fu:Nat):(e131 fu).Good Tryz.prog := Q0c Q0d Tryz.func131 fu (d131 fu) rs131 11 (l := [e135 fu]) ⟨g135 fu,trivial⟩
def rs84:List RVx := [(.tmp 2)]
def p84 (fu:Nat):((List Int)×(Int×(Unit×Unit)))×Unit→Option ((((List Int)×(Int×((Bool×((Int×(Int×Unit))×Unit))×Unit)))×(Unit×Unit))×Int) := fun ⟨⟨a,c,_,_⟩,_⟩ =>
bif decide ((0:Int)≤c) then
 bif decide (c.toNat≤a.length∧0+(a.length)≤a.length) then
 bif decide ((c.toNat)+((a.length)-(c.toNat))≤a.length) then
 Option.bind (p130 fu (sub' a (c.toNat) ((a.length)-(c.toNat)),())) fun ⟨_,⟨f,h,i,_⟩⟩ =>
 bif eqL a then
 Option.bind (p131 fu ((a,c,(),()),i,())) fun ⟨⟨⟨j,k,⟨l,⟨m,n,_⟩,_⟩,_⟩,_,_⟩,_⟩ =>
 bif eqL j then
 some (((j,IntKind.wrap .i64 (k+h),(l,(m,n,()),()),()),(),()),f)
 else none
 else none
 else none
 else none
else none
def e84 (fu:Nat):Ent := ⟨84,(.cons (.box 176 3 (.cons (.own .own 5 (.int .u8)) (.cons hI (.cons (.nilv 1) .nil)))) .nil),(.cons Y16 (.cons .dead .nil)),hU,p84 fu⟩
def d84 (fu:Nat):DC := (.seq (.region [opD 2 (.mov (.const vU))] [[]] false) (.seq (.seq (.region [mvD 6 0,nD 7 6,fD 8 2 7,lD 9 1 8,opD 10 (.pure (.nilq 1 true) [(tD 9)])] [[],[0],[1],[2],[3]] false) (.cond (.tmp 10) (.seq (.region [opD 2 (.mov (.const vU))] [[]] false) .ret) .skip)) (.seq (.region [mvD 12 0,nD 13 12,fD 14 0 13,lD 15 1 14,mvD 16 0,nD 17 16,fD 18 1 17,lD 19 1 18,opD 20 (.slc 1 (tD 15) (some (tD 19)) none),oqD 21 (.call 130 [(tD 20)]) (.ent (e130 fu)),mvD 11 21,opD 22 (.ext (tD 11) 0),opD 23 (.ext (tD 11) 1),opD 24 (.ext (tD 11) 2),mvD 3 22,mvD 4 23,mvD 5 24] [[],[0],[1],[2],[],[4],[5],[6],[3,7],[8],[9],[10],[10],[10],[11,9,0,1,2,3,4,5,6,7,8,9,10,11],[12,14,0,1,2,3,4,5,6,7,8,9,10,11,12,14],[13,15,0,1,2,3,4,5,6,7,8,9,10,11,12,13,14,15]] true) (.seq (.region [mvD 25 0,mvD 26 5,oqD 27 (.call 131 [(tD 25),(tD 26)]) (.ent (e131 fu))] [[],[],[0,1]] false) (.seq (.region [mvD 28 0,nD 29 28,fD 30 1 29,lD 31 1 30,mvD 32 4,opD 33 (.bin .add (tD 31) (tD 32)),nD 34 28,fD 35 1 34,onD (.store 1 (tD 35) (tD 33))] [[],[0],[1],[2],[],[3,4],[0,0,1,2,3,4,5],[6,0,1,2,3,4,5],[7,5,0,1,2,3,4,5]] false) (.seq (.region [mvD 36 3,mvD 2 36] [[],[0,0]] false) .ret))))))
theorem g84 (fu:Nat):(e84 fu).Good Tryz.prog := Q0c Q0d Tryz.func84 fu (d84 fu) rs84 37 (l := [e130 fu,e131 fu]) ⟨g130 fu,g131 fu,trivial⟩
def rs83:List RVx := [(.tmp 2)]
def p83 (fu:Nat):((List Int)×(Int×(Unit×Unit)))×Unit→Option ((((List Int)×(Int×((Bool×((Int×(Int×Unit))×Unit))×Unit)))×(Unit×Unit))×Int) := fun ⟨⟨a,c,_,_⟩,_⟩ =>
bif eqL a then
 Option.bind (p84 fu ((a,c,(),()),())) fun ⟨⟨⟨f,h,⟨i,⟨j,k,_⟩,_⟩,_⟩,_,_⟩,l⟩ =>
 bif eqL f then
 some (((f,h,(i,(j,k,()),()),()),(),()),IntKind.wrap .i64 (IntKind.wrap .u64 ((BitVec.ofInt (IntKind.bits .u64) (Int.fdiv l (2 ^ (min (Int.toNat (1:Int)) (IntKind.bits .u64)))) ^^^ BitVec.ofInt (IntKind.bits .u64) (IntKind.wrap .u64 (0-(IntKind.wrap .u64 ((BitVec.ofInt (IntKind.bits .u64) l &&& BitVec.ofInt (IntKind.bits .u64) (1:Int)).toNat:Int))))).toNat:Int)))
 else none
else none
def e83 (fu:Nat):Ent := ⟨83,(.cons (.box 176 3 (.cons (.own .own 5 (.int .u8)) (.cons hI (.cons (.nilv 1) .nil)))) .nil),(.cons Y16 (.cons .dead .nil)),hI,p83 fu⟩
def d83 (fu:Nat):DC := (.seq (.region [opD 2 (.mov (cD 0))] [[]] false) (.seq (.region [mvD 4 0,oqD 5 (.call 84 [(tD 4)]) (.ent (e84 fu)),mvD 3 5] [[],[0],[1,1,0,1]] false) (.seq (.region [mvD 6 3,opD 7 (.bin .shr (tD 6) (.const (.int .u64 1))),mvD 8 3,opD 9 (.bin .and (tD 8) (.const (.int .u64 1))),opD 10 (.pure .neg [(tD 9)]),opD 11 (.bin .xor (tD 7) (tD 10)),opD 12 (.conv .i64 (tD 11)),mvD 2 12] [[],[0],[],[2],[3],[1,4],[5],[6,0,1,2,3,4,5,6]] false) .ret)))
theorem g83 (fu:Nat):(e83 fu).Good Tryz.prog := Q0c Q0d Tryz.func83 fu (d83 fu) rs83 13 (l := [e84 fu]) ⟨g84 fu,trivial⟩
def p84_1 (fu:Nat):((List Int)×(Int×((Bool×((Int×(Int×Unit))×Unit))×Unit)))×Unit→Option ((((List Int)×(Int×((Bool×((Int×(Int×Unit))×Unit))×Unit)))×(Unit×Unit))×Int) := fun ⟨⟨a,c,⟨f,⟨h,i,_⟩,_⟩,_⟩,_⟩ =>
bif f then
 bif eqL a then
 some (((a,c,(true,(h,i,()),dflt .unit),()),(),()),(0:Int))
 else none
else
 bif decide ((0:Int)≤c) then
 bif decide (c.toNat≤a.length∧0+(a.length)≤a.length) then
 bif decide ((c.toNat)+((a.length)-(c.toNat))≤a.length) then
 Option.bind (p130 fu (sub' a (c.toNat) ((a.length)-(c.toNat)),())) fun ⟨_,⟨j,k,l,_⟩⟩ =>
 bif eqL a then
 Option.bind (p131 fu ((a,c,(),()),l,())) fun ⟨⟨⟨m,n,⟨o,⟨q,s,_⟩,_⟩,_⟩,_,_⟩,_⟩ =>
 bif eqL m then
 some (((m,IntKind.wrap .i64 (n+k),(o,(q,s,()),()),()),(),()),j)
 else none
 else none
 else none
 else none
 else none
def e84_1 (fu:Nat):Ent := ⟨84,(.cons Y17 .nil),(.cons Y16 (.cons .dead .nil)),hU,p84_1 fu⟩
def d84_1 (fu:Nat):DC := (.seq (.region [opD 2 (.mov (.const vU))] [[]] false) (.seq (.seq (.region [mvD 6 0,nD 7 6,fD 8 2 7,lD 9 1 8,opD 10 (.pure (.nilq 1 true) [(tD 9)])] [[],[0],[1],[2],[3]] false) (.cond (.tmp 10) (.seq (.region [opD 2 (.mov (.const vU))] [[]] false) .ret) .skip)) (.seq (.region [mvD 12 0,nD 13 12,fD 14 0 13,lD 15 1 14,mvD 16 0,nD 17 16,fD 18 1 17,lD 19 1 18,opD 20 (.slc 1 (tD 15) (some (tD 19)) none),oqD 21 (.call 130 [(tD 20)]) (.ent (e130 fu)),mvD 11 21,opD 22 (.ext (tD 11) 0),opD 23 (.ext (tD 11) 1),opD 24 (.ext (tD 11) 2),mvD 3 22,mvD 4 23,mvD 5 24] [[],[0],[1],[2],[],[4],[5],[6],[3,7],[8],[9],[10],[10],[10],[11,9,0,1,2,3,4,5,6,7,8,9,10,11],[12,14,0,1,2,3,4,5,6,7,8,9,10,11,12,14],[13,15,0,1,2,3,4,5,6,7,8,9,10,11,12,13,14,15]] true) (.seq (.region [mvD 25 0,mvD 26 5,oqD 27 (.call 131 [(tD 25),(tD 26)]) (.ent (e131 fu))] [[],[],[0,1]] false) (.seq (.region [mvD 28 0,nD 29 28,fD 30 1 29,lD 31 1 30,mvD 32 4,opD 33 (.bin .add (tD 31) (tD 32)),nD 34 28,fD 35 1 34,onD (.store 1 (tD 35) (tD 33))] [[],[0],[1],[2],[],[3,4],[0,0,1,2,3,4,5],[6,0,1,2,3,4,5],[7,5,0,1,2,3,4,5]] false) (.seq (.region [mvD 36 3,mvD 2 36] [[],[0,0]] false) .ret))))))
theorem Q1q (fu:Nat):(e84_1 fu).Good Tryz.prog := Q0c Q0d Tryz.func84 fu (d84_1 fu) rs84 37 (l := [e130 fu,e131 fu]) ⟨g130 fu,g131 fu,trivial⟩
def p135_2 (_:Nat):((List Int)×(Int×((Bool×((Int×(Int×Unit))×Unit))×Unit)))×(Int×(Int×Unit))→Option ((((List Int)×(Int×((Bool×((Int×(Int×Unit))×Unit))×Unit)))×(Unit×Unit))×Unit) := fun ⟨⟨a,c,⟨f,⟨h,i,_⟩,_⟩,_⟩,j,k,_⟩ =>
bif f then
 bif eqL a then
 some (((a,c,(true,(h,i,()),dflt .unit),()),(),()),())
 else none
else
 bif (k != (0:Int)) then
 bif eqL a then
 some (((a,c,(true,(k,j,()),dflt .unit),()),(),()),())
 else none
 else
 bif eqL a then
 some (((a,c,zR0,()),(),()),())
 else none
def e135_2 (fu:Nat):Ent := ⟨135,(.cons Y17 (.cons hI (.cons hI .nil))),(.cons Y16 (.cons .dead .nil)),(.tup 0 .nil),p135_2 fu⟩
def d135_2 (_:Nat):DC := (.seq (.region [mvD 6 0,nD 7 6,fD 8 2 7,lD 9 1 8,opD 10 (.pure (.nilq 1 false) [(tD 9)]),mvD 11 10,ogD 12 11 true (.mov (tD 2)),ogD 13 11 true (.bin .neq (tD 12) (cD 0)),opD 14 (.pick (tD 11) (tD 13) (.const vB))] [[],[0],[1],[2],[3],[4],[5],[6,5],[5,7]] false) (.cond (.tmp 14) (.region [mvD 15 0,mvD 16 2,mvD 17 1,opD 18 (.build 2 [vI,vI] [(0,(1,(tD 16))),(1,(1,(tD 17)))]),opD 19 (.box 210 2 (tD 18)),opD 20 (.ifc 207 (tD 19)),nD 21 15,fD 22 2 21,onD (.store 1 (tD 22) (tD 20))] [[],[],[],[1,2],[3],[4],[0,0,1,2,3,4,5],[6,0,1,2,3,4,5],[7,5,0,1,2,3,4,5]] false) .skip))
theorem Q9k (fu:Nat):(e135_2 fu).Good Tryz.prog := Q0c Q0d Tryz.func135 fu (d135_2 fu) rs135 23 (l := []) trivial
def rs138:List RVx := [(.tmp 4)]
def p138_1 (_:Nat):((List Int)×(Int×((Bool×((Int×(Int×Unit))×Unit))×Unit)))×(Int×Unit)→Option ((((List Int)×(Int×((Bool×((Int×(Int×Unit))×Unit))×Unit)))×(Unit×Unit))×Int) := fun ⟨⟨a,c,⟨f,⟨h,i,_⟩,_⟩,_⟩,j,_⟩ =>
bif f then
 bif eqL a then
 some (((a,c,(true,(h,i,()),dflt .unit),()),(),()),(0:Int))
 else none
else
 bif eqL a then
 some (((a,c,zR0,()),(),()),j)
 else none
def e138_1 (fu:Nat):Ent := ⟨138,(.cons Y17 (.cons hI .nil)),(.cons Y16 (.cons .dead .nil)),hI,p138_1 fu⟩
def d138_1 (_:Nat):DC := (.seq (.region [opD 4 (.mov (cD 0))] [[]] false) (.seq (.seq (.region [mvD 6 0,nD 7 6,fD 8 2 7,lD 9 1 8,opD 10 (.pure (.nilq 1 true) [(tD 9)])] [[],[0],[1],[2],[3]] false) (.cond (.tmp 10) (.seq (.region [opD 5 (.mov (cD 0))] [[]] false) (.seq (.region [mvD 11 5,mvD 4 11] [[],[0,0]] false) .ret)) .skip)) (.seq (.region [mvD 12 1,mvD 4 12] [[],[0,0]] false) .ret)))
theorem K9k (fu:Nat):(e138_1 fu).Good Tryz.prog := Q0c Q0d Tryz.func138 fu (d138_1 fu) rs138 13 (l := []) trivial
def rs132:List RVx := [(.tmp 4)]
def p132_1 (fu:Nat):((List Int)×(Int×((Bool×((Int×(Int×Unit))×Unit))×Unit)))×(Int×Unit)→Option ((((List Int)×(Int×((Bool×((Int×(Int×Unit))×Unit))×Unit)))×(Unit×Unit))×(List Int)) := fun ⟨⟨a,c,⟨f,⟨h,i,_⟩,_⟩,_⟩,j,_⟩ =>
bif f then
 orK (E := Unit×(((List Int)×(Int×((Bool×((Int×(Int×Unit))×Unit))×Unit)))×Unit))
 (bif eqL a then
 some (.inl ((),((a,c,(true,(h,i,()),dflt .unit),()),())))
 else none)
 fun ⟨_,⟨⟨k,l,⟨m,⟨n,o,_⟩,_⟩,_⟩,_⟩⟩ =>
 bif m then
 bif eqL k then
 some (((k,l,(true,(n,o,()),dflt .unit),()),(),()),[])
 else none
 else
 bif decide ((0:Int)≤IntKind.wrap .i64 ((IntKind.wrap .i64 (l+j))-j)) then
 bif decide ((0:Int)≤IntKind.wrap .i64 (l+j)) then
 bif decide (Int.toNat (IntKind.wrap .i64 ((IntKind.wrap .i64 (l+j))-j))≤Int.toNat (IntKind.wrap .i64 (l+j))∧0+(Int.toNat (IntKind.wrap .i64 (l+j)))≤k.length) then
 bif decide ((Int.toNat (IntKind.wrap .i64 ((IntKind.wrap .i64 (l+j))-j)))+((Int.toNat (IntKind.wrap .i64 (l+j)))-(Int.toNat (IntKind.wrap .i64 ((IntKind.wrap .i64 (l+j))-j))))≤k.length) then
 bif decide (List.length (sub' k (Int.toNat (IntKind.wrap .i64 ((IntKind.wrap .i64 (l+j))-j))) ((Int.toNat (IntKind.wrap .i64 (l+j)))-(Int.toNat (IntKind.wrap .i64 ((IntKind.wrap .i64 (l+j))-j)))))≤maxLen∧List.length (sub' k (Int.toNat (IntKind.wrap .i64 ((IntKind.wrap .i64 (l+j))-j))) ((Int.toNat (IntKind.wrap .i64 (l+j)))-(Int.toNat (IntKind.wrap .i64 ((IntKind.wrap .i64 (l+j))-j))))) * 1≤140737488355328) then
 bif eqL k then
 bif eqL (sub' k (Int.toNat (IntKind.wrap .i64 ((IntKind.wrap .i64 (l+j))-j))) ((Int.toNat (IntKind.wrap .i64 (l+j)))-(Int.toNat (IntKind.wrap .i64 ((IntKind.wrap .i64 (l+j))-j))))) then
 some (((k,IntKind.wrap .i64 (l+j),zR0,()),(),()),sub' k (Int.toNat (IntKind.wrap .i64 ((IntKind.wrap .i64 (l+j))-j))) ((Int.toNat (IntKind.wrap .i64 (l+j)))-(Int.toNat (IntKind.wrap .i64 ((IntKind.wrap .i64 (l+j))-j)))))
 else none
 else none
 else none
 else none
 else none
 else none
 else none
else
 orK (E := Unit×(((List Int)×(Int×((Bool×((Int×(Int×Unit))×Unit))×Unit)))×Unit))
 (bif decide (j>(IntKind.wrap .i64 (((a.length):Int)-c))) then
 bif eqL a then
 Option.bind (p131 fu ((a,c,(),()),(11:Int),())) fun ⟨⟨⟨q,s,⟨t,⟨u,w,_⟩,_⟩,_⟩,_,_⟩,_⟩ =>
 bif eqL q then
 some (.inl ((),((q,s,(t,(u,w,()),()),()),())))
 else none
 else none
 else
 bif eqL a then
 some (.inl ((),((a,c,zR0,()),())))
 else none)
 fun ⟨_,⟨⟨k,l,⟨m,⟨n,o,_⟩,_⟩,_⟩,_⟩⟩ =>
 bif m then
 bif eqL k then
 some (((k,l,(true,(n,o,()),dflt .unit),()),(),()),[])
 else none
 else
 bif decide ((0:Int)≤IntKind.wrap .i64 ((IntKind.wrap .i64 (l+j))-j)) then
 bif decide ((0:Int)≤IntKind.wrap .i64 (l+j)) then
 bif decide (Int.toNat (IntKind.wrap .i64 ((IntKind.wrap .i64 (l+j))-j))≤Int.toNat (IntKind.wrap .i64 (l+j))∧0+(Int.toNat (IntKind.wrap .i64 (l+j)))≤k.length) then
 bif decide ((Int.toNat (IntKind.wrap .i64 ((IntKind.wrap .i64 (l+j))-j)))+((Int.toNat (IntKind.wrap .i64 (l+j)))-(Int.toNat (IntKind.wrap .i64 ((IntKind.wrap .i64 (l+j))-j))))≤k.length) then
 bif decide (List.length (sub' k (Int.toNat (IntKind.wrap .i64 ((IntKind.wrap .i64 (l+j))-j))) ((Int.toNat (IntKind.wrap .i64 (l+j)))-(Int.toNat (IntKind.wrap .i64 ((IntKind.wrap .i64 (l+j))-j)))))≤maxLen∧List.length (sub' k (Int.toNat (IntKind.wrap .i64 ((IntKind.wrap .i64 (l+j))-j))) ((Int.toNat (IntKind.wrap .i64 (l+j)))-(Int.toNat (IntKind.wrap .i64 ((IntKind.wrap .i64 (l+j))-j))))) * 1≤140737488355328) then
 bif eqL k then
 bif eqL (sub' k (Int.toNat (IntKind.wrap .i64 ((IntKind.wrap .i64 (l+j))-j))) ((Int.toNat (IntKind.wrap .i64 (l+j)))-(Int.toNat (IntKind.wrap .i64 ((IntKind.wrap .i64 (l+j))-j))))) then
 some (((k,IntKind.wrap .i64 (l+j),zR0,()),(),()),sub' k (Int.toNat (IntKind.wrap .i64 ((IntKind.wrap .i64 (l+j))-j))) ((Int.toNat (IntKind.wrap .i64 (l+j)))-(Int.toNat (IntKind.wrap .i64 ((IntKind.wrap .i64 (l+j))-j)))))
 else none
 else none
 else none
 else none
 else none
 else none
 else none
def e132_1 (fu:Nat):Ent := ⟨132,(.cons Y17 (.cons hI .nil)),(.cons Y16 (.cons .dead .nil)),(.own .own 5 (.int .u8)),p132_1 fu⟩
def d132_1 (fu:Nat):DC := (.seq (.region [opD 4 (.mov (.const vS))] [[]] false) (.join ⟨[],.nil,[(0,176,3)],(.cons Y18 .nil),[0,1],[1]⟩
 (.seq (.region [mvD 5 0,nD 6 5,fD 7 2 6,lD 8 1 7,opD 9 (.pure (.nilq 1 false) [(tD 8)]),mvD 10 9,ogD 11 10 true (.mov (tD 1)),ogD 12 10 true (.mov (tD 0)),ogD 13 10 true (.pure .nilc [(tD 12)]),ogD 14 10 true (.faddr 0 (tD 13)),ogD 15 10 true (.load false 1 (tD 14)),ogD 16 10 true (.len false (tD 15)),ogD 17 10 true (.mov (tD 0)),ogD 18 10 true (.pure .nilc [(tD 17)]),ogD 19 10 true (.faddr 1 (tD 18)),ogD 20 10 true (.load false 1 (tD 19)),ogD 21 10 true (.bin .sub (tD 16) (tD 20)),ogD 22 10 true (.bin .gtr (tD 11) (tD 21)),opD 23 (.pick (tD 10) (tD 22) (.const vB))] [[],[0],[1],[2],[3],[4],[5],[5],[7,5],[8,5],[9,5],[10,5],[5],[12,5],[13,5],[14,5],[11,15,5],[6,16,5],[5,17]] true) (.cond (.tmp 23) (.region [mvD 24 0,oqD 25 (.call 131 [(tD 24),(cD 11)]) (.ent (e131 fu))] [[],[0]] false) .skip))
 (.seq (.seq (.region [mvD 26 0,nD 27 26,fD 28 2 27,lD 29 1 28,opD 30 (.pure (.nilq 1 true) [(tD 29)])] [[],[0],[1],[2],[3]] false) (.cond (.tmp 30) (.seq (.region [opD 4 (.mov (.const vS))] [[]] false) .ret) .skip)) (.seq (.region [mvD 31 0,nD 32 31,fD 33 1 32,lD 34 1 33,mvD 35 1,opD 36 (.bin .add (tD 34) (tD 35)),nD 37 31,fD 38 1 37,onD (.store 1 (tD 38) (tD 36))] [[],[0],[1],[2],[],[3,4],[0,0,1,2,3,4,5],[6,0,1,2,3,4,5],[7,5,0,1,2,3,4,5]] false) (.seq (.region [mvD 39 0,nD 40 39,fD 41 0 40,lD 42 1 41,mvD 43 0,nD 44 43,fD 45 1 44,lD 46 1 45,mvD 47 1,opD 48 (.bin .sub (tD 46) (tD 47)),mvD 49 0,nD 50 49,fD 51 1 50,lD 52 1 51,opD 53 (.slc 1 (tD 42) (some (tD 48)) (some (tD 52))),oqD 54 (.app 5 1 [(.int .u8 0)] 1 (.const vS) (tD 53)) (.ty (.int .u8)),mvD 4 54] [[],[0],[1],[2],[],[4],[5],[6],[],[7,8],[],[10],[11],[12],[3,9,13],[14],[15,15,0,1,2,3,4,5,6,7,8,9,10,11,12,13,14,15]] true) .ret)))))
theorem X5p (fu:Nat):(e132_1 fu).Good Tryz.prog := Q0c Q0d Tryz.func132 fu (d132_1 fu) rs132 55 (l := [e131 fu]) ⟨g131 fu,trivial⟩
end Go.Proofs.YthlgaodaofpgoaaGreatDoor
