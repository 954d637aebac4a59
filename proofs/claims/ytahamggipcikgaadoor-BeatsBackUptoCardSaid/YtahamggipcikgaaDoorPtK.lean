/-
  The functions, typed.
-/
import Derived.Test.YtahamggipcikgaaDoorErsE
import Derived.Test.YtahamggipcikgaaDoorPkF
import Derived.Test.YtahamggipcikgaaDoorDaL
import Derived.Test.YtahamggipcikgaaDoorRows
namespace Go.Proofs.YtahamggipcikgaaDoor
set_option maxRecDepth 1000000
open Go.RowKit
abbrev T_api_Conf:Tp := (.pair (.sl (.int .i64)) (.sl (.int .i64)))
abbrev D_api_Conf := (List (Int))×(List (Int))
abbrev T_api_Packet:Tp := (.pair (.int .i64) (.pair (.int .i64) (.pair (.int .i64) (.sl (.int .u8)))))
abbrev D_api_Packet := (Int)×((Int)×((Int)×(List (Int))))
abbrev T_api_Entry:Tp := (.pair (.int .u64) (.pair (.int .u64) (.pair (.int .i64) (.pair (.sl (.int .u8)) T_api_Conf))))
abbrev D_api_Entry := (Int)×((Int)×((Int)×((List (Int))×(D_api_Conf))))
abbrev T_api_Msg:Tp := (.pair (.int .i64) (.pair (.int .i64) (.pair (.int .i64) (.pair (.int .u64) (.pair (.int .u64) (.pair (.int .u64) (.pair (.sl T_api_Entry) (.pair (.int .u64) (.pair .bool (.pair (.int .u64) (.pair T_api_Conf (.pair (.sl (.int .u8)) .bool))))))))))))
abbrev D_api_Msg := (Int)×((Int)×((Int)×((Int)×((Int)×((Int)×((List (D_api_Entry))×((Int)×((Bool)×((Int)×((D_api_Conf)×((List (Int))×(Bool))))))))))))
abbrev T_beats_Wire:Tp := (.pair (.int .u64) T_api_Msg)
abbrev D_beats_Wire := (Int)×(D_api_Msg)
theorem orders:Tryd.prog.follows .mixedOrders=true := by kernel_rfl
abbrev Z0:Type := (Int)×((Int)×((Int)×((Int)×((Int)×((Int)×((Int)×((List (D_api_Entry))×((Int)×((Bool)×((Int)×((List (Int))×((List (Int))×((List (Int))×((Bool)×(Unit)))))))))))))))
abbrev Z1:Type := (Int)×((Int)×((Int)×((Int)×((Int)×((Int)×((List (D_api_Entry))×((Int)×((Bool)×((Int)×((List (Int))×((List (Int))×((List (Int))×((Bool)×(Unit))))))))))))))
abbrev Y2:Sh := (.agg 14 (.cons (.hole (.int .i64)) (.cons (.hole (.int .i64)) (.cons (.hole (.int .i64)) (.cons (.hole (.int .u64)) (.cons (.hole (.int .u64)) (.cons (.hole (.int .u64)) (.cons (.hole (.sl T_api_Entry)) (.cons (.hole (.int .u64)) (.cons (.hole .bool) (.cons (.hole (.int .u64)) (.cons (.hole (.sl (.int .i64))) (.cons (.hole (.sl (.int .i64))) (.cons (.hole (.sl (.int .u8))) (.cons (.hole .bool) .nil)))))))))))))))
abbrev Y3:Sh := (.agg 3 (.cons (.own .own 5 (.int .u8)) (.cons (.hole (.int .i64)) (.cons (.alt true (.ifc 88 (.look (.cons (.hole (.int .i64)) (.cons (.hole (.int .i64)) .nil)))) (.nilv 1)) .nil))))
abbrev Y4:Sh := (.box 79 3 (.cons (.own .own 5 (.int .u8)) (.cons (.hole (.int .i64)) (.cons (.alt false (.ifc 88 (.look (.cons (.hole (.int .i64)) (.cons (.hole (.int .i64)) .nil)))) (.nilv 1)) .nil))))
abbrev Y5:Sh := (.agg 3 (.cons (.own .own 5 (.int .u8)) (.cons (.hole (.int .i64)) (.cons (.alt false (.ifc 88 (.look (.cons (.hole (.int .i64)) (.cons (.hole (.int .i64)) .nil)))) (.nilv 1)) .nil))))
abbrev Z6:Type := (Int)×((Int)×((Int)×((List (Int))×((List (Int))×((List (Int))×(Unit))))))
abbrev Y7:Sh := (.agg 6 (.cons (.hole (.int .u64)) (.cons (.hole (.int .u64)) (.cons (.hole (.int .i64)) (.cons (.own .own 5 (.int .u8)) (.cons (.own .own 3 (.int .i64)) (.cons (.own .own 3 (.int .i64)) .nil)))))))
abbrev Y8:Sh := (.agg 14 (.cons (.hole (.int .i64)) (.cons (.hole (.int .i64)) (.cons (.hole (.int .i64)) (.cons (.hole (.int .u64)) (.cons (.hole (.int .u64)) (.cons (.hole (.int .u64)) (.cons (.own .own 96 T_api_Entry) (.cons (.hole (.int .u64)) (.cons (.hole .bool) (.cons (.hole (.int .u64)) (.cons (.own .own 3 (.int .i64)) (.cons (.own .own 3 (.int .i64)) (.cons (.own .own 5 (.int .u8)) (.cons (.hole .bool) .nil)))))))))))))))
abbrev Y9:Sh := (.agg 4 (.cons (.hole (.int .i64)) (.cons (.hole (.int .i64)) (.cons (.hole (.int .i64)) (.cons (.hole (.sl (.int .u8))) .nil)))))
abbrev Y10:Sh := (.agg 15 (.cons (.hole (.int .u64)) (.cons (.hole (.int .i64)) (.cons (.hole (.int .i64)) (.cons (.hole (.int .i64)) (.cons (.hole (.int .u64)) (.cons (.hole (.int .u64)) (.cons (.hole (.int .u64)) (.cons (.hole (.sl T_api_Entry)) (.cons (.hole (.int .u64)) (.cons (.hole .bool) (.cons (.hole (.int .u64)) (.cons (.hole (.sl (.int .i64))) (.cons (.hole (.sl (.int .i64))) (.cons (.hole (.sl (.int .u8))) (.cons (.hole .bool) .nil))))))))))))))))
abbrev Y11:Sh := (.agg 6 (.cons (.hole (.int .u64)) (.cons (.hole (.int .u64)) (.cons (.hole (.int .i64)) (.cons (.hole (.sl (.int .u8))) (.cons (.hole (.sl (.int .i64))) (.cons (.hole (.sl (.int .i64))) .nil)))))))
def rs6:List RVx := [(.tmp 0)]
def p6 (fu:Nat):Unit→Option ((Unit)×(Bool)) := fun _ =>
Option.bind (pPack fu ((1:Int),[((5:Int),(5:Int),(1:Int),(2:Int),(3:Int),(0:Int),(0:Int),[],(0:Int),false,(0:Int),([],[]),[],false),((6:Int),(3:Int),(1:Int),(2:Int),(3:Int),(0:Int),(0:Int),[],(0:Int),false,(0:Int),([],[]),[],false)],())) fun ⟨_,⟨a,c,_⟩⟩ =>
bif (c==(0:Int)) then
 bif (((List.length a):Int)==(2:Int)) then
 bif decide ((0:Int)≤0∧0<(List.length a:Int)) then
 bif decide (0<List.length a) then
 bif (((((List.getD a 0 (dflt T_api_Packet)).2).2).1)==(2:Int)) then
 bif decide ((0:Int)≤1∧1<(List.length a:Int)) then
 bif decide (1<List.length a) then
 some ((),(((((List.getD a 1 (dflt T_api_Packet)).2).2).1)==(1:Int)))
 else none
 else none
 else
 some ((),false)
 else none
 else none
 else
 some ((),false)
else
 some ((),false)
def e6 (fu:Nat):Ent := ⟨6,.nil,.nil,(.hole .bool),p6 fu⟩
def d6 (fu:Nat):DC := (.seq (.region [opD 0 (.mov (.const vB))] [[]] false) (.seq (.region [opD 4 (.build 14 [vI,vI,vI,vU,vU,vU,vS,vU,vB,vU,vS,vS,vS,vB] [(0,(1,(cD 5))),(1,(1,(cD 1))),(2,(1,(cD 2))),(3,(1,(.const (.int .u64 3))))]),opD 5 (.build 15 [vU,vI,vI,vI,vU,vU,vU,vS,vU,vB,vU,vS,vS,vS,vB] [(0,(1,(.const (.int .u64 5)))),(1,(14,(tD 4)))]),opD 6 (.build 14 [vI,vI,vI,vU,vU,vU,vS,vU,vB,vU,vS,vS,vS,vB] [(0,(1,(cD 3))),(1,(1,(cD 1))),(2,(1,(cD 2))),(3,(1,(.const (.int .u64 3))))]),opD 7 (.build 15 [vU,vI,vI,vI,vU,vU,vU,vS,vU,vB,vU,vS,vS,vS,vB] [(0,(1,(.const (.int .u64 6)))),(1,(14,(tD 6)))]),oqD 8 (.bslice 44 15 2 [vU,vI,vI,vI,vU,vU,vU,vS,vU,vB,vU,vS,vS,vS,vB] [(0,(tD 5)),(1,(tD 7))]) (.ty T_beats_Wire),oqD 9 (.call 11 [(cD 1),(tD 8)]) (.ent (ePack fu)),mvD 3 9,opD 10 (.ext (tD 3) 0),opD 11 (.ext (tD 3) 1),mvD 1 10,mvD 2 11] [[],[0],[],[2],[1,3],[4],[5],[6],[6],[7,5,0,1,2,3,4,5,6,7],[8,9,0,1,2,3,4,5,6,7,8,9]] false) (.seq (.region [mvD 12 2,opD 13 (.bin .eql (tD 12) (cD 0)),mvD 14 13,ogD 15 14 true (.mov (tD 1)),ogD 16 14 true (.len false (tD 15)),ogD 17 14 true (.bin .eql (tD 16) (cD 2)),opD 18 (.pick (tD 14) (tD 17) (.const vB)),mvD 19 18,ogD 20 19 true (.mov (tD 1)),ogD 21 19 true (.iaddr 4 (tD 20) (cD 0)),ogD 22 19 true (.faddr 2 (tD 21)),ogD 23 19 true (.load false 1 (tD 22)),ogD 24 19 true (.bin .eql (tD 23) (cD 2)),opD 25 (.pick (tD 19) (tD 24) (.const vB)),mvD 26 25,ogD 27 26 true (.mov (tD 1)),ogD 28 26 true (.iaddr 4 (tD 27) (cD 1)),ogD 29 26 true (.faddr 2 (tD 28)),ogD 30 26 true (.load false 1 (tD 29)),ogD 31 26 true (.bin .eql (tD 30) (cD 1)),opD 32 (.pick (tD 26) (tD 31) (.const vB)),mvD 0 32] [[],[0],[1],[2],[3,2],[4,2],[2,5],[6,2],[7],[8,7],[9,7],[10,7],[11,7],[7,12],[13,7],[14],[15,14],[16,14],[17,14],[18,14],[14,19],[20,14,0,1,2,3,4,5,6,7,8,9,10,11,12,13,14,15,16,17,18,19,20]] false) .ret)))
theorem g6 (fu:Nat):(e6 fu).Good Tryd.prog := good_fn orders Tryd.func6 fu (d6 fu) rs6 33 (l := [ePack fu]) ⟨gPack fu,trivial⟩
def rs12:List RVx := [(.tmp 2)]
def p12 (fu:Nat):(List (D_beats_Wire))×(Unit)→Option ((Unit)×(List (D_beats_Wire))) := fun ⟨a,_⟩ =>
loopO (S := ((List (D_beats_Wire))×((Int)×(Unit)))×(Unit)) fu (fun ⟨⟨c,f,_⟩,_⟩ =>
 bif decide (f<(List.length a:Int)) then
 bif decide ((0:Int)≤f∧f<(List.length a:Int)) then
 bif decide (Int.toNat f<List.length a) then
 bif decide ((0:Int)≤f∧f<(List.length a:Int)) then
 bif decide (Int.toNat f<List.length a) then
 bif decide (List.length c=List.length c) then
 bif decide (List.length c+List.length ([((List.getD a (Int.toNat f) (dflt T_beats_Wire)).1,((List.getD a (Int.toNat f) (dflt T_beats_Wire)).2).1,(((List.getD a (Int.toNat f) (dflt T_beats_Wire)).2).2).1,((((List.getD a (Int.toNat f) (dflt T_beats_Wire)).2).2).2).1,(((((List.getD a (Int.toNat f) (dflt T_beats_Wire)).2).2).2).2).1,((((((List.getD a (Int.toNat f) (dflt T_beats_Wire)).2).2).2).2).2).1,(((((((List.getD a (Int.toNat f) (dflt T_beats_Wire)).2).2).2).2).2).2).1,((((((((List.getD a (Int.toNat f) (dflt T_beats_Wire)).2).2).2).2).2).2).2).1,(((((((((List.getD a (Int.toNat f) (dflt T_beats_Wire)).2).2).2).2).2).2).2).2).1,((((((((((List.getD a (Int.toNat f) (dflt T_beats_Wire)).2).2).2).2).2).2).2).2).2).1,(((((((((((List.getD a (Int.toNat f) (dflt T_beats_Wire)).2).2).2).2).2).2).2).2).2).2).1,((((((((((((((List.getD a (Int.toNat f) (dflt T_beats_Wire)).2).2).2).2).2).2).2).2).2).2).2).1).1,(((((((((((((List.getD a (Int.toNat f) (dflt T_beats_Wire)).2).2).2).2).2).2).2).2).2).2).2).1).2),(((((((((((((List.getD a (Int.toNat f) (dflt T_beats_Wire)).2).2).2).2).2).2).2).2).2).2).2).2).1,(((((((((((((List.getD a (Int.toNat f) (dflt T_beats_Wire)).2).2).2).2).2).2).2).2).2).2).2).2).2)])≤maxLen∧(List.length c+List.length ([((List.getD a (Int.toNat f) (dflt T_beats_Wire)).1,((List.getD a (Int.toNat f) (dflt T_beats_Wire)).2).1,(((List.getD a (Int.toNat f) (dflt T_beats_Wire)).2).2).1,((((List.getD a (Int.toNat f) (dflt T_beats_Wire)).2).2).2).1,(((((List.getD a (Int.toNat f) (dflt T_beats_Wire)).2).2).2).2).1,((((((List.getD a (Int.toNat f) (dflt T_beats_Wire)).2).2).2).2).2).1,(((((((List.getD a (Int.toNat f) (dflt T_beats_Wire)).2).2).2).2).2).2).1,((((((((List.getD a (Int.toNat f) (dflt T_beats_Wire)).2).2).2).2).2).2).2).1,(((((((((List.getD a (Int.toNat f) (dflt T_beats_Wire)).2).2).2).2).2).2).2).2).1,((((((((((List.getD a (Int.toNat f) (dflt T_beats_Wire)).2).2).2).2).2).2).2).2).2).1,(((((((((((List.getD a (Int.toNat f) (dflt T_beats_Wire)).2).2).2).2).2).2).2).2).2).2).1,((((((((((((((List.getD a (Int.toNat f) (dflt T_beats_Wire)).2).2).2).2).2).2).2).2).2).2).2).1).1,(((((((((((((List.getD a (Int.toNat f) (dflt T_beats_Wire)).2).2).2).2).2).2).2).2).2).2).2).1).2),(((((((((((((List.getD a (Int.toNat f) (dflt T_beats_Wire)).2).2).2).2).2).2).2).2).2).2).2).2).1,(((((((((((((List.getD a (Int.toNat f) (dflt T_beats_Wire)).2).2).2).2).2).2).2).2).2).2).2).2).2)])) * 184≤140737488355328) then
 bif decide (List.length (c ++ [((List.getD a (Int.toNat f) (dflt T_beats_Wire)).1,((List.getD a (Int.toNat f) (dflt T_beats_Wire)).2).1,(((List.getD a (Int.toNat f) (dflt T_beats_Wire)).2).2).1,((((List.getD a (Int.toNat f) (dflt T_beats_Wire)).2).2).2).1,(((((List.getD a (Int.toNat f) (dflt T_beats_Wire)).2).2).2).2).1,((((((List.getD a (Int.toNat f) (dflt T_beats_Wire)).2).2).2).2).2).1,(((((((List.getD a (Int.toNat f) (dflt T_beats_Wire)).2).2).2).2).2).2).1,((((((((List.getD a (Int.toNat f) (dflt T_beats_Wire)).2).2).2).2).2).2).2).1,(((((((((List.getD a (Int.toNat f) (dflt T_beats_Wire)).2).2).2).2).2).2).2).2).1,((((((((((List.getD a (Int.toNat f) (dflt T_beats_Wire)).2).2).2).2).2).2).2).2).2).1,(((((((((((List.getD a (Int.toNat f) (dflt T_beats_Wire)).2).2).2).2).2).2).2).2).2).2).1,((((((((((((((List.getD a (Int.toNat f) (dflt T_beats_Wire)).2).2).2).2).2).2).2).2).2).2).2).1).1,(((((((((((((List.getD a (Int.toNat f) (dflt T_beats_Wire)).2).2).2).2).2).2).2).2).2).2).2).1).2),(((((((((((((List.getD a (Int.toNat f) (dflt T_beats_Wire)).2).2).2).2).2).2).2).2).2).2).2).2).1,(((((((((((((List.getD a (Int.toNat f) (dflt T_beats_Wire)).2).2).2).2).2).2).2).2).2).2).2).2).2)])=List.length (c ++ [((List.getD a (Int.toNat f) (dflt T_beats_Wire)).1,((List.getD a (Int.toNat f) (dflt T_beats_Wire)).2).1,(((List.getD a (Int.toNat f) (dflt T_beats_Wire)).2).2).1,((((List.getD a (Int.toNat f) (dflt T_beats_Wire)).2).2).2).1,(((((List.getD a (Int.toNat f) (dflt T_beats_Wire)).2).2).2).2).1,((((((List.getD a (Int.toNat f) (dflt T_beats_Wire)).2).2).2).2).2).1,(((((((List.getD a (Int.toNat f) (dflt T_beats_Wire)).2).2).2).2).2).2).1,((((((((List.getD a (Int.toNat f) (dflt T_beats_Wire)).2).2).2).2).2).2).2).1,(((((((((List.getD a (Int.toNat f) (dflt T_beats_Wire)).2).2).2).2).2).2).2).2).1,((((((((((List.getD a (Int.toNat f) (dflt T_beats_Wire)).2).2).2).2).2).2).2).2).2).1,(((((((((((List.getD a (Int.toNat f) (dflt T_beats_Wire)).2).2).2).2).2).2).2).2).2).2).1,((((((((((((((List.getD a (Int.toNat f) (dflt T_beats_Wire)).2).2).2).2).2).2).2).2).2).2).2).1).1,(((((((((((((List.getD a (Int.toNat f) (dflt T_beats_Wire)).2).2).2).2).2).2).2).2).2).2).2).1).2),(((((((((((((List.getD a (Int.toNat f) (dflt T_beats_Wire)).2).2).2).2).2).2).2).2).2).2).2).2).1,(((((((((((((List.getD a (Int.toNat f) (dflt T_beats_Wire)).2).2).2).2).2).2).2).2).2).2).2).2).2)])) then
 some (.inl (((c ++ [((List.getD a (Int.toNat f) (dflt T_beats_Wire)).1,((List.getD a (Int.toNat f) (dflt T_beats_Wire)).2).1,(((List.getD a (Int.toNat f) (dflt T_beats_Wire)).2).2).1,((((List.getD a (Int.toNat f) (dflt T_beats_Wire)).2).2).2).1,(((((List.getD a (Int.toNat f) (dflt T_beats_Wire)).2).2).2).2).1,((((((List.getD a (Int.toNat f) (dflt T_beats_Wire)).2).2).2).2).2).1,(((((((List.getD a (Int.toNat f) (dflt T_beats_Wire)).2).2).2).2).2).2).1,((((((((List.getD a (Int.toNat f) (dflt T_beats_Wire)).2).2).2).2).2).2).2).1,(((((((((List.getD a (Int.toNat f) (dflt T_beats_Wire)).2).2).2).2).2).2).2).2).1,((((((((((List.getD a (Int.toNat f) (dflt T_beats_Wire)).2).2).2).2).2).2).2).2).2).1,(((((((((((List.getD a (Int.toNat f) (dflt T_beats_Wire)).2).2).2).2).2).2).2).2).2).2).1,((((((((((((((List.getD a (Int.toNat f) (dflt T_beats_Wire)).2).2).2).2).2).2).2).2).2).2).2).1).1,(((((((((((((List.getD a (Int.toNat f) (dflt T_beats_Wire)).2).2).2).2).2).2).2).2).2).2).2).1).2),(((((((((((((List.getD a (Int.toNat f) (dflt T_beats_Wire)).2).2).2).2).2).2).2).2).2).2).2).2).1,(((((((((((((List.getD a (Int.toNat f) (dflt T_beats_Wire)).2).2).2).2).2).2).2).2).2).2).2).2).2)]),IntKind.wrap .i64 (f+(1:Int)),()),()))
 else none
 else none
 else none
 else none
 else none
 else none
 else none
 else
 inrO (bif decide (List.length c=List.length c) then
 some ((),c)
 else none))
 (([],(0:Int),()),())
def e12 (fu:Nat):Ent := ⟨12,(.cons (.hole (.sl T_beats_Wire)) .nil),.nil,(.own .own 44 T_beats_Wire),p12 fu⟩
def d12 (_:Nat):DC := (.seq (.region [opD 2 (.mov (.const vS))] [[]] false) (.seq (.region [opD 3 (.mov (.const vS))] [[]] false) (.seq (.seq (.region [opD 4 (.mov (cD 0))] [[]] false) (.block 0 (.loop ⟨[3,4],(.cons (.own .own 44 T_beats_Wire) (.cons (.hole (.int .i64)) .nil)),[],.nil,[0],[]⟩
 (.seq (.seq (.region [mvD 5 4,mvD 6 0,opD 7 (.len false (tD 6)),opD 8 (.bin .lss (tD 5) (tD 7))] [[],[],[1],[0,2]] false) (.cond (.tmp 8) .skip (.exit 0))) (.seq (.block 1 (.region [mvD 11 3,mvD 12 0,mvD 13 4,opD 14 (.iaddr 15 (tD 12) (tD 13)),opD 15 (.faddr 0 (tD 14)),opD 16 (.load false 1 (tD 15)),mvD 17 0,mvD 18 4,opD 19 (.iaddr 15 (tD 17) (tD 18)),opD 20 (.faddr 1 (tD 19)),opD 21 (.load true 14 (tD 20)),opD 22 (.build 15 [vU,vI,vI,vI,vU,vU,vU,vS,vU,vB,vU,vS,vS,vS,vB] [(0,(1,(tD 16))),(1,(14,(tD 21)))]),oqD 23 (.bslice 44 15 1 [vU,vI,vI,vI,vU,vU,vU,vS,vU,vB,vU,vS,vS,vS,vB] [(0,(tD 22))]) (.ty T_beats_Wire),oqD 24 (.app 44 15 [vU,vI,vI,vI,vU,vU,vU,vS,vU,vB,vU,vS,vS,vS,vB] 184 (tD 11) (tD 23)) (.ty T_beats_Wire),mvD 3 24] [[],[],[],[1,2],[3],[4],[],[],[6,7],[8],[9],[5,10],[11],[0,12],[13,13,0,1,2,3,4,5,6,7,8,9,10,11,12,13]] true)) (.region [mvD 9 4,opD 10 (.bin .add (tD 9) (cD 1)),mvD 4 10] [[],[0],[1,0,1]] false)))))) (.seq (.region [mvD 25 3,mvD 2 25] [[],[0,0]] false) .ret))))
theorem g12 (fu:Nat):(e12 fu).Good Tryd.prog := good_fn orders Tryd.func12 fu (d12 fu) rs12 26 (l := []) trivial
def rs34:List RVx := [(.tmp 2)]
def p34 (_:Nat):(Z1)×(Unit)→Option ((Unit)×(Bool)) := fun ⟨⟨_,_,_,_,_,_,a,_,c,f,h,i,j,k,_⟩,_⟩ =>
bif ((List.length a:Int)==(0:Int)) then
 bif !c then
 bif (f==(0:Int)) then
 bif ((IntKind.wrap .i64 ((List.length h:Int)+(List.length i:Int)))==(0:Int)) then
 bif ((List.length j:Int)==(0:Int)) then
 some ((),!k)
 else
 some ((),false)
 else
 some ((),false)
 else
 some ((),false)
 else
 some ((),false)
else
 some ((),false)
def e34 (fu:Nat):Ent := ⟨34,(.cons Y2 .nil),.nil,(.hole .bool),p34 fu⟩
def d34 (_:Nat):DC := (.seq (.region [opD 1 (.box 42 14 (tD 0)),opD 2 (.mov (.const vB))] [[],[]] false) (.seq (.region [opD 3 (.faddr 6 (tD 1)),opD 4 (.load false 1 (tD 3)),opD 5 (.len false (tD 4)),opD 6 (.bin .eql (tD 5) (cD 0)),mvD 7 6,ogD 8 7 true (.faddr 8 (tD 1)),ogD 9 7 true (.load false 1 (tD 8)),ogD 10 7 true (.not (tD 9)),opD 11 (.pick (tD 7) (tD 10) (.const vB)),mvD 12 11,ogD 13 12 true (.faddr 9 (tD 1)),ogD 14 12 true (.load false 1 (tD 13)),ogD 15 12 true (.bin .eql (tD 14) (.const vU)),opD 16 (.pick (tD 12) (tD 15) (.const vB)),mvD 17 16,ogD 18 17 true (.faddr 10 (tD 1)),ogD 19 17 true (.faddr 0 (tD 18)),ogD 20 17 true (.load false 1 (tD 19)),ogD 21 17 true (.len false (tD 20)),ogD 22 17 true (.faddr 10 (tD 1)),ogD 23 17 true (.faddr 1 (tD 22)),ogD 24 17 true (.load false 1 (tD 23)),ogD 25 17 true (.len false (tD 24)),ogD 26 17 true (.bin .add (tD 21) (tD 25)),ogD 27 17 true (.bin .eql (tD 26) (cD 0)),opD 28 (.pick (tD 17) (tD 27) (.const vB)),mvD 29 28,ogD 30 29 true (.faddr 12 (tD 1)),ogD 31 29 true (.load false 1 (tD 30)),ogD 32 29 true (.len false (tD 31)),ogD 33 29 true (.bin .eql (tD 32) (cD 0)),opD 34 (.pick (tD 29) (tD 33) (.const vB)),mvD 35 34,ogD 36 35 true (.faddr 13 (tD 1)),ogD 37 35 true (.load false 1 (tD 36)),ogD 38 35 true (.not (tD 37)),opD 39 (.pick (tD 35) (tD 38) (.const vB)),mvD 2 39] [[],[0],[1],[2],[3],[4],[5,4],[6,4],[4,7],[8,4],[9],[10,9],[11,9],[9,12],[13,9],[14],[15,14],[16,14],[17,14],[14],[19,14],[20,14],[21,14],[18,22,14],[23,14],[14,24],[25,14],[26],[27,26],[28,26],[29,26],[26,30],[31,26],[32],[33,32],[34,32],[32,35],[36,32,0,1,2,3,4,5,6,7,8,9,10,11,12,13,14,15,16,17,18,19,20,21,22,23,24,25,26,27,28,29,30,31,32,33,34,35,36]] false) .ret))
theorem g34 (fu:Nat):(e34 fu).Good Tryd.prog := good_fn orders Tryd.func34 fu (d34 fu) rs34 40 (l := []) trivial
def rs13:List RVx := [(.tmp 2)]
def p13 (fu:Nat):(Z1)×(Unit)→Option ((Unit)×(Bool)) := fun ⟨⟨a,c,f,h,i,j,k,l,m,n,o,q,s,t,_⟩,_⟩ =>
Option.bind (p34 fu ((a,c,f,h,i,j,k,l,m,n,o,q,s,t,()),())) fun ⟨_,u⟩ =>
bif u then
 bif (a==(5:Int)) then
 some ((),true)
 else
 bif (a==(6:Int)) then
 bif (j==(0:Int)) then
 some ((),(l==(0:Int)))
 else
 some ((),false)
 else
 some ((),false)
else
 some ((),false)
def e13 (fu:Nat):Ent := ⟨13,(.cons Y2 .nil),.nil,(.hole .bool),p13 fu⟩
def d13 (fu:Nat):DC := (.seq (.region [opD 1 (.box 42 14 (tD 0)),opD 2 (.mov (.const vB))] [[],[]] false) (.seq (.region [opD 4 (.load true 14 (tD 1)),oqD 5 (.call 34 [(tD 4)]) (.ent (e34 fu)),mvD 3 5] [[],[0],[1,1,0,1]] false) (.seq (.region [mvD 6 3,mvD 7 6,ogD 8 7 true (.faddr 0 (tD 1)),ogD 9 7 true (.load false 1 (tD 8)),ogD 10 7 true (.bin .eql (tD 9) (cD 5)),ogD 11 7 true (.mov (tD 10)),ogD 12 11 false (.faddr 0 (tD 1)),ogD 13 11 false (.load false 1 (tD 12)),ogD 14 11 false (.bin .eql (tD 13) (cD 6)),ogD 15 11 false (.mov (tD 14)),ogD 16 15 true (.faddr 5 (tD 1)),ogD 17 15 true (.load false 1 (tD 16)),ogD 18 15 true (.bin .eql (tD 17) (.const vU)),ogD 19 11 false (.pick (tD 15) (tD 18) (.const vB)),ogD 20 11 false (.mov (tD 19)),ogD 21 20 true (.faddr 7 (tD 1)),ogD 22 20 true (.load false 1 (tD 21)),ogD 23 20 true (.bin .eql (tD 22) (.const vU)),ogD 24 11 false (.pick (tD 20) (tD 23) (.const vB)),ogD 25 7 true (.pick (tD 11) (.const (.bool true)) (tD 24)),opD 26 (.pick (tD 7) (tD 25) (.const vB)),mvD 2 26] [[],[0],[1],[2,1],[3,1],[4,1,1],[5],[6,5],[7,5],[8,5,5],[9],[10,9],[11,9],[9,12,5],[13,9,5],[14],[15,14],[16,14],[14,17,5],[5,18,1],[1,19],[20,14,0,1,2,3,4,5,6,7,8,9,10,11,12,13,14,15,16,17,18,19,20]] false) .ret)))
theorem g13 (fu:Nat):(e13 fu).Good Tryd.prog := good_fn orders Tryd.func13 fu (d13 fu) rs13 27 (l := [e34 fu]) ⟨g34 fu,trivial⟩
def rs15:List RVx := [(.tmp 2)]
def p15 (_:Nat):(Int)×(Unit)→Option ((Unit)×(Bool)) := fun ⟨a,_⟩ =>
bif decide (a≥(1:Int)) then
 some ((),decide (a≤(7:Int)))
else
 some ((),false)
def e15 (fu:Nat):Ent := ⟨15,(.cons (.hole (.int .i64)) .nil),.nil,(.hole .bool),p15 fu⟩
def d15 (_:Nat):DC := (.seq (.region [opD 2 (.mov (.const vB))] [[]] false) (.seq (.region [mvD 3 0,opD 4 (.bin .geq (tD 3) (cD 1)),mvD 5 4,ogD 6 5 true (.mov (tD 0)),ogD 7 5 true (.bin .leq (tD 6) (cD 7)),opD 8 (.pick (tD 5) (tD 7) (.const vB)),mvD 2 8] [[],[0],[1],[2],[3,2],[2,4],[5,2,0,1,2,3,4,5]] false) .ret))
theorem g15 (fu:Nat):(e15 fu).Good Tryd.prog := good_fn orders Tryd.func15 fu (d15 fu) rs15 9 (l := []) trivial
def rs16:List RVx := [(.tmp 2)]
def p16 (_:Nat):(List (Int))×(Unit)→Option ((Unit)×((List (Int))×((Int)×((Unit)×(Unit))))) := fun ⟨a,_⟩ =>
bif decide (List.length a≤maxLen∧List.length a * 1≤140737488355328) then
 bif decide (List.length a=List.length a) then
 some ((),(a,(0:Int),(),()))
 else none
else none
def e16 (fu:Nat):Ent := ⟨16,(.cons (.hole (.sl (.int .u8))) .nil),.nil,(.box 79 3 (.cons (.own .own 5 (.int .u8)) (.cons (.hole (.int .i64)) (.cons (.nilv 1) .nil)))),p16 fu⟩
def d16 (_:Nat):DC := (.seq (.region [opD 2 (.mov (.const (.pointer none)))] [[]] false) (.seq (.region [mvD 3 0,oqD 4 (.app 5 1 [(.int .u8 0)] 1 (.const vS) (tD 3)) (.ty (.int .u8)),opD 5 (.build 3 [vS,vI,.nilIface] [(0,(1,(tD 4)))]),opD 6 (.box 79 3 (tD 5)),mvD 2 6] [[],[0],[1],[2],[3,1,0,1,2,3]] false) .ret))
theorem g16 (fu:Nat):(e16 fu).Good Tryd.prog := good_fn orders Tryd.func16 fu (d16 fu) rs16 7 (l := []) trivial
def rs37:List RVx := [(.tmp 2),(.tmp 3),(.tmp 4)]
def p37 (fu:Nat):(List (Int))×(Unit)→Option ((Unit)×((Int)×((Int)×((Int)×(Unit))))) := fun ⟨a,_⟩ =>
loopO (S := ((Int)×((Int)×(Unit)))×(Unit)) fu (fun ⟨⟨c,f,_⟩,_⟩ =>
 bif decide (f<(10:Int)) then
 bif (f==(List.length a:Int)) then
 inrO (some ((),((0:Int),(0:Int),(11:Int),())))
 else
 bif decide ((0:Int)≤f∧f<(List.length a:Int)) then
 bif decide (Int.toNat f<List.length a) then
 orK (E := ((Bool)×((Bool)×(Unit)))×(Unit))
 (bif (f==(9:Int)) then
 bif ((List.getD a (Int.toNat f) (dflt (.int .u8))) != (1:Int)) then
 inrO (inrO (some ((),((0:Int),(0:Int),(12:Int),()))))
 else
 bif ((List.getD a (Int.toNat f) (dflt (.int .u8)))==(0:Int)) then
 bif decide (f>(0:Int)) then
 inrO (inrO (some ((),((0:Int),(0:Int),(12:Int),()))))
 else
 some (.inl ((true,decide (f>(0:Int)),()),()))
 else
 some (.inl ((false,false,()),()))
 else
 bif ((List.getD a (Int.toNat f) (dflt (.int .u8)))==(0:Int)) then
 bif decide (f>(0:Int)) then
 inrO (inrO (some ((),((0:Int),(0:Int),(12:Int),()))))
 else
 some (.inl ((true,decide (f>(0:Int)),()),()))
 else
 some (.inl ((false,false,()),())))
 fun ⟨⟨_,_,_⟩,_⟩ =>
 bif decide ((0:Int)≤(IntKind.wrap .i64 ((7:Int) * f))) then
 bif decide ((List.getD a (Int.toNat f) (dflt (.int .u8)))<(128:Int)) then
 inrO (some ((),(IntKind.wrap .u64 ((BitVec.ofInt (IntKind.bits .u64) c ||| BitVec.ofInt (IntKind.bits .u64) (IntKind.wrap .u64 ((IntKind.wrap .u64 (IntKind.wrap .u8 ((BitVec.ofInt (IntKind.bits .u8) (List.getD a (Int.toNat f) (dflt (.int .u8))) &&& BitVec.ofInt (IntKind.bits .u8) (127:Int)).toNat:Int))) * 2 ^ (min (Int.toNat (IntKind.wrap .i64 ((7:Int) * f))) (IntKind.bits .u64))))).toNat:Int),IntKind.wrap .i64 (f+(1:Int)),(0:Int),())))
 else
 some (.inl ((IntKind.wrap .u64 ((BitVec.ofInt (IntKind.bits .u64) c ||| BitVec.ofInt (IntKind.bits .u64) (IntKind.wrap .u64 ((IntKind.wrap .u64 (IntKind.wrap .u8 ((BitVec.ofInt (IntKind.bits .u8) (List.getD a (Int.toNat f) (dflt (.int .u8))) &&& BitVec.ofInt (IntKind.bits .u8) (127:Int)).toNat:Int))) * 2 ^ (min (Int.toNat (IntKind.wrap .i64 ((7:Int) * f))) (IntKind.bits .u64))))).toNat:Int),IntKind.wrap .i64 (f+(1:Int)),()),()))
 else none
 else none
 else none
 else
 inrO (some ((),((0:Int),(0:Int),(12:Int),()))))
 (((0:Int),(0:Int),()),())
def e37 (fu:Nat):Ent := ⟨37,(.cons (.hole (.sl (.int .u8))) .nil),.nil,(.tup 3 (.cons (.hole (.int .u64)) (.cons (.hole (.int .i64)) (.cons (.hole (.int .i64)) .nil)))),p37 fu⟩
def d37 (_:Nat):DC := (.seq (.region [opD 2 (.mov (.const vU)),opD 3 (.mov (cD 0)),opD 4 (.mov (cD 0))] [[],[0],[1]] false) (.seq (.region [opD 5 (.mov (.const vU))] [[]] false) (.seq (.seq (.region [opD 9 (.mov (cD 0))] [[]] false) (.block 0 (.loop ⟨[5,9],(.cons (.hole (.int .u64)) (.cons (.hole (.int .i64)) .nil)),[],.nil,[0],[]⟩
 (.seq (.region [opD 10 (.bin .lss (tD 9) (cD 10))] [[]] false) (.seq (.cond (.tmp 10) .skip (.exit 0)) (.seq (.block 1 (.seq (.region [mvD 11 9,mvD 6 11] [[],[0,0]] false) (.seq (.seq (.region [mvD 12 6,mvD 13 0,opD 14 (.len false (tD 13)),opD 15 (.bin .eql (tD 12) (tD 14))] [[],[],[1],[0,2]] false) (.cond (.tmp 15) (.seq (.region [opD 2 (.mov (.const vU)),opD 3 (.mov (cD 0)),opD 4 (.mov (cD 11))] [[],[0,0],[1,0,1]] false) .ret) .skip)) (.seq (.region [mvD 16 0,mvD 17 6,opD 18 (.iaddr 1 (tD 16) (tD 17)),opD 19 (.load false 1 (tD 18)),mvD 7 19] [[],[],[0,1],[2],[3,0,1,2,3]] false) (.seq (.region [mvD 20 6,opD 21 (.bin .eql (tD 20) (cD 9)),mvD 8 21] [[],[0],[1,0,1]] false) (.join ⟨[30,33],(.cons (.hole .bool) (.cons (.hole .bool) .nil)),[],.nil,[0,5,6,7,9],[]⟩
 (.seq (.region [mvD 22 8,mvD 23 22,ogD 24 23 true (.mov (tD 7)),ogD 25 23 true (.bin .neq (tD 24) (.const (.int .u8 1))),opD 26 (.pick (tD 23) (tD 25) (.const vB)),mvD 27 26,ogD 28 27 false (.mov (tD 7)),ogD 29 27 false (.bin .eql (tD 28) (.const (.int .u8 0))),ogD 30 27 false (.mov (tD 29)),ogD 31 30 true (.mov (tD 6)),ogD 32 30 true (.bin .gtr (tD 31) (cD 0)),ogD 33 27 false (.pick (tD 30) (tD 32) (.const vB)),opD 34 (.pick (tD 27) (.const (.bool true)) (tD 33))] [[],[0],[1],[2,1],[1,3],[4,1],[5],[6,5],[7,5,5],[8],[9,8],[8,10,5],[5,11]] false) (.cond (.tmp 34) (.exit 0) .skip))
 (.seq (.region [mvD 35 5,mvD 36 7,opD 37 (.bin .and (tD 36) (.const (.int .u8 127))),opD 38 (.conv .u64 (tD 37)),mvD 39 6,opD 40 (.bin .mul (cD 7) (tD 39)),opD 41 (.bin .shl (tD 38) (tD 40)),opD 42 (.bin .or (tD 35) (tD 41)),mvD 5 42] [[],[],[1],[2],[],[4],[3,5],[0,6],[7,0,1,2,3,4,5,6,7]] false) (.seq (.region [mvD 43 7,opD 44 (.bin .lss (tD 43) (.const (.int .u8 128)))] [[],[0]] false) (.cond (.tmp 44) (.seq (.region [mvD 45 5,mvD 46 6,opD 47 (.bin .add (tD 46) (cD 1)),mvD 2 45,mvD 3 47,opD 4 (.mov (cD 0))] [[],[],[1],[0,0],[2,3,0,1,2,3],[4,0,1,2,3,4]] false) .ret) .skip))))))))) (.region [opD 48 (.bin .add (tD 9) (cD 1)),mvD 9 48] [[],[0]] false))))))) (.seq (.region [opD 2 (.mov (.const vU)),opD 3 (.mov (cD 0)),opD 4 (.mov (cD 12))] [[],[0,0],[1,0,1]] false) .ret))))
theorem g37 (fu:Nat):(e37 fu).Good Tryd.prog := good_fn orders Tryd.func37 fu (d37 fu) rs37 49 (l := []) trivial
def rs35:List RVx := []
def p35 (_:Nat):((List (Int))×((Int)×((Unit)×(Unit))))×((Int)×((Int)×(Unit)))→Option ((((List (Int))×((Int)×(((Bool)×(((Int)×((Int)×(Unit)))×(Unit)))×(Unit))))×((Unit)×(Unit)))×(Unit)) := fun ⟨⟨a,c,_,_⟩,f,h,_⟩ =>
bif (h != (0:Int)) then
 bif decide (List.length a=List.length a) then
 some (((a,c,(true,(h,f,()),dflt .unit),()),(),()),())
 else none
else
 bif decide (List.length a=List.length a) then
 some (((a,c,(false,dflt (.pair (.int .i64) (.pair (.int .i64) .unit)),()),()),(),()),())
 else none
def e35 (fu:Nat):Ent := ⟨35,(.cons (.box 79 3 (.cons (.own .own 5 (.int .u8)) (.cons (.hole (.int .i64)) (.cons (.nilv 1) .nil)))) (.cons (.hole (.int .i64)) (.cons (.hole (.int .i64)) .nil))),(.cons Y3 (.cons .dead .nil)),(.tup 0 .nil),p35 fu⟩
def d35 (_:Nat):DC := (.seq (.region [mvD 6 0,opD 7 (.pure .nilc [(tD 6)]),opD 8 (.faddr 2 (tD 7)),opD 9 (.load false 1 (tD 8)),opD 10 (.pure (.nilq 1 false) [(tD 9)]),mvD 11 10,ogD 12 11 true (.mov (tD 2)),ogD 13 11 true (.bin .neq (tD 12) (cD 0)),opD 14 (.pick (tD 11) (tD 13) (.const vB))] [[],[0],[1],[2],[3],[4],[5],[6,5],[5,7]] false) (.cond (.tmp 14) (.region [mvD 15 0,mvD 16 2,mvD 17 1,opD 18 (.build 2 [vI,vI] [(0,(1,(tD 16))),(1,(1,(tD 17)))]),opD 19 (.box 92 2 (tD 18)),opD 20 (.ifc 88 (tD 19)),opD 21 (.pure .nilc [(tD 15)]),opD 22 (.faddr 2 (tD 21)),onD (.store 1 (tD 22) (tD 20))] [[],[],[],[1,2],[3],[4],[0,0,1,2,3,4,5],[6,0,1,2,3,4,5],[7,5,0,1,2,3,4,5]] false) .skip))
theorem g35 (fu:Nat):(e35 fu).Good Tryd.prog := good_fn orders Tryd.func35 fu (d35 fu) rs35 23 (l := []) trivial
def rs18:List RVx := []
def p18 (fu:Nat):((List (Int))×((Int)×((Unit)×(Unit))))×((Int)×(Unit))→Option ((((List (Int))×((Int)×(((Bool)×(((Int)×((Int)×(Unit)))×(Unit)))×(Unit))))×((Unit)×(Unit)))×(Unit)) := fun ⟨⟨a,c,_,_⟩,f,_⟩ =>
bif decide (List.length a=List.length a) then
 Option.bind (p35 fu ((a,c,(),()),c,f,())) fun ⟨⟨⟨h,i,⟨j,⟨k,l,_⟩,_⟩,_⟩,_,_⟩,_⟩ =>
 bif decide (List.length h=List.length h) then
 some (((h,i,(j,(k,l,()),()),()),(),()),())
 else none
else none
def e18 (fu:Nat):Ent := ⟨18,(.cons (.box 79 3 (.cons (.own .own 5 (.int .u8)) (.cons (.hole (.int .i64)) (.cons (.nilv 1) .nil)))) (.cons (.hole (.int .i64)) .nil)),(.cons Y3 (.cons .dead .nil)),(.tup 0 .nil),p18 fu⟩
def d18 (fu:Nat):DC := (.region [mvD 4 0,mvD 5 0,opD 6 (.pure .nilc [(tD 5)]),opD 7 (.faddr 1 (tD 6)),opD 8 (.load false 1 (tD 7)),mvD 9 1,oqD 10 (.call 35 [(tD 4),(tD 8),(tD 9)]) (.ent (e35 fu))] [[],[],[1],[2],[3],[],[0,4,5]] false)
theorem g18 (fu:Nat):(e18 fu).Good Tryd.prog := good_fn orders Tryd.func18 fu (d18 fu) rs18 11 (l := [e35 fu]) ⟨g35 fu,trivial⟩
def rs19:List RVx := [(.tmp 2)]
def p19 (fu:Nat):((List (Int))×((Int)×((Unit)×(Unit))))×(Unit)→Option ((((List (Int))×((Int)×(((Bool)×(((Int)×((Int)×(Unit)))×(Unit)))×(Unit))))×((Unit)×(Unit)))×(Int)) := fun ⟨⟨a,c,_,_⟩,_⟩ =>
bif decide ((0:Int)≤c) then
 bif decide (Int.toNat c≤List.length a∧0+(List.length a)≤List.length a) then
 bif decide ((Int.toNat c)+((List.length a)-(Int.toNat c))≤List.length a) then
 Option.bind (p37 fu (sub' a (Int.toNat c) ((List.length a)-(Int.toNat c)),())) fun ⟨_,⟨f,h,i,_⟩⟩ =>
 bif decide (List.length a=List.length a) then
 Option.bind (p18 fu ((a,c,(),()),i,())) fun ⟨⟨⟨j,k,⟨l,⟨m,n,_⟩,_⟩,_⟩,_,_⟩,_⟩ =>
 bif decide (List.length j=List.length j) then
 some (((j,IntKind.wrap .i64 (k+h),(l,(m,n,()),()),()),(),()),f)
 else none
 else none
 else none
 else none
else none
def e19 (fu:Nat):Ent := ⟨19,(.cons (.box 79 3 (.cons (.own .own 5 (.int .u8)) (.cons (.hole (.int .i64)) (.cons (.nilv 1) .nil)))) .nil),(.cons Y3 (.cons .dead .nil)),(.hole (.int .u64)),p19 fu⟩
def d19 (fu:Nat):DC := (.seq (.region [opD 2 (.mov (.const vU))] [[]] false) (.seq (.seq (.region [mvD 6 0,opD 7 (.pure .nilc [(tD 6)]),opD 8 (.faddr 2 (tD 7)),opD 9 (.load false 1 (tD 8)),opD 10 (.pure (.nilq 1 true) [(tD 9)])] [[],[0],[1],[2],[3]] false) (.cond (.tmp 10) (.seq (.region [opD 2 (.mov (.const vU))] [[]] false) .ret) .skip)) (.seq (.region [mvD 12 0,opD 13 (.pure .nilc [(tD 12)]),opD 14 (.faddr 0 (tD 13)),opD 15 (.load false 1 (tD 14)),mvD 16 0,opD 17 (.pure .nilc [(tD 16)]),opD 18 (.faddr 1 (tD 17)),opD 19 (.load false 1 (tD 18)),opD 20 (.slc 1 (tD 15) (some (tD 19)) none),oqD 21 (.call 37 [(tD 20)]) (.ent (e37 fu)),mvD 11 21,opD 22 (.ext (tD 11) 0),opD 23 (.ext (tD 11) 1),opD 24 (.ext (tD 11) 2),mvD 3 22,mvD 4 23,mvD 5 24] [[],[0],[1],[2],[],[4],[5],[6],[3,7],[8],[9],[10],[10],[10],[11,9,0,1,2,3,4,5,6,7,8,9,10,11],[12,14,0,1,2,3,4,5,6,7,8,9,10,11,12,14],[13,15,0,1,2,3,4,5,6,7,8,9,10,11,12,13,14,15]] true) (.seq (.region [mvD 25 0,mvD 26 5,oqD 27 (.call 18 [(tD 25),(tD 26)]) (.ent (e18 fu))] [[],[],[0,1]] false) (.seq (.region [mvD 28 0,opD 29 (.pure .nilc [(tD 28)]),opD 30 (.faddr 1 (tD 29)),opD 31 (.load false 1 (tD 30)),mvD 32 4,opD 33 (.bin .add (tD 31) (tD 32)),opD 34 (.pure .nilc [(tD 28)]),opD 35 (.faddr 1 (tD 34)),onD (.store 1 (tD 35) (tD 33))] [[],[0],[1],[2],[],[3,4],[0,0,1,2,3,4,5],[6,0,1,2,3,4,5],[7,5,0,1,2,3,4,5]] false) (.seq (.region [mvD 36 3,mvD 2 36] [[],[0,0]] false) .ret))))))
theorem g19 (fu:Nat):(e19 fu).Good Tryd.prog := good_fn orders Tryd.func19 fu (d19 fu) rs19 37 (l := [e37 fu,e18 fu]) ⟨g37 fu,g18 fu,trivial⟩
def p35_1 (_:Nat):((List (Int))×((Int)×(((Bool)×(((Int)×((Int)×(Unit)))×(Unit)))×(Unit))))×((Int)×((Int)×(Unit)))→Option ((((List (Int))×((Int)×(((Bool)×(((Int)×((Int)×(Unit)))×(Unit)))×(Unit))))×((Unit)×(Unit)))×(Unit)) := fun ⟨⟨a,c,⟨f,⟨h,i,_⟩,_⟩,_⟩,j,k,_⟩ =>
bif f then
 bif decide (List.length a=List.length a) then
 some (((a,c,(true,(h,i,()),dflt .unit),()),(),()),())
 else none
else
 bif (k != (0:Int)) then
 bif decide (List.length a=List.length a) then
 some (((a,c,(true,(k,j,()),dflt .unit),()),(),()),())
 else none
 else
 bif decide (List.length a=List.length a) then
 some (((a,c,(false,dflt (.pair (.int .i64) (.pair (.int .i64) .unit)),()),()),(),()),())
 else none
def e35_1 (fu:Nat):Ent := ⟨35,(.cons Y4 (.cons (.hole (.int .i64)) (.cons (.hole (.int .i64)) .nil))),(.cons Y3 (.cons .dead .nil)),(.tup 0 .nil),p35_1 fu⟩
def d35_1 (_:Nat):DC := (.seq (.region [mvD 6 0,opD 7 (.pure .nilc [(tD 6)]),opD 8 (.faddr 2 (tD 7)),opD 9 (.load false 1 (tD 8)),opD 10 (.pure (.nilq 1 false) [(tD 9)]),mvD 11 10,ogD 12 11 true (.mov (tD 2)),ogD 13 11 true (.bin .neq (tD 12) (cD 0)),opD 14 (.pick (tD 11) (tD 13) (.const vB))] [[],[0],[1],[2],[3],[4],[5],[6,5],[5,7]] false) (.cond (.tmp 14) (.region [mvD 15 0,mvD 16 2,mvD 17 1,opD 18 (.build 2 [vI,vI] [(0,(1,(tD 16))),(1,(1,(tD 17)))]),opD 19 (.box 92 2 (tD 18)),opD 20 (.ifc 88 (tD 19)),opD 21 (.pure .nilc [(tD 15)]),opD 22 (.faddr 2 (tD 21)),onD (.store 1 (tD 22) (tD 20))] [[],[],[],[1,2],[3],[4],[0,0,1,2,3,4,5],[6,0,1,2,3,4,5],[7,5,0,1,2,3,4,5]] false) .skip))
theorem g35_1 (fu:Nat):(e35_1 fu).Good Tryd.prog := good_fn orders Tryd.func35 fu (d35_1 fu) rs35 23 (l := []) trivial
def rs36:List RVx := [(.tmp 4)]
def p36 (_:Nat):((List (Int))×((Int)×(((Bool)×(((Int)×((Int)×(Unit)))×(Unit)))×(Unit))))×((Int)×(Unit))→Option ((((List (Int))×((Int)×(((Bool)×(((Int)×((Int)×(Unit)))×(Unit)))×(Unit))))×((Unit)×(Unit)))×(Int)) := fun ⟨⟨a,c,⟨f,⟨h,i,_⟩,_⟩,_⟩,j,_⟩ =>
bif f then
 bif decide (List.length a=List.length a) then
 some (((a,c,(true,(h,i,()),dflt .unit),()),(),()),(0:Int))
 else none
else
 bif decide (List.length a=List.length a) then
 some (((a,c,(false,dflt (.pair (.int .i64) (.pair (.int .i64) .unit)),()),()),(),()),j)
 else none
def e36 (fu:Nat):Ent := ⟨36,(.cons Y4 (.cons (.hole (.int .i64)) .nil)),(.cons Y3 (.cons .dead .nil)),(.hole (.int .i64)),p36 fu⟩
def d36 (_:Nat):DC := (.seq (.region [opD 4 (.mov (cD 0))] [[]] false) (.seq (.seq (.region [mvD 6 0,opD 7 (.pure .nilc [(tD 6)]),opD 8 (.faddr 2 (tD 7)),opD 9 (.load false 1 (tD 8)),opD 10 (.pure (.nilq 1 true) [(tD 9)])] [[],[0],[1],[2],[3]] false) (.cond (.tmp 10) (.seq (.region [opD 5 (.mov (cD 0))] [[]] false) (.seq (.region [mvD 11 5,mvD 4 11] [[],[0,0]] false) .ret)) .skip)) (.seq (.region [mvD 12 1,mvD 4 12] [[],[0,0]] false) .ret)))
theorem g36 (fu:Nat):(e36 fu).Good Tryd.prog := good_fn orders Tryd.func36 fu (d36 fu) rs36 13 (l := []) trivial
def rs17:List RVx := [(.tmp 4)]
def p17 (fu:Nat):((List (Int))×((Int)×((Unit)×(Unit))))×((Int)×(Unit))→Option ((((List (Int))×((Int)×(((Bool)×(((Int)×((Int)×(Unit)))×(Unit)))×(Unit))))×((Unit)×(Unit)))×(Int)) := fun ⟨⟨a,c,_,_⟩,f,_⟩ =>
bif decide (List.length a=List.length a) then
 Option.bind (p19 fu ((a,c,(),()),())) fun ⟨⟨⟨h,i,⟨j,⟨k,l,_⟩,_⟩,_⟩,_,_⟩,m⟩ =>
 orK (E := (Unit)×(((List (Int))×((Int)×(((Bool)×(((Int)×((Int)×(Unit)))×(Unit)))×(Unit))))×(Unit)))
 (orK (E := ((Bool)×(Unit))×(Unit))
 (bif decide (f<(0:Int)) then
 some (.inl ((true,()),()))
 else
 some (.inl ((decide (m>(IntKind.wrap .u64 f)),()),())))
 fun ⟨⟨n,_⟩,_⟩ =>
 bif n then
 bif decide (List.length h=List.length h) then
 Option.bind (p35_1 fu ((h,i,(j,(k,l,()),()),()),c,(13:Int),())) fun ⟨⟨⟨o,q,⟨s,⟨t,u,_⟩,_⟩,_⟩,_,_⟩,_⟩ =>
 bif decide (List.length o=List.length o) then
 some (.inl ((),((o,q,(s,(t,u,()),()),()),())))
 else none
 else none
 else
 bif decide (List.length h=List.length h) then
 some (.inl ((),((h,i,(j,(k,l,()),()),()),())))
 else none)
 fun ⟨_,⟨⟨w,x,⟨y,⟨z,a0,_⟩,_⟩,_⟩,_⟩⟩ =>
 orK (E := (Unit)×(((List (Int))×((Int)×(((Bool)×(((Int)×((Int)×(Unit)))×(Unit)))×(Unit))))×(Unit)))
 (bif decide (m>(IntKind.wrap .u64 (IntKind.wrap .i64 (((List.length w):Int)-x)))) then
 bif decide (List.length w=List.length w) then
 Option.bind (p35_1 fu ((w,x,(y,(z,a0,()),()),()),c,(11:Int),())) fun ⟨⟨⟨c0,f0,⟨h0,⟨i0,j0,_⟩,_⟩,_⟩,_,_⟩,_⟩ =>
 bif decide (List.length c0=List.length c0) then
 some (.inl ((),((c0,f0,(h0,(i0,j0,()),()),()),())))
 else none
 else none
 else
 bif decide (List.length w=List.length w) then
 some (.inl ((),((w,x,(y,(z,a0,()),()),()),())))
 else none)
 fun ⟨_,⟨⟨w,x,⟨y,⟨z,a0,_⟩,_⟩,_⟩,_⟩⟩ =>
 bif decide (List.length w=List.length w) then
 Option.bind (p36 fu ((w,x,(y,(z,a0,()),()),()),IntKind.wrap .i64 m,())) fun ⟨⟨⟨k0,l0,⟨m0,⟨n0,o0,_⟩,_⟩,_⟩,_,_⟩,q0⟩ =>
 bif decide (List.length k0=List.length k0) then
 some (((k0,l0,(m0,(n0,o0,()),()),()),(),()),q0)
 else none
 else none
else none
def e17 (fu:Nat):Ent := ⟨17,(.cons (.box 79 3 (.cons (.own .own 5 (.int .u8)) (.cons (.hole (.int .i64)) (.cons (.nilv 1) .nil)))) (.cons (.hole (.int .i64)) .nil)),(.cons Y3 (.cons .dead .nil)),(.hole (.int .i64)),p17 fu⟩
def d17 (fu:Nat):DC := (.seq (.region [opD 4 (.mov (cD 0))] [[]] false) (.seq (.region [mvD 7 0,opD 8 (.pure .nilc [(tD 7)]),opD 9 (.faddr 1 (tD 8)),opD 10 (.load false 1 (tD 9)),mvD 5 10] [[],[0],[1],[2],[3,0,1,2,3]] false) (.seq (.region [mvD 11 0,oqD 12 (.call 19 [(tD 11)]) (.ent (e19 fu)),mvD 6 12] [[],[0],[1,1,0,1]] false) (.join ⟨[],.nil,[(0,79,3)],(.cons Y3 .nil),[0,5,6],[1]⟩
 (.join ⟨[20],(.cons (.hole .bool) .nil),[],.nil,[0,5,6],[0,1,116]⟩
 (.region [mvD 13 1,opD 14 (.bin .lss (tD 13) (cD 0)),mvD 15 14,ogD 16 15 false (.mov (tD 6)),ogD 17 15 false (.mov (tD 1)),ogD 18 15 false (.conv .u64 (tD 17)),ogD 19 15 false (.bin .gtr (tD 16) (tD 18)),opD 20 (.pick (tD 15) (.const (.bool true)) (tD 19))] [[],[0],[1],[2],[2],[4,2],[3,5,2],[2,6]] false)
 (.cond (.tmp 20) (.region [mvD 21 0,mvD 22 5,oqD 23 (.call 35 [(tD 21),(tD 22),(cD 13)]) (.ent (e35_1 fu))] [[],[],[0,1]] false) .skip))
 (.join ⟨[],.nil,[(0,79,3)],(.cons Y3 .nil),[0,6],[1]⟩
 (.seq (.region [mvD 24 6,mvD 25 0,opD 26 (.pure .nilc [(tD 25)]),opD 27 (.faddr 0 (tD 26)),opD 28 (.load false 1 (tD 27)),opD 29 (.len false (tD 28)),mvD 30 0,opD 31 (.pure .nilc [(tD 30)]),opD 32 (.faddr 1 (tD 31)),opD 33 (.load false 1 (tD 32)),opD 34 (.bin .sub (tD 29) (tD 33)),opD 35 (.conv .u64 (tD 34)),opD 36 (.bin .gtr (tD 24) (tD 35))] [[],[],[1],[2],[3],[4],[],[6],[7],[8],[5,9],[10],[0,11]] true) (.cond (.tmp 36) (.region [mvD 37 0,mvD 38 5,oqD 39 (.call 35 [(tD 37),(tD 38),(cD 11)]) (.ent (e35_1 fu))] [[],[],[0,1]] false) .skip))
 (.seq (.region [mvD 40 0,mvD 41 6,opD 42 (.conv .i64 (tD 41)),oqD 43 (.call 36 [(tD 40),(tD 42)]) (.ent (e36 fu)),mvD 4 43] [[],[],[1],[0,2],[3,3,0,1,2,3]] false) .ret))))))
theorem g17 (fu:Nat):(e17 fu).Good Tryd.prog := good_fn orders Tryd.func17 fu (d17 fu) rs17 44 (l := [e19 fu,e35_1 fu,e35_1 fu,e36 fu]) ⟨g19 fu,g35_1 fu,g35_1 fu,g36 fu,trivial⟩
def p18_1 (fu:Nat):((List (Int))×((Int)×(((Bool)×(((Int)×((Int)×(Unit)))×(Unit)))×(Unit))))×((Int)×(Unit))→Option ((((List (Int))×((Int)×(((Bool)×(((Int)×((Int)×(Unit)))×(Unit)))×(Unit))))×((Unit)×(Unit)))×(Unit)) := fun ⟨⟨a,c,⟨f,⟨h,i,_⟩,_⟩,_⟩,j,_⟩ =>
bif f then
 bif decide (List.length a=List.length a) then
 Option.bind (p35_1 fu ((a,c,(true,(h,i,()),dflt .unit),()),c,j,())) fun ⟨⟨⟨k,l,⟨m,⟨n,o,_⟩,_⟩,_⟩,_,_⟩,_⟩ =>
 bif decide (List.length k=List.length k) then
 some (((k,l,(m,(n,o,()),()),()),(),()),())
 else none
 else none
else
 bif decide (List.length a=List.length a) then
 Option.bind (p35_1 fu ((a,c,(false,dflt (.pair (.int .i64) (.pair (.int .i64) .unit)),()),()),c,j,())) fun ⟨⟨⟨q,s,⟨t,⟨u,w,_⟩,_⟩,_⟩,_,_⟩,_⟩ =>
 bif decide (List.length q=List.length q) then
 some (((q,s,(t,(u,w,()),()),()),(),()),())
 else none
 else none
def e18_1 (fu:Nat):Ent := ⟨18,(.cons Y4 (.cons (.hole (.int .i64)) .nil)),(.cons Y3 (.cons .dead .nil)),(.tup 0 .nil),p18_1 fu⟩
def d18_1 (fu:Nat):DC := (.region [mvD 4 0,mvD 5 0,opD 6 (.pure .nilc [(tD 5)]),opD 7 (.faddr 1 (tD 6)),opD 8 (.load false 1 (tD 7)),mvD 9 1,oqD 10 (.call 35 [(tD 4),(tD 8),(tD 9)]) (.ent (e35_1 fu))] [[],[],[1],[2],[3],[],[0,4,5]] false)
theorem g18_1 (fu:Nat):(e18_1 fu).Good Tryd.prog := good_fn orders Tryd.func18 fu (d18_1 fu) rs18 11 (l := [e35_1 fu]) ⟨g35_1 fu,trivial⟩
def p19_1 (fu:Nat):((List (Int))×((Int)×(((Bool)×(((Int)×((Int)×(Unit)))×(Unit)))×(Unit))))×(Unit)→Option ((((List (Int))×((Int)×(((Bool)×(((Int)×((Int)×(Unit)))×(Unit)))×(Unit))))×((Unit)×(Unit)))×(Int)) := fun ⟨⟨a,c,⟨f,⟨h,i,_⟩,_⟩,_⟩,_⟩ =>
bif f then
 bif decide (List.length a=List.length a) then
 some (((a,c,(true,(h,i,()),dflt .unit),()),(),()),(0:Int))
 else none
else
 bif decide ((0:Int)≤c) then
 bif decide (Int.toNat c≤List.length a∧0+(List.length a)≤List.length a) then
 bif decide ((Int.toNat c)+((List.length a)-(Int.toNat c))≤List.length a) then
 Option.bind (p37 fu (sub' a (Int.toNat c) ((List.length a)-(Int.toNat c)),())) fun ⟨_,⟨j,k,l,_⟩⟩ =>
 bif decide (List.length a=List.length a) then
 Option.bind (p18 fu ((a,c,(),()),l,())) fun ⟨⟨⟨m,n,⟨o,⟨q,s,_⟩,_⟩,_⟩,_,_⟩,_⟩ =>
 bif decide (List.length m=List.length m) then
 some (((m,IntKind.wrap .i64 (n+k),(o,(q,s,()),()),()),(),()),j)
 else none
 else none
 else none
 else none
 else none
def e19_1 (fu:Nat):Ent := ⟨19,(.cons Y4 .nil),(.cons Y3 (.cons .dead .nil)),(.hole (.int .u64)),p19_1 fu⟩
def d19_1 (fu:Nat):DC := (.seq (.region [opD 2 (.mov (.const vU))] [[]] false) (.seq (.seq (.region [mvD 6 0,opD 7 (.pure .nilc [(tD 6)]),opD 8 (.faddr 2 (tD 7)),opD 9 (.load false 1 (tD 8)),opD 10 (.pure (.nilq 1 true) [(tD 9)])] [[],[0],[1],[2],[3]] false) (.cond (.tmp 10) (.seq (.region [opD 2 (.mov (.const vU))] [[]] false) .ret) .skip)) (.seq (.region [mvD 12 0,opD 13 (.pure .nilc [(tD 12)]),opD 14 (.faddr 0 (tD 13)),opD 15 (.load false 1 (tD 14)),mvD 16 0,opD 17 (.pure .nilc [(tD 16)]),opD 18 (.faddr 1 (tD 17)),opD 19 (.load false 1 (tD 18)),opD 20 (.slc 1 (tD 15) (some (tD 19)) none),oqD 21 (.call 37 [(tD 20)]) (.ent (e37 fu)),mvD 11 21,opD 22 (.ext (tD 11) 0),opD 23 (.ext (tD 11) 1),opD 24 (.ext (tD 11) 2),mvD 3 22,mvD 4 23,mvD 5 24] [[],[0],[1],[2],[],[4],[5],[6],[3,7],[8],[9],[10],[10],[10],[11,9,0,1,2,3,4,5,6,7,8,9,10,11],[12,14,0,1,2,3,4,5,6,7,8,9,10,11,12,14],[13,15,0,1,2,3,4,5,6,7,8,9,10,11,12,13,14,15]] true) (.seq (.region [mvD 25 0,mvD 26 5,oqD 27 (.call 18 [(tD 25),(tD 26)]) (.ent (e18 fu))] [[],[],[0,1]] false) (.seq (.region [mvD 28 0,opD 29 (.pure .nilc [(tD 28)]),opD 30 (.faddr 1 (tD 29)),opD 31 (.load false 1 (tD 30)),mvD 32 4,opD 33 (.bin .add (tD 31) (tD 32)),opD 34 (.pure .nilc [(tD 28)]),opD 35 (.faddr 1 (tD 34)),onD (.store 1 (tD 35) (tD 33))] [[],[0],[1],[2],[],[3,4],[0,0,1,2,3,4,5],[6,0,1,2,3,4,5],[7,5,0,1,2,3,4,5]] false) (.seq (.region [mvD 36 3,mvD 2 36] [[],[0,0]] false) .ret))))))
theorem g19_1 (fu:Nat):(e19_1 fu).Good Tryd.prog := good_fn orders Tryd.func19 fu (d19_1 fu) rs19 37 (l := [e37 fu,e18 fu]) ⟨g37 fu,g18 fu,trivial⟩
def rs59:List RVx := [(.tmp 4)]
def p59_2 (fu:Nat):((List (Int))×((Int)×(((Bool)×(((Int)×((Int)×(Unit)))×(Unit)))×(Unit))))×((Int)×(Unit))→Option ((((List (Int))×((Int)×(((Bool)×(((Int)×((Int)×(Unit)))×(Unit)))×(Unit))))×((Unit)×(Unit)))×(List (Int))) := fun ⟨⟨a,c,⟨f,⟨h,i,_⟩,_⟩,_⟩,j,_⟩ =>
bif f then
 orK (E := (Unit)×(((List (Int))×((Int)×(((Bool)×(((Int)×((Int)×(Unit)))×(Unit)))×(Unit))))×(Unit)))
 (bif decide (List.length a=List.length a) then
 some (.inl ((),((a,c,(true,(h,i,()),dflt .unit),()),())))
 else none)
 fun ⟨_,⟨⟨k,l,⟨m,⟨n,o,_⟩,_⟩,_⟩,_⟩⟩ =>
 bif m then
 bif decide (List.length k=List.length k) then
 some (((k,l,(true,(n,o,()),dflt .unit),()),(),()),[])
 else none
 else
 bif decide ((0:Int)≤IntKind.wrap .i64 ((IntKind.wrap .i64 (l+j))-j)) then
 bif decide ((0:Int)≤IntKind.wrap .i64 (l+j)) then
 bif decide (Int.toNat (IntKind.wrap .i64 ((IntKind.wrap .i64 (l+j))-j))≤Int.toNat (IntKind.wrap .i64 (l+j))∧0+(Int.toNat (IntKind.wrap .i64 (l+j)))≤List.length k) then
 bif decide ((Int.toNat (IntKind.wrap .i64 ((IntKind.wrap .i64 (l+j))-j)))+((Int.toNat (IntKind.wrap .i64 (l+j)))-(Int.toNat (IntKind.wrap .i64 ((IntKind.wrap .i64 (l+j))-j))))≤List.length k) then
 bif decide (List.length (sub' k (Int.toNat (IntKind.wrap .i64 ((IntKind.wrap .i64 (l+j))-j))) ((Int.toNat (IntKind.wrap .i64 (l+j)))-(Int.toNat (IntKind.wrap .i64 ((IntKind.wrap .i64 (l+j))-j)))))≤maxLen∧List.length (sub' k (Int.toNat (IntKind.wrap .i64 ((IntKind.wrap .i64 (l+j))-j))) ((Int.toNat (IntKind.wrap .i64 (l+j)))-(Int.toNat (IntKind.wrap .i64 ((IntKind.wrap .i64 (l+j))-j))))) * 1≤140737488355328) then
 bif decide (List.length k=List.length k) then
 bif decide (List.length (sub' k (Int.toNat (IntKind.wrap .i64 ((IntKind.wrap .i64 (l+j))-j))) ((Int.toNat (IntKind.wrap .i64 (l+j)))-(Int.toNat (IntKind.wrap .i64 ((IntKind.wrap .i64 (l+j))-j)))))=List.length (sub' k (Int.toNat (IntKind.wrap .i64 ((IntKind.wrap .i64 (l+j))-j))) ((Int.toNat (IntKind.wrap .i64 (l+j)))-(Int.toNat (IntKind.wrap .i64 ((IntKind.wrap .i64 (l+j))-j)))))) then
 some (((k,IntKind.wrap .i64 (l+j),(false,dflt (.pair (.int .i64) (.pair (.int .i64) .unit)),()),()),(),()),sub' k (Int.toNat (IntKind.wrap .i64 ((IntKind.wrap .i64 (l+j))-j))) ((Int.toNat (IntKind.wrap .i64 (l+j)))-(Int.toNat (IntKind.wrap .i64 ((IntKind.wrap .i64 (l+j))-j)))))
 else none
 else none
 else none
 else none
 else none
 else none
 else none
else
 orK (E := (Unit)×(((List (Int))×((Int)×(((Bool)×(((Int)×((Int)×(Unit)))×(Unit)))×(Unit))))×(Unit)))
 (bif decide (j>(IntKind.wrap .i64 (((List.length a):Int)-c))) then
 bif decide (List.length a=List.length a) then
 Option.bind (p18 fu ((a,c,(),()),(11:Int),())) fun ⟨⟨⟨q,s,⟨t,⟨u,w,_⟩,_⟩,_⟩,_,_⟩,_⟩ =>
 bif decide (List.length q=List.length q) then
 some (.inl ((),((q,s,(t,(u,w,()),()),()),())))
 else none
 else none
 else
 bif decide (List.length a=List.length a) then
 some (.inl ((),((a,c,(false,dflt (.pair (.int .i64) (.pair (.int .i64) .unit)),()),()),())))
 else none)
 fun ⟨_,⟨⟨k,l,⟨m,⟨n,o,_⟩,_⟩,_⟩,_⟩⟩ =>
 bif m then
 bif decide (List.length k=List.length k) then
 some (((k,l,(true,(n,o,()),dflt .unit),()),(),()),[])
 else none
 else
 bif decide ((0:Int)≤IntKind.wrap .i64 ((IntKind.wrap .i64 (l+j))-j)) then
 bif decide ((0:Int)≤IntKind.wrap .i64 (l+j)) then
 bif decide (Int.toNat (IntKind.wrap .i64 ((IntKind.wrap .i64 (l+j))-j))≤Int.toNat (IntKind.wrap .i64 (l+j))∧0+(Int.toNat (IntKind.wrap .i64 (l+j)))≤List.length k) then
 bif decide ((Int.toNat (IntKind.wrap .i64 ((IntKind.wrap .i64 (l+j))-j)))+((Int.toNat (IntKind.wrap .i64 (l+j)))-(Int.toNat (IntKind.wrap .i64 ((IntKind.wrap .i64 (l+j))-j))))≤List.length k) then
 bif decide (List.length (sub' k (Int.toNat (IntKind.wrap .i64 ((IntKind.wrap .i64 (l+j))-j))) ((Int.toNat (IntKind.wrap .i64 (l+j)))-(Int.toNat (IntKind.wrap .i64 ((IntKind.wrap .i64 (l+j))-j)))))≤maxLen∧List.length (sub' k (Int.toNat (IntKind.wrap .i64 ((IntKind.wrap .i64 (l+j))-j))) ((Int.toNat (IntKind.wrap .i64 (l+j)))-(Int.toNat (IntKind.wrap .i64 ((IntKind.wrap .i64 (l+j))-j))))) * 1≤140737488355328) then
 bif decide (List.length k=List.length k) then
 bif decide (List.length (sub' k (Int.toNat (IntKind.wrap .i64 ((IntKind.wrap .i64 (l+j))-j))) ((Int.toNat (IntKind.wrap .i64 (l+j)))-(Int.toNat (IntKind.wrap .i64 ((IntKind.wrap .i64 (l+j))-j)))))=List.length (sub' k (Int.toNat (IntKind.wrap .i64 ((IntKind.wrap .i64 (l+j))-j))) ((Int.toNat (IntKind.wrap .i64 (l+j)))-(Int.toNat (IntKind.wrap .i64 ((IntKind.wrap .i64 (l+j))-j)))))) then
 some (((k,IntKind.wrap .i64 (l+j),(false,dflt (.pair (.int .i64) (.pair (.int .i64) .unit)),()),()),(),()),sub' k (Int.toNat (IntKind.wrap .i64 ((IntKind.wrap .i64 (l+j))-j))) ((Int.toNat (IntKind.wrap .i64 (l+j)))-(Int.toNat (IntKind.wrap .i64 ((IntKind.wrap .i64 (l+j))-j)))))
 else none
 else none
 else none
 else none
 else none
 else none
 else none
def e59_2 (fu:Nat):Ent := ⟨59,(.cons Y4 (.cons (.hole (.int .i64)) .nil)),(.cons Y3 (.cons .dead .nil)),(.own .own 5 (.int .u8)),p59_2 fu⟩
def d59_2 (fu:Nat):DC := (.seq (.region [opD 4 (.mov (.const vS))] [[]] false) (.join ⟨[],.nil,[(0,79,3)],(.cons Y5 .nil),[0,1],[1]⟩
 (.seq (.region [mvD 5 0,opD 6 (.pure .nilc [(tD 5)]),opD 7 (.faddr 2 (tD 6)),opD 8 (.load false 1 (tD 7)),opD 9 (.pure (.nilq 1 false) [(tD 8)]),mvD 10 9,ogD 11 10 true (.mov (tD 1)),ogD 12 10 true (.mov (tD 0)),ogD 13 10 true (.pure .nilc [(tD 12)]),ogD 14 10 true (.faddr 0 (tD 13)),ogD 15 10 true (.load false 1 (tD 14)),ogD 16 10 true (.len false (tD 15)),ogD 17 10 true (.mov (tD 0)),ogD 18 10 true (.pure .nilc [(tD 17)]),ogD 19 10 true (.faddr 1 (tD 18)),ogD 20 10 true (.load false 1 (tD 19)),ogD 21 10 true (.bin .sub (tD 16) (tD 20)),ogD 22 10 true (.bin .gtr (tD 11) (tD 21)),opD 23 (.pick (tD 10) (tD 22) (.const vB))] [[],[0],[1],[2],[3],[4],[5],[5],[7,5],[8,5],[9,5],[10,5],[5],[12,5],[13,5],[14,5],[11,15,5],[6,16,5],[5,17]] true) (.cond (.tmp 23) (.region [mvD 24 0,oqD 25 (.call 18 [(tD 24),(cD 11)]) (.ent (e18 fu))] [[],[0]] false) .skip))
 (.seq (.seq (.region [mvD 26 0,opD 27 (.pure .nilc [(tD 26)]),opD 28 (.faddr 2 (tD 27)),opD 29 (.load false 1 (tD 28)),opD 30 (.pure (.nilq 1 true) [(tD 29)])] [[],[0],[1],[2],[3]] false) (.cond (.tmp 30) (.seq (.region [opD 4 (.mov (.const vS))] [[]] false) .ret) .skip)) (.seq (.region [mvD 31 0,opD 32 (.pure .nilc [(tD 31)]),opD 33 (.faddr 1 (tD 32)),opD 34 (.load false 1 (tD 33)),mvD 35 1,opD 36 (.bin .add (tD 34) (tD 35)),opD 37 (.pure .nilc [(tD 31)]),opD 38 (.faddr 1 (tD 37)),onD (.store 1 (tD 38) (tD 36))] [[],[0],[1],[2],[],[3,4],[0,0,1,2,3,4,5],[6,0,1,2,3,4,5],[7,5,0,1,2,3,4,5]] false) (.seq (.region [mvD 39 0,opD 40 (.pure .nilc [(tD 39)]),opD 41 (.faddr 0 (tD 40)),opD 42 (.load false 1 (tD 41)),mvD 43 0,opD 44 (.pure .nilc [(tD 43)]),opD 45 (.faddr 1 (tD 44)),opD 46 (.load false 1 (tD 45)),mvD 47 1,opD 48 (.bin .sub (tD 46) (tD 47)),mvD 49 0,opD 50 (.pure .nilc [(tD 49)]),opD 51 (.faddr 1 (tD 50)),opD 52 (.load false 1 (tD 51)),opD 53 (.slc 1 (tD 42) (some (tD 48)) (some (tD 52))),oqD 54 (.app 5 1 [(.int .u8 0)] 1 (.const vS) (tD 53)) (.ty (.int .u8)),mvD 4 54] [[],[0],[1],[2],[],[4],[5],[6],[],[7,8],[],[10],[11],[12],[3,9,13],[14],[15,15,0,1,2,3,4,5,6,7,8,9,10,11,12,13,14,15]] true) .ret)))))
theorem g59_2 (fu:Nat):(e59_2 fu).Good Tryd.prog := good_fn orders Tryd.func59 fu (d59_2 fu) rs59 55 (l := [e18 fu]) ⟨g18 fu,trivial⟩
def rs38:List RVx := [(.tmp 2)]
def p38_2 (fu:Nat):((List (Int))×((Int)×(((Bool)×(((Int)×((Int)×(Unit)))×(Unit)))×(Unit))))×(Unit)→Option ((((List (Int))×((Int)×(((Bool)×(((Int)×((Int)×(Unit)))×(Unit)))×(Unit))))×((Unit)×(Unit)))×(Bool)) := fun ⟨⟨a,c,⟨f,⟨h,i,_⟩,_⟩,_⟩,_⟩ =>
bif f then
 bif decide (List.length a=List.length a) then
 Option.bind (p59_2 fu ((a,c,(true,(h,i,()),dflt .unit),()),(1:Int),())) fun ⟨⟨⟨j,k,⟨l,⟨m,n,_⟩,_⟩,_⟩,_,_⟩,o⟩ =>
 orK (E := (Unit)×(((List (Int))×((Int)×(((Bool)×(((Int)×((Int)×(Unit)))×(Unit)))×(Unit))))×(Unit)))
 (orK (E := ((Bool)×(Unit))×(Unit))
 (bif (((List.length o):Int)==(1:Int)) then
 bif decide ((0:Int)≤0∧0<(List.length o:Int)) then
 bif decide (0<List.length o) then
 some (.inl ((decide ((List.getD o 0 (dflt (.int .u8)))>(1:Int)),()),()))
 else none
 else none
 else
 some (.inl ((false,()),())))
 fun ⟨⟨q,_⟩,_⟩ =>
 bif q then
 bif decide (List.length j=List.length j) then
 Option.bind (p35_1 fu ((j,k,(l,(m,n,()),()),()),c,(16:Int),())) fun ⟨⟨⟨s,t,⟨u,⟨w,x,_⟩,_⟩,_⟩,_,_⟩,_⟩ =>
 bif decide (List.length s=List.length s) then
 some (.inl ((),((s,t,(u,(w,x,()),()),()),())))
 else none
 else none
 else
 bif decide (List.length j=List.length j) then
 some (.inl ((),((j,k,(l,(m,n,()),()),()),())))
 else none)
 fun ⟨_,⟨⟨y,z,⟨a0,⟨c0,f0,_⟩,_⟩,_⟩,_⟩⟩ =>
 bif a0 then
 bif decide (List.length y=List.length y) then
 some (((y,z,(true,(c0,f0,()),dflt .unit),()),(),()),false)
 else none
 else
 bif decide ((0:Int)≤0∧0<(List.length o:Int)) then
 bif decide (0<List.length o) then
 bif decide (List.length y=List.length y) then
 some (((y,z,(false,dflt (.pair (.int .i64) (.pair (.int .i64) .unit)),()),()),(),()),((List.getD o 0 (dflt (.int .u8)))==(1:Int)))
 else none
 else none
 else none
 else none
else
 bif decide (List.length a=List.length a) then
 Option.bind (p59_2 fu ((a,c,(false,dflt (.pair (.int .i64) (.pair (.int .i64) .unit)),()),()),(1:Int),())) fun ⟨⟨⟨h0,i0,⟨j0,⟨k0,l0,_⟩,_⟩,_⟩,_,_⟩,m0⟩ =>
 orK (E := (Unit)×(((List (Int))×((Int)×(((Bool)×(((Int)×((Int)×(Unit)))×(Unit)))×(Unit))))×(Unit)))
 (orK (E := ((Bool)×(Unit))×(Unit))
 (bif (((List.length m0):Int)==(1:Int)) then
 bif decide ((0:Int)≤0∧0<(List.length m0:Int)) then
 bif decide (0<List.length m0) then
 some (.inl ((decide ((List.getD m0 0 (dflt (.int .u8)))>(1:Int)),()),()))
 else none
 else none
 else
 some (.inl ((false,()),())))
 fun ⟨⟨q,_⟩,_⟩ =>
 bif q then
 bif decide (List.length h0=List.length h0) then
 Option.bind (p35_1 fu ((h0,i0,(j0,(k0,l0,()),()),()),c,(16:Int),())) fun ⟨⟨⟨n0,o0,⟨q0,⟨s0,t0,_⟩,_⟩,_⟩,_,_⟩,_⟩ =>
 bif decide (List.length n0=List.length n0) then
 some (.inl ((),((n0,o0,(q0,(s0,t0,()),()),()),())))
 else none
 else none
 else
 bif decide (List.length h0=List.length h0) then
 some (.inl ((),((h0,i0,(j0,(k0,l0,()),()),()),())))
 else none)
 fun ⟨_,⟨⟨y,z,⟨a0,⟨c0,f0,_⟩,_⟩,_⟩,_⟩⟩ =>
 bif a0 then
 bif decide (List.length y=List.length y) then
 some (((y,z,(true,(c0,f0,()),dflt .unit),()),(),()),false)
 else none
 else
 bif decide ((0:Int)≤0∧0<(List.length m0:Int)) then
 bif decide (0<List.length m0) then
 bif decide (List.length y=List.length y) then
 some (((y,z,(false,dflt (.pair (.int .i64) (.pair (.int .i64) .unit)),()),()),(),()),((List.getD m0 0 (dflt (.int .u8)))==(1:Int)))
 else none
 else none
 else none
 else none
def e38_2 (fu:Nat):Ent := ⟨38,(.cons Y4 .nil),(.cons Y3 (.cons .dead .nil)),(.hole .bool),p38_2 fu⟩
def d38_2 (fu:Nat):DC := (.seq (.region [opD 2 (.mov (.const vB))] [[]] false) (.seq (.region [mvD 5 0,opD 6 (.pure .nilc [(tD 5)]),opD 7 (.faddr 1 (tD 6)),opD 8 (.load false 1 (tD 7)),mvD 3 8] [[],[0],[1],[2],[3,0,1,2,3]] false) (.seq (.region [mvD 9 0,oqD 10 (.call 59 [(tD 9),(cD 1)]) (.ent (e59_2 fu)),mvD 4 10] [[],[0],[1,1,0,1]] false) (.join ⟨[],.nil,[(0,79,3)],(.cons Y5 .nil),[0,4],[1,117]⟩
 (.join ⟨[19],(.cons (.hole .bool) .nil),[],.nil,[0,3,4],[0,1,116,117]⟩
 (.region [mvD 11 4,opD 12 (.len false (tD 11)),opD 13 (.bin .eql (tD 12) (cD 1)),mvD 14 13,ogD 15 14 true (.mov (tD 4)),ogD 16 14 true (.iaddr 1 (tD 15) (cD 0)),ogD 17 14 true (.load false 1 (tD 16)),ogD 18 14 true (.bin .gtr (tD 17) (.const (.int .u8 1))),opD 19 (.pick (tD 14) (tD 18) (.const vB))] [[],[0],[1],[2],[3],[4,3],[5,3],[6,3],[3,7]] false)
 (.cond (.tmp 19) (.region [mvD 20 0,mvD 21 3,oqD 22 (.call 35 [(tD 20),(tD 21),(cD 16)]) (.ent (e35_1 fu))] [[],[],[0,1]] false) .skip))
 (.seq (.region [mvD 23 0,opD 24 (.pure .nilc [(tD 23)]),opD 25 (.faddr 2 (tD 24)),opD 26 (.load false 1 (tD 25)),opD 27 (.pure (.nilq 1 false) [(tD 26)]),mvD 28 27,ogD 29 28 true (.mov (tD 4)),ogD 30 28 true (.iaddr 1 (tD 29) (cD 0)),ogD 31 28 true (.load false 1 (tD 30)),ogD 32 28 true (.bin .eql (tD 31) (.const (.int .u8 1))),opD 33 (.pick (tD 28) (tD 32) (.const vB)),mvD 2 33] [[],[0],[1],[2],[3],[4],[5],[6,5],[7,5],[8,5],[5,9],[10,5,0,1,2,3,4,5,6,7,8,9,10]] false) .ret)))))
theorem g38_2 (fu:Nat):(e38_2 fu).Good Tryd.prog := good_fn orders Tryd.func38 fu (d38_2 fu) rs38 34 (l := [e59_2 fu,e35_1 fu]) ⟨g59_2 fu,g35_1 fu,trivial⟩
def rs20:List RVx := [(.cell 2 true 14)]
def p20 (fu:Nat):((List (Int))×((Int)×(((Bool)×(((Int)×((Int)×(Unit)))×(Unit)))×(Unit))))×(Unit)→Option ((((List (Int))×((Int)×(((Bool)×(((Int)×((Int)×(Unit)))×(Unit)))×(Unit))))×((Unit)×(Unit)))×((Int)×((Int)×((Int)×((Int)×((Int)×((Int)×((List (D_api_Entry))×((Int)×((Bool)×((Int)×((List (Int))×((List (Int))×((List (Int))×((Bool)×(Unit)))))))))))))))) := fun ⟨⟨a,c,⟨f,⟨h,i,_⟩,_⟩,_⟩,_⟩ =>
bif f then
 bif decide (List.length a=List.length a) then
 Option.bind (p38_2 fu ((a,c,(true,(h,i,()),dflt .unit),()),())) fun ⟨⟨⟨j,k,⟨l,⟨m,n,_⟩,_⟩,_⟩,_,_⟩,o⟩ =>
 bif o then
 bif decide (List.length j=List.length j) then
 Option.bind (p19_1 fu ((j,k,(l,(m,n,()),()),()),())) fun ⟨⟨⟨q,s,⟨t,⟨u,w,_⟩,_⟩,_⟩,_,_⟩,x⟩ =>
 bif decide (List.length q=List.length q) then
 Option.bind (p19_1 fu ((q,s,(t,(u,w,()),()),()),())) fun ⟨⟨⟨y,z,⟨a0,⟨c0,f0,_⟩,_⟩,_⟩,_,_⟩,h0⟩ =>
 bif decide (List.length y=List.length y) then
 some (((y,z,(a0,(c0,f0,()),()),()),(),()),((6:Int),(0:Int),(0:Int),x,h0,(0:Int),[],(0:Int),false,(0:Int),[],[],[],false,()))
 else none
 else none
 else none
 else
 bif decide (List.length j=List.length j) then
 Option.bind (p19_1 fu ((j,k,(l,(m,n,()),()),()),())) fun ⟨⟨⟨i0,j0,⟨k0,⟨l0,m0,_⟩,_⟩,_⟩,_,_⟩,n0⟩ =>
 bif decide (List.length i0=List.length i0) then
 Option.bind (p19_1 fu ((i0,j0,(k0,(l0,m0,()),()),()),())) fun ⟨⟨⟨o0,q0,⟨s0,⟨t0,u0,_⟩,_⟩,_⟩,_,_⟩,w0⟩ =>
 bif decide (List.length o0=List.length o0) then
 Option.bind (p19_1 fu ((o0,q0,(s0,(t0,u0,()),()),()),())) fun ⟨⟨⟨x0,y0,⟨z0,⟨a1,c1,_⟩,_⟩,_⟩,_,_⟩,f1⟩ =>
 bif decide (List.length x0=List.length x0) then
 Option.bind (p19_1 fu ((x0,y0,(z0,(a1,c1,()),()),()),())) fun ⟨⟨⟨h1,i1,⟨j1,⟨k1,l1,_⟩,_⟩,_⟩,_,_⟩,m1⟩ =>
 bif decide (List.length h1=List.length h1) then
 some (((h1,i1,(j1,(k1,l1,()),()),()),(),()),((5:Int),(0:Int),(0:Int),n0,w0,f1,[],m1,false,(0:Int),[],[],[],false,()))
 else none
 else none
 else none
 else none
 else none
 else none
else
 bif decide (List.length a=List.length a) then
 Option.bind (p38_2 fu ((a,c,(false,dflt (.pair (.int .i64) (.pair (.int .i64) .unit)),()),()),())) fun ⟨⟨⟨n1,o1,⟨q1,⟨s1,t1,_⟩,_⟩,_⟩,_,_⟩,u1⟩ =>
 bif u1 then
 bif decide (List.length n1=List.length n1) then
 Option.bind (p19_1 fu ((n1,o1,(q1,(s1,t1,()),()),()),())) fun ⟨⟨⟨w1,x1,⟨y1,⟨z1,a2,_⟩,_⟩,_⟩,_,_⟩,c2⟩ =>
 bif decide (List.length w1=List.length w1) then
 Option.bind (p19_1 fu ((w1,x1,(y1,(z1,a2,()),()),()),())) fun ⟨⟨⟨f2,h2,⟨i2,⟨j2,k2,_⟩,_⟩,_⟩,_,_⟩,l2⟩ =>
 bif decide (List.length f2=List.length f2) then
 some (((f2,h2,(i2,(j2,k2,()),()),()),(),()),((6:Int),(0:Int),(0:Int),c2,l2,(0:Int),[],(0:Int),false,(0:Int),[],[],[],false,()))
 else none
 else none
 else none
 else
 bif decide (List.length n1=List.length n1) then
 Option.bind (p19_1 fu ((n1,o1,(q1,(s1,t1,()),()),()),())) fun ⟨⟨⟨m2,n2,⟨o2,⟨q2,s2,_⟩,_⟩,_⟩,_,_⟩,t2⟩ =>
 bif decide (List.length m2=List.length m2) then
 Option.bind (p19_1 fu ((m2,n2,(o2,(q2,s2,()),()),()),())) fun ⟨⟨⟨u2,w2,⟨x2,⟨y2,z2,_⟩,_⟩,_⟩,_,_⟩,a3⟩ =>
 bif decide (List.length u2=List.length u2) then
 Option.bind (p19_1 fu ((u2,w2,(x2,(y2,z2,()),()),()),())) fun ⟨⟨⟨c3,f3,⟨h3,⟨i3,j3,_⟩,_⟩,_⟩,_,_⟩,k3⟩ =>
 bif decide (List.length c3=List.length c3) then
 Option.bind (p19_1 fu ((c3,f3,(h3,(i3,j3,()),()),()),())) fun ⟨⟨⟨l3,m3,⟨n3,⟨o3,q3,_⟩,_⟩,_⟩,_,_⟩,s3⟩ =>
 bif decide (List.length l3=List.length l3) then
 some (((l3,m3,(n3,(o3,q3,()),()),()),(),()),((5:Int),(0:Int),(0:Int),t2,a3,k3,[],s3,false,(0:Int),[],[],[],false,()))
 else none
 else none
 else none
 else none
 else none
 else none
def e20 (fu:Nat):Ent := ⟨20,(.cons Y4 .nil),(.cons Y3 (.cons .dead .nil)),Y2,p20 fu⟩
def d20 (fu:Nat):DC := (.seq (.region [opD 2 (.alloc 42 14 [vI,vI,vI,vU,vU,vU,vS,vU,vB,vU,vS,vS,vS,vB])] [[]] false) (.seq (.seq (.region [mvD 3 0,oqD 4 (.call 38 [(tD 3)]) (.ent (e38_2 fu))] [[],[0]] false) (.cond (.tmp 4) (.seq (.region [mvD 5 0,oqD 6 (.call 19 [(tD 5)]) (.ent (e19_1 fu)),mvD 7 0,oqD 8 (.call 19 [(tD 7)]) (.ent (e19_1 fu)),opD 9 (.build 14 [vI,vI,vI,vU,vU,vU,vS,vU,vB,vU,vS,vS,vS,vB] [(0,(1,(cD 6))),(3,(1,(tD 6))),(4,(1,(tD 8)))]),onD (.store 14 (tD 2) (tD 9))] [[],[0],[],[2,1],[1,3],[4,3,0,1,2,3,4]] false) .ret) .skip)) (.seq (.region [mvD 10 0,oqD 11 (.call 19 [(tD 10)]) (.ent (e19_1 fu)),mvD 12 0,oqD 13 (.call 19 [(tD 12)]) (.ent (e19_1 fu)),mvD 14 0,oqD 15 (.call 19 [(tD 14)]) (.ent (e19_1 fu)),mvD 16 0,oqD 17 (.call 19 [(tD 16)]) (.ent (e19_1 fu)),opD 18 (.build 14 [vI,vI,vI,vU,vU,vU,vS,vU,vB,vU,vS,vS,vS,vB] [(0,(1,(cD 5))),(3,(1,(tD 11))),(4,(1,(tD 13))),(5,(1,(tD 15))),(7,(1,(tD 17)))]),onD (.store 14 (tD 2) (tD 18))] [[],[0],[],[2,1],[],[4,3],[],[6,5],[1,3,5,7],[8,7,0,1,2,3,4,5,6,7,8]] false) .ret)))
theorem g20 (fu:Nat):(e20 fu).Good Tryd.prog := good_fn orders Tryd.func20 fu (d20 fu) rs20 19 (l := [e38_2 fu,e19_1 fu,e19_1 fu,e19_1 fu,e19_1 fu,e19_1 fu,e19_1 fu]) ⟨g38_2 fu,g19_1 fu,g19_1 fu,g19_1 fu,g19_1 fu,g19_1 fu,g19_1 fu,trivial⟩
def rs43:List RVx := [(.tmp 2)]
def p43 (_:Nat):(Int)×(Unit)→Option ((Unit)×(Bool)) := fun ⟨a,_⟩ =>
bif decide (a≥(1:Int)) then
 some ((),decide (a≤(9:Int)))
else
 some ((),false)
def e43 (fu:Nat):Ent := ⟨43,(.cons (.hole (.int .i64)) .nil),.nil,(.hole .bool),p43 fu⟩
def d43 (_:Nat):DC := (.seq (.region [opD 2 (.mov (.const vB))] [[]] false) (.seq (.region [mvD 3 0,opD 4 (.bin .geq (tD 3) (cD 1)),mvD 5 4,ogD 6 5 true (.mov (tD 0)),ogD 7 5 true (.bin .leq (tD 6) (cD 9)),opD 8 (.pick (tD 5) (tD 7) (.const vB)),mvD 2 8] [[],[0],[1],[2],[3,2],[2,4],[5,2,0,1,2,3,4,5]] false) .ret))
theorem g43 (fu:Nat):(e43 fu).Good Tryd.prog := good_fn orders Tryd.func43 fu (d43 fu) rs43 9 (l := []) trivial
def rs32:List RVx := [(.tmp 2)]
def p32 (_:Nat):(Z1)×(Unit)→Option ((Unit)×(Bool)) := fun ⟨⟨a,_,_,_,_,c,f,h,i,j,k,l,m,n,_⟩,_⟩ =>
orK (E := ((Bool)×(Unit))×(Unit))
 (bif ((IntKind.wrap .i64 ((IntKind.wrap .i64 ((IntKind.wrap .i64 ((List.length f:Int)+(List.length k:Int)))+(List.length l:Int)))+(List.length m:Int)))==(0:Int)) then
 bif !i then
 bif (j==(0:Int)) then
 some (.inl ((!n,()),()))
 else
 some (.inl ((false,()),()))
 else
 some (.inl ((false,()),()))
 else
 some (.inl ((false,()),())))
 fun ⟨⟨o,_⟩,_⟩ =>
bif (a==(5:Int)) then
 some ((),o)
else
 bif (a==(6:Int)) then
 bif o then
 bif (c==(0:Int)) then
 some ((),(h==(0:Int)))
 else
 some ((),false)
 else
 some ((),false)
 else
 some ((),false)
def e32 (fu:Nat):Ent := ⟨32,(.cons Y2 .nil),.nil,(.hole .bool),p32 fu⟩
def d32 (_:Nat):DC := (.seq (.region [opD 1 (.box 42 14 (tD 0)),opD 2 (.mov (.const vB))] [[],[]] false) (.join ⟨[3],(.cons (.hole .bool) .nil),[],.nil,[1],[0]⟩
 (.region [opD 4 (.faddr 6 (tD 1)),opD 5 (.load false 1 (tD 4)),opD 6 (.len false (tD 5)),opD 7 (.faddr 10 (tD 1)),opD 8 (.faddr 0 (tD 7)),opD 9 (.load false 1 (tD 8)),opD 10 (.len false (tD 9)),opD 11 (.bin .add (tD 6) (tD 10)),opD 12 (.faddr 10 (tD 1)),opD 13 (.faddr 1 (tD 12)),opD 14 (.load false 1 (tD 13)),opD 15 (.len false (tD 14)),opD 16 (.bin .add (tD 11) (tD 15)),opD 17 (.faddr 12 (tD 1)),opD 18 (.load false 1 (tD 17)),opD 19 (.len false (tD 18)),opD 20 (.bin .add (tD 16) (tD 19)),opD 21 (.bin .eql (tD 20) (cD 0)),mvD 22 21,ogD 23 22 true (.faddr 8 (tD 1)),ogD 24 22 true (.load false 1 (tD 23)),ogD 25 22 true (.not (tD 24)),opD 26 (.pick (tD 22) (tD 25) (.const vB)),mvD 27 26,ogD 28 27 true (.faddr 9 (tD 1)),ogD 29 27 true (.load false 1 (tD 28)),ogD 30 27 true (.bin .eql (tD 29) (.const vU)),opD 31 (.pick (tD 27) (tD 30) (.const vB)),mvD 32 31,ogD 33 32 true (.faddr 13 (tD 1)),ogD 34 32 true (.load false 1 (tD 33)),ogD 35 32 true (.not (tD 34)),opD 36 (.pick (tD 32) (tD 35) (.const vB)),mvD 3 36] [[],[0],[1],[],[3],[4],[5],[2,6],[],[8],[9],[10],[7,11],[],[13],[14],[12,15],[16],[17],[18],[19,18],[20,18],[18,21],[22,18],[23],[24,23],[25,23],[23,26],[27,23],[28],[29,28],[30,28],[28,31],[32,28,0,1,2,3,4,5,6,7,8,9,10,11,12,13,14,15,16,17,18,19,20,21,22,23,24,25,26,27,28,29,30,31,32]] false)
 (.seq (.seq (.region [opD 37 (.faddr 0 (tD 1)),opD 38 (.load false 1 (tD 37))] [[],[0]] false) (.block 0 (.seq (.region [opD 40 (.bin .eql (tD 38) (cD 5)),mvD 39 40] [[],[0]] false) (.cond (.tmp 39) (.seq (.region [mvD 41 3,mvD 2 41] [[],[0,0]] false) .ret) (.seq (.region [opD 43 (.bin .eql (tD 38) (cD 6)),mvD 42 43] [[],[0]] false) (.cond (.tmp 42) (.seq (.region [mvD 44 3,mvD 45 44,ogD 46 45 true (.faddr 5 (tD 1)),ogD 47 45 true (.load false 1 (tD 46)),ogD 48 45 true (.bin .eql (tD 47) (.const vU)),opD 49 (.pick (tD 45) (tD 48) (.const vB)),mvD 50 49,ogD 51 50 true (.faddr 7 (tD 1)),ogD 52 50 true (.load false 1 (tD 51)),ogD 53 50 true (.bin .eql (tD 52) (.const vU)),opD 54 (.pick (tD 50) (tD 53) (.const vB)),mvD 2 54] [[],[0],[1],[2,1],[3,1],[1,4],[5,1],[6],[7,6],[8,6],[6,9],[10,6,0,1,2,3,4,5,6,7,8,9,10]] false) .ret) .skip)))))) (.seq (.region [opD 2 (.mov (.const vB))] [[]] false) .ret))))
theorem g32 (fu:Nat):(e32 fu).Good Tryd.prog := good_fn orders Tryd.func32 fu (d32 fu) rs32 55 (l := []) trivial
def rs39:List RVx := [(.tmp 2)]
def p39_2 (fu:Nat):((List (Int))×((Int)×(((Bool)×(((Int)×((Int)×(Unit)))×(Unit)))×(Unit))))×(Unit)→Option ((((List (Int))×((Int)×(((Bool)×(((Int)×((Int)×(Unit)))×(Unit)))×(Unit))))×((Unit)×(Unit)))×(Int)) := fun ⟨⟨a,c,⟨f,⟨h,i,_⟩,_⟩,_⟩,_⟩ =>
bif f then
 bif decide (List.length a=List.length a) then
 Option.bind (p19_1 fu ((a,c,(true,(h,i,()),dflt .unit),()),())) fun ⟨⟨⟨j,k,⟨l,⟨m,n,_⟩,_⟩,_⟩,_,_⟩,o⟩ =>
 bif decide (List.length j=List.length j) then
 some (((j,k,(l,(m,n,()),()),()),(),()),IntKind.wrap .i64 (IntKind.wrap .u64 ((BitVec.ofInt (IntKind.bits .u64) (Int.fdiv o (2 ^ (min (Int.toNat (1:Int)) (IntKind.bits .u64)))) ^^^ BitVec.ofInt (IntKind.bits .u64) (IntKind.wrap .u64 (0-(IntKind.wrap .u64 ((BitVec.ofInt (IntKind.bits .u64) o &&& BitVec.ofInt (IntKind.bits .u64) (1:Int)).toNat:Int))))).toNat:Int)))
 else none
 else none
else
 bif decide (List.length a=List.length a) then
 Option.bind (p19_1 fu ((a,c,(false,dflt (.pair (.int .i64) (.pair (.int .i64) .unit)),()),()),())) fun ⟨⟨⟨q,s,⟨t,⟨u,w,_⟩,_⟩,_⟩,_,_⟩,x⟩ =>
 bif decide (List.length q=List.length q) then
 some (((q,s,(t,(u,w,()),()),()),(),()),IntKind.wrap .i64 (IntKind.wrap .u64 ((BitVec.ofInt (IntKind.bits .u64) (Int.fdiv x (2 ^ (min (Int.toNat (1:Int)) (IntKind.bits .u64)))) ^^^ BitVec.ofInt (IntKind.bits .u64) (IntKind.wrap .u64 (0-(IntKind.wrap .u64 ((BitVec.ofInt (IntKind.bits .u64) x &&& BitVec.ofInt (IntKind.bits .u64) (1:Int)).toNat:Int))))).toNat:Int)))
 else none
 else none
def e39_2 (fu:Nat):Ent := ⟨39,(.cons Y4 .nil),(.cons Y3 (.cons .dead .nil)),(.hole (.int .i64)),p39_2 fu⟩
def d39_2 (fu:Nat):DC := (.seq (.region [opD 2 (.mov (cD 0))] [[]] false) (.seq (.region [mvD 4 0,oqD 5 (.call 19 [(tD 4)]) (.ent (e19_1 fu)),mvD 3 5] [[],[0],[1,1,0,1]] false) (.seq (.region [mvD 6 3,opD 7 (.bin .shr (tD 6) (.const (.int .u64 1))),mvD 8 3,opD 9 (.bin .and (tD 8) (.const (.int .u64 1))),opD 10 (.pure .neg [(tD 9)]),opD 11 (.bin .xor (tD 7) (tD 10)),opD 12 (.conv .i64 (tD 11)),mvD 2 12] [[],[0],[],[2],[3],[1,4],[5],[6,0,1,2,3,4,5,6]] false) .ret)))
theorem g39_2 (fu:Nat):(e39_2 fu).Good Tryd.prog := good_fn orders Tryd.func39 fu (d39_2 fu) rs39 13 (l := [e19_1 fu]) ⟨g19_1 fu,trivial⟩
def p17_2 (fu:Nat):((List (Int))×((Int)×(((Bool)×(((Int)×((Int)×(Unit)))×(Unit)))×(Unit))))×((Int)×(Unit))→Option ((((List (Int))×((Int)×(((Bool)×(((Int)×((Int)×(Unit)))×(Unit)))×(Unit))))×((Unit)×(Unit)))×(Int)) := fun ⟨⟨a,c,⟨f,⟨h,i,_⟩,_⟩,_⟩,j,_⟩ =>
bif f then
 bif decide (List.length a=List.length a) then
 Option.bind (p19_1 fu ((a,c,(true,(h,i,()),dflt .unit),()),())) fun ⟨⟨⟨k,l,⟨m,⟨n,o,_⟩,_⟩,_⟩,_,_⟩,q⟩ =>
 orK (E := (Unit)×(((List (Int))×((Int)×(((Bool)×(((Int)×((Int)×(Unit)))×(Unit)))×(Unit))))×(Unit)))
 (orK (E := ((Bool)×(Unit))×(Unit))
 (bif decide (j<(0:Int)) then
 some (.inl ((true,()),()))
 else
 some (.inl ((decide (q>(IntKind.wrap .u64 j)),()),())))
 fun ⟨⟨s,_⟩,_⟩ =>
 bif s then
 bif decide (List.length k=List.length k) then
 Option.bind (p35_1 fu ((k,l,(m,(n,o,()),()),()),c,(13:Int),())) fun ⟨⟨⟨t,u,⟨w,⟨x,y,_⟩,_⟩,_⟩,_,_⟩,_⟩ =>
 bif decide (List.length t=List.length t) then
 some (.inl ((),((t,u,(w,(x,y,()),()),()),())))
 else none
 else none
 else
 bif decide (List.length k=List.length k) then
 some (.inl ((),((k,l,(m,(n,o,()),()),()),())))
 else none)
 fun ⟨_,⟨⟨z,a0,⟨c0,⟨f0,h0,_⟩,_⟩,_⟩,_⟩⟩ =>
 orK (E := (Unit)×(((List (Int))×((Int)×(((Bool)×(((Int)×((Int)×(Unit)))×(Unit)))×(Unit))))×(Unit)))
 (bif decide (q>(IntKind.wrap .u64 (IntKind.wrap .i64 (((List.length z):Int)-a0)))) then
 bif decide (List.length z=List.length z) then
 Option.bind (p35_1 fu ((z,a0,(c0,(f0,h0,()),()),()),c,(11:Int),())) fun ⟨⟨⟨i0,j0,⟨k0,⟨l0,m0,_⟩,_⟩,_⟩,_,_⟩,_⟩ =>
 bif decide (List.length i0=List.length i0) then
 some (.inl ((),((i0,j0,(k0,(l0,m0,()),()),()),())))
 else none
 else none
 else
 bif decide (List.length z=List.length z) then
 some (.inl ((),((z,a0,(c0,(f0,h0,()),()),()),())))
 else none)
 fun ⟨_,⟨⟨z,a0,⟨c0,⟨f0,h0,_⟩,_⟩,_⟩,_⟩⟩ =>
 bif decide (List.length z=List.length z) then
 Option.bind (p36 fu ((z,a0,(c0,(f0,h0,()),()),()),IntKind.wrap .i64 q,())) fun ⟨⟨⟨n0,o0,⟨q0,⟨s0,t0,_⟩,_⟩,_⟩,_,_⟩,u0⟩ =>
 bif decide (List.length n0=List.length n0) then
 some (((n0,o0,(q0,(s0,t0,()),()),()),(),()),u0)
 else none
 else none
 else none
else
 bif decide (List.length a=List.length a) then
 Option.bind (p19_1 fu ((a,c,(false,dflt (.pair (.int .i64) (.pair (.int .i64) .unit)),()),()),())) fun ⟨⟨⟨w0,x0,⟨y0,⟨z0,a1,_⟩,_⟩,_⟩,_,_⟩,c1⟩ =>
 orK (E := (Unit)×(((List (Int))×((Int)×(((Bool)×(((Int)×((Int)×(Unit)))×(Unit)))×(Unit))))×(Unit)))
 (orK (E := ((Bool)×(Unit))×(Unit))
 (bif decide (j<(0:Int)) then
 some (.inl ((true,()),()))
 else
 some (.inl ((decide (c1>(IntKind.wrap .u64 j)),()),())))
 fun ⟨⟨s,_⟩,_⟩ =>
 bif s then
 bif decide (List.length w0=List.length w0) then
 Option.bind (p35_1 fu ((w0,x0,(y0,(z0,a1,()),()),()),c,(13:Int),())) fun ⟨⟨⟨f1,h1,⟨i1,⟨j1,k1,_⟩,_⟩,_⟩,_,_⟩,_⟩ =>
 bif decide (List.length f1=List.length f1) then
 some (.inl ((),((f1,h1,(i1,(j1,k1,()),()),()),())))
 else none
 else none
 else
 bif decide (List.length w0=List.length w0) then
 some (.inl ((),((w0,x0,(y0,(z0,a1,()),()),()),())))
 else none)
 fun ⟨_,⟨⟨z,a0,⟨c0,⟨f0,h0,_⟩,_⟩,_⟩,_⟩⟩ =>
 orK (E := (Unit)×(((List (Int))×((Int)×(((Bool)×(((Int)×((Int)×(Unit)))×(Unit)))×(Unit))))×(Unit)))
 (bif decide (c1>(IntKind.wrap .u64 (IntKind.wrap .i64 (((List.length z):Int)-a0)))) then
 bif decide (List.length z=List.length z) then
 Option.bind (p35_1 fu ((z,a0,(c0,(f0,h0,()),()),()),c,(11:Int),())) fun ⟨⟨⟨l1,m1,⟨n1,⟨o1,q1,_⟩,_⟩,_⟩,_,_⟩,_⟩ =>
 bif decide (List.length l1=List.length l1) then
 some (.inl ((),((l1,m1,(n1,(o1,q1,()),()),()),())))
 else none
 else none
 else
 bif decide (List.length z=List.length z) then
 some (.inl ((),((z,a0,(c0,(f0,h0,()),()),()),())))
 else none)
 fun ⟨_,⟨⟨z,a0,⟨c0,⟨f0,h0,_⟩,_⟩,_⟩,_⟩⟩ =>
 bif decide (List.length z=List.length z) then
 Option.bind (p36 fu ((z,a0,(c0,(f0,h0,()),()),()),IntKind.wrap .i64 c1,())) fun ⟨⟨⟨s1,t1,⟨u1,⟨w1,x1,_⟩,_⟩,_⟩,_,_⟩,y1⟩ =>
 bif decide (List.length s1=List.length s1) then
 some (((s1,t1,(u1,(w1,x1,()),()),()),(),()),y1)
 else none
 else none
 else none
def e17_2 (fu:Nat):Ent := ⟨17,(.cons Y4 (.cons (.hole (.int .i64)) .nil)),(.cons Y3 (.cons .dead .nil)),(.hole (.int .i64)),p17_2 fu⟩
def d17_2 (fu:Nat):DC := (.seq (.region [opD 4 (.mov (cD 0))] [[]] false) (.seq (.region [mvD 7 0,opD 8 (.pure .nilc [(tD 7)]),opD 9 (.faddr 1 (tD 8)),opD 10 (.load false 1 (tD 9)),mvD 5 10] [[],[0],[1],[2],[3,0,1,2,3]] false) (.seq (.region [mvD 11 0,oqD 12 (.call 19 [(tD 11)]) (.ent (e19_1 fu)),mvD 6 12] [[],[0],[1,1,0,1]] false) (.join ⟨[],.nil,[(0,79,3)],(.cons Y3 .nil),[0,5,6],[1]⟩
 (.join ⟨[20],(.cons (.hole .bool) .nil),[],.nil,[0,5,6],[0,1,116]⟩
 (.region [mvD 13 1,opD 14 (.bin .lss (tD 13) (cD 0)),mvD 15 14,ogD 16 15 false (.mov (tD 6)),ogD 17 15 false (.mov (tD 1)),ogD 18 15 false (.conv .u64 (tD 17)),ogD 19 15 false (.bin .gtr (tD 16) (tD 18)),opD 20 (.pick (tD 15) (.const (.bool true)) (tD 19))] [[],[0],[1],[2],[2],[4,2],[3,5,2],[2,6]] false)
 (.cond (.tmp 20) (.region [mvD 21 0,mvD 22 5,oqD 23 (.call 35 [(tD 21),(tD 22),(cD 13)]) (.ent (e35_1 fu))] [[],[],[0,1]] false) .skip))
 (.join ⟨[],.nil,[(0,79,3)],(.cons Y3 .nil),[0,6],[1]⟩
 (.seq (.region [mvD 24 6,mvD 25 0,opD 26 (.pure .nilc [(tD 25)]),opD 27 (.faddr 0 (tD 26)),opD 28 (.load false 1 (tD 27)),opD 29 (.len false (tD 28)),mvD 30 0,opD 31 (.pure .nilc [(tD 30)]),opD 32 (.faddr 1 (tD 31)),opD 33 (.load false 1 (tD 32)),opD 34 (.bin .sub (tD 29) (tD 33)),opD 35 (.conv .u64 (tD 34)),opD 36 (.bin .gtr (tD 24) (tD 35))] [[],[],[1],[2],[3],[4],[],[6],[7],[8],[5,9],[10],[0,11]] true) (.cond (.tmp 36) (.region [mvD 37 0,mvD 38 5,oqD 39 (.call 35 [(tD 37),(tD 38),(cD 11)]) (.ent (e35_1 fu))] [[],[],[0,1]] false) .skip))
 (.seq (.region [mvD 40 0,mvD 41 6,opD 42 (.conv .i64 (tD 41)),oqD 43 (.call 36 [(tD 40),(tD 42)]) (.ent (e36 fu)),mvD 4 43] [[],[],[1],[0,2],[3,3,0,1,2,3]] false) .ret))))))
theorem g17_2 (fu:Nat):(e17_2 fu).Good Tryd.prog := good_fn orders Tryd.func17 fu (d17_2 fu) rs17 44 (l := [e19_1 fu,e35_1 fu,e35_1 fu,e36 fu]) ⟨g19_1 fu,g35_1 fu,g35_1 fu,g36 fu,trivial⟩
def rs77:List RVx := [(.tmp 2)]
def p77_1 (fu:Nat):((List (Int))×((Int)×(((Bool)×(((Int)×((Int)×(Unit)))×(Unit)))×(Unit))))×(Unit)→Option ((((List (Int))×((Int)×(((Bool)×(((Int)×((Int)×(Unit)))×(Unit)))×(Unit))))×((Unit)×(Unit)))×(Int)) := fun ⟨⟨a,c,⟨f,⟨h,i,_⟩,_⟩,_⟩,_⟩ =>
bif f then
 bif decide (List.length a=List.length a) then
 Option.bind (p39_2 fu ((a,c,(true,(h,i,()),dflt .unit),()),())) fun ⟨⟨⟨j,k,⟨l,⟨m,n,_⟩,_⟩,_⟩,_,_⟩,o⟩ =>
 orK (E := ((Bool)×(Unit))×(Unit))
 (bif decide (o<(1:Int)) then
 some (.inl ((true,()),()))
 else
 some (.inl ((decide (o>(3:Int)),()),())))
 fun ⟨⟨q,_⟩,_⟩ =>
 bif q then
 bif decide (List.length j=List.length j) then
 Option.bind (p35_1 fu ((j,k,(l,(m,n,()),()),()),c,(16:Int),())) fun ⟨⟨⟨s,t,⟨u,⟨w,x,_⟩,_⟩,_⟩,_,_⟩,_⟩ =>
 bif decide (List.length s=List.length s) then
 some (((s,t,(u,(w,x,()),()),()),(),()),o)
 else none
 else none
 else
 bif decide (List.length j=List.length j) then
 some (((j,k,(l,(m,n,()),()),()),(),()),o)
 else none
 else none
else
 bif decide (List.length a=List.length a) then
 Option.bind (p39_2 fu ((a,c,(false,dflt (.pair (.int .i64) (.pair (.int .i64) .unit)),()),()),())) fun ⟨⟨⟨y,z,⟨a0,⟨c0,f0,_⟩,_⟩,_⟩,_,_⟩,h0⟩ =>
 orK (E := ((Bool)×(Unit))×(Unit))
 (bif decide (h0<(1:Int)) then
 some (.inl ((true,()),()))
 else
 some (.inl ((decide (h0>(3:Int)),()),())))
 fun ⟨⟨q,_⟩,_⟩ =>
 bif q then
 bif decide (List.length y=List.length y) then
 Option.bind (p35_1 fu ((y,z,(a0,(c0,f0,()),()),()),c,(16:Int),())) fun ⟨⟨⟨i0,j0,⟨k0,⟨l0,m0,_⟩,_⟩,_⟩,_,_⟩,_⟩ =>
 bif decide (List.length i0=List.length i0) then
 some (((i0,j0,(k0,(l0,m0,()),()),()),(),()),h0)
 else none
 else none
 else
 bif decide (List.length y=List.length y) then
 some (((y,z,(a0,(c0,f0,()),()),()),(),()),h0)
 else none
 else none
def e77_1 (fu:Nat):Ent := ⟨77,(.cons Y4 .nil),(.cons Y3 (.cons .dead .nil)),(.hole (.int .i64)),p77_1 fu⟩
def d77_1 (fu:Nat):DC := (.seq (.region [opD 2 (.mov (cD 0))] [[]] false) (.seq (.region [mvD 5 0,opD 6 (.pure .nilc [(tD 5)]),opD 7 (.faddr 1 (tD 6)),opD 8 (.load false 1 (tD 7)),mvD 3 8] [[],[0],[1],[2],[3,0,1,2,3]] false) (.seq (.region [mvD 9 0,oqD 10 (.call 39 [(tD 9)]) (.ent (e39_2 fu)),mvD 4 10] [[],[0],[1,1,0,1]] false) (.seq (.join ⟨[16],(.cons (.hole .bool) .nil),[],.nil,[0,3,4],[0,1,116]⟩
 (.region [mvD 11 4,opD 12 (.bin .lss (tD 11) (cD 1)),mvD 13 12,ogD 14 13 false (.mov (tD 4)),ogD 15 13 false (.bin .gtr (tD 14) (cD 3)),opD 16 (.pick (tD 13) (.const (.bool true)) (tD 15))] [[],[0],[1],[2],[3,2],[2,4]] false)
 (.cond (.tmp 16) (.region [mvD 17 0,mvD 18 3,oqD 19 (.call 35 [(tD 17),(tD 18),(cD 16)]) (.ent (e35_1 fu))] [[],[],[0,1]] false) .skip)) (.seq (.region [mvD 20 4,mvD 2 20] [[],[0,0]] false) .ret)))))
theorem g77_1 (fu:Nat):(e77_1 fu).Good Tryd.prog := good_fn orders Tryd.func77 fu (d77_1 fu) rs77 21 (l := [e39_2 fu,e35_1 fu]) ⟨g39_2 fu,g35_1 fu,trivial⟩
def rs42:List RVx := [(.tmp 4)]
def p42_1 (fu:Nat):((List (Int))×((Int)×(((Bool)×(((Int)×((Int)×(Unit)))×(Unit)))×(Unit))))×((Int)×(Unit))→Option ((((List (Int))×((Int)×(((Bool)×(((Int)×((Int)×(Unit)))×(Unit)))×(Unit))))×((Unit)×(Unit)))×(List (Int))) := fun ⟨⟨a,c,⟨f,⟨h,i,_⟩,_⟩,_⟩,j,_⟩ =>
bif f then
 bif decide (List.length a=List.length a) then
 Option.bind (p17_2 fu ((a,c,(true,(h,i,()),dflt .unit),()),j,())) fun ⟨⟨⟨k,l,⟨m,⟨n,o,_⟩,_⟩,_⟩,_,_⟩,q⟩ =>
 bif decide (List.length k=List.length k) then
 Option.bind (p59_2 fu ((k,l,(m,(n,o,()),()),()),q,())) fun ⟨⟨⟨s,t,⟨u,⟨w,x,_⟩,_⟩,_⟩,_,_⟩,y⟩ =>
 bif decide (List.length s=List.length s) then
 bif decide (List.length y=List.length y) then
 some (((s,t,(u,(w,x,()),()),()),(),()),y)
 else none
 else none
 else none
 else none
else
 bif decide (List.length a=List.length a) then
 Option.bind (p17_2 fu ((a,c,(false,dflt (.pair (.int .i64) (.pair (.int .i64) .unit)),()),()),j,())) fun ⟨⟨⟨z,a0,⟨c0,⟨f0,h0,_⟩,_⟩,_⟩,_,_⟩,i0⟩ =>
 bif decide (List.length z=List.length z) then
 Option.bind (p59_2 fu ((z,a0,(c0,(f0,h0,()),()),()),i0,())) fun ⟨⟨⟨j0,k0,⟨l0,⟨m0,n0,_⟩,_⟩,_⟩,_,_⟩,o0⟩ =>
 bif decide (List.length j0=List.length j0) then
 bif decide (List.length o0=List.length o0) then
 some (((j0,k0,(l0,(m0,n0,()),()),()),(),()),o0)
 else none
 else none
 else none
 else none
def e42_1 (fu:Nat):Ent := ⟨42,(.cons Y4 (.cons (.hole (.int .i64)) .nil)),(.cons Y3 (.cons .dead .nil)),(.own .own 5 (.int .u8)),p42_1 fu⟩
def d42_1 (fu:Nat):DC := (.seq (.region [opD 4 (.mov (.const vS))] [[]] false) (.seq (.region [mvD 5 0,mvD 6 0,mvD 7 1,oqD 8 (.call 17 [(tD 6),(tD 7)]) (.ent (e17_2 fu)),oqD 9 (.call 59 [(tD 5),(tD 8)]) (.ent (e59_2 fu)),mvD 4 9] [[],[],[],[1,2],[0,3,3],[4,4,0,1,2,3,4]] false) .ret))
theorem g42_1 (fu:Nat):(e42_1 fu).Good Tryd.prog := good_fn orders Tryd.func42 fu (d42_1 fu) rs42 10 (l := [e17_2 fu,e59_2 fu]) ⟨g17_2 fu,g59_2 fu,trivial⟩
def rs62:List RVx := [(.tmp 2)]
def p62_2 (fu:Nat):((List (Int))×((Int)×(((Bool)×(((Int)×((Int)×(Unit)))×(Unit)))×(Unit))))×(Unit)→Option ((((List (Int))×((Int)×(((Bool)×(((Int)×((Int)×(Unit)))×(Unit)))×(Unit))))×((Unit)×(Unit)))×(List (Int))) := fun ⟨⟨a,c,⟨f,⟨h,i,_⟩,_⟩,_⟩,_⟩ =>
bif f then
 bif decide (List.length a=List.length a) then
 Option.bind (p17_2 fu ((a,c,(true,(h,i,()),dflt .unit),()),(7:Int),())) fun ⟨⟨⟨j,k,⟨l,⟨m,n,_⟩,_⟩,_⟩,_,_⟩,o⟩ =>
 bif decide (List.length j=List.length j) then
 loopO (S := ((List (Int))×((Int)×(Unit)))×(((List (Int))×((Int)×(((Bool)×(((Int)×((Int)×(Unit)))×(Unit)))×(Unit))))×(Unit))) fu (fun ⟨⟨q,s,_⟩,⟨⟨t,u,⟨w,⟨x,y,_⟩,_⟩,_⟩,_⟩⟩ =>
 bif decide (s<o) then
 bif decide (List.length t=List.length t) then
 Option.bind (p39_2 fu ((t,u,(w,(x,y,()),()),()),())) fun ⟨⟨⟨z,a0,⟨c0,⟨f0,h0,_⟩,_⟩,_⟩,_,_⟩,i0⟩ =>
 bif decide (List.length q=List.length q) then
 bif decide (List.length q+List.length ([i0])≤maxLen∧(List.length q+List.length ([i0])) * 8≤140737488355328) then
 bif decide (List.length (q ++ [i0])=List.length (q ++ [i0])) then
 bif decide (List.length z=List.length z) then
 some (.inl (((q ++ [i0]),IntKind.wrap .i64 (s+(1:Int)),()),((z,a0,(c0,(f0,h0,()),()),()),())))
 else none
 else none
 else none
 else none
 else none
 else
 inrO (bif decide (List.length t=List.length t) then
 bif decide (List.length q=List.length q) then
 some (((t,u,(w,(x,y,()),()),()),(),()),q)
 else none
 else none))
 (([],(0:Int),()),((j,k,(l,(m,n,()),()),()),()))
 else none
 else none
else
 bif decide (List.length a=List.length a) then
 Option.bind (p17_2 fu ((a,c,(false,dflt (.pair (.int .i64) (.pair (.int .i64) .unit)),()),()),(7:Int),())) fun ⟨⟨⟨j0,k0,⟨l0,⟨m0,n0,_⟩,_⟩,_⟩,_,_⟩,o0⟩ =>
 bif decide (List.length j0=List.length j0) then
 loopO (S := ((List (Int))×((Int)×(Unit)))×(((List (Int))×((Int)×(((Bool)×(((Int)×((Int)×(Unit)))×(Unit)))×(Unit))))×(Unit))) fu (fun ⟨⟨q,s,_⟩,⟨⟨t,u,⟨w,⟨x,y,_⟩,_⟩,_⟩,_⟩⟩ =>
 bif decide (s<o0) then
 bif decide (List.length t=List.length t) then
 Option.bind (p39_2 fu ((t,u,(w,(x,y,()),()),()),())) fun ⟨⟨⟨q0,s0,⟨t0,⟨u0,w0,_⟩,_⟩,_⟩,_,_⟩,x0⟩ =>
 bif decide (List.length q=List.length q) then
 bif decide (List.length q+List.length ([x0])≤maxLen∧(List.length q+List.length ([x0])) * 8≤140737488355328) then
 bif decide (List.length (q ++ [x0])=List.length (q ++ [x0])) then
 bif decide (List.length q0=List.length q0) then
 some (.inl (((q ++ [x0]),IntKind.wrap .i64 (s+(1:Int)),()),((q0,s0,(t0,(u0,w0,()),()),()),())))
 else none
 else none
 else none
 else none
 else none
 else
 inrO (bif decide (List.length t=List.length t) then
 bif decide (List.length q=List.length q) then
 some (((t,u,(w,(x,y,()),()),()),(),()),q)
 else none
 else none))
 (([],(0:Int),()),((j0,k0,(l0,(m0,n0,()),()),()),()))
 else none
 else none
def e62_2 (fu:Nat):Ent := ⟨62,(.cons Y4 .nil),(.cons Y3 (.cons .dead .nil)),(.own .own 3 (.int .i64)),p62_2 fu⟩
def d62_2 (fu:Nat):DC := (.seq (.region [opD 2 (.mov (.const vS))] [[]] false) (.seq (.region [opD 3 (.mov (.const vS))] [[]] false) (.seq (.seq (.region [mvD 4 0,oqD 5 (.call 17 [(tD 4),(cD 7)]) (.ent (e17_2 fu)),opD 6 (.mov (cD 0))] [[],[0],[]] false) (.block 0 (.loop ⟨[3,6],(.cons (.own .own 3 (.int .i64)) (.cons (.hole (.int .i64)) .nil)),[(0,79,3)],(.cons Y3 .nil),[0,5],[1]⟩
 (.seq (.region [opD 7 (.bin .lss (tD 6) (tD 5))] [[]] false) (.seq (.cond (.tmp 7) .skip (.exit 0)) (.seq (.block 1 (.region [mvD 8 3,mvD 9 0,oqD 10 (.call 39 [(tD 9)]) (.ent (e39_2 fu)),oqD 11 (.bslice 3 1 1 [vI] [(0,(tD 10))]) (.ty (.int .i64)),oqD 12 (.app 3 1 [vI] 8 (tD 8) (tD 11)) (.ty (.int .i64)),mvD 3 12] [[],[],[1],[2],[0,3,2],[4,4,0,1,2,3,4]] false)) (.region [opD 13 (.bin .add (tD 6) (cD 1)),mvD 6 13] [[],[0]] false))))))) (.seq (.region [mvD 14 3,mvD 2 14] [[],[0,0]] false) .ret))))
theorem g62_2 (fu:Nat):(e62_2 fu).Good Tryd.prog := good_fn orders Tryd.func62 fu (d62_2 fu) rs62 15 (l := [e17_2 fu,e39_2 fu]) ⟨g17_2 fu,g39_2 fu,trivial⟩
def rs61:List RVx := [(.cell 4 true 2)]
def p61_7 (_:Nat):((List (Int))×((Int)×(((Bool)×(((Int)×((Int)×(Unit)))×(Unit)))×(Unit))))×(((List (Int))×((List (Int))×(Unit)))×(Unit))→Option ((((List (Int))×((Int)×(((Bool)×(((Int)×((Int)×(Unit)))×(Unit)))×(Unit))))×((Unit)×((Unit)×((Unit)×(Unit)))))×((List (Int))×((List (Int))×(Unit)))) := fun ⟨⟨a,c,⟨f,⟨h,i,_⟩,_⟩,_⟩,⟨j,k,_⟩,_⟩ =>
bif f then
 bif decide (List.length a=List.length a) then
 some (((a,c,(true,(h,i,()),dflt .unit),()),(),(),(),()),([],[],()))
 else none
else
 bif decide (List.length a=List.length a) then
 bif decide (List.length j=List.length j) then
 bif decide (List.length k=List.length k) then
 some (((a,c,(false,dflt (.pair (.int .i64) (.pair (.int .i64) .unit)),()),()),(),(),(),()),(j,k,()))
 else none
 else none
 else none
def e61_7 (fu:Nat):Ent := ⟨61,(.cons Y4 (.cons (.agg 2 (.cons (.own .own 3 (.int .i64)) (.cons (.own .own 3 (.int .i64)) .nil))) .nil)),(.cons Y3 (.cons .dead (.cons .dead (.cons .dead .nil)))),(.agg 2 (.cons (.own .own 3 (.int .i64)) (.cons (.own .own 3 (.int .i64)) .nil))),p61_7 fu⟩
def d61_7 (_:Nat):DC := (.seq (.region [opD 3 (.box 40 2 (tD 1)),opD 4 (.alloc 40 2 [vS,vS])] [[],[]] false) (.seq (.seq (.region [mvD 6 0,opD 7 (.pure .nilc [(tD 6)]),opD 8 (.faddr 2 (tD 7)),opD 9 (.load false 1 (tD 8)),opD 10 (.pure (.nilq 1 true) [(tD 9)])] [[],[0],[1],[2],[3]] false) (.cond (.tmp 10) (.seq (.region [opD 5 (.alloc 40 2 [vS,vS])] [[]] false) (.seq (.region [opD 11 (.load true 2 (tD 5)),onD (.store 2 (tD 4) (tD 11))] [[],[0,0]] false) .ret)) .skip)) (.seq (.region [opD 12 (.load true 2 (tD 3)),onD (.store 2 (tD 4) (tD 12))] [[],[0,0]] false) .ret)))
theorem g61_7 (fu:Nat):(e61_7 fu).Good Tryd.prog := good_fn orders Tryd.func61 fu (d61_7 fu) rs61 13 (l := []) trivial
def rs41:List RVx := [(.cell 2 true 2)]
def p41_1 (fu:Nat):((List (Int))×((Int)×(((Bool)×(((Int)×((Int)×(Unit)))×(Unit)))×(Unit))))×(Unit)→Option ((((List (Int))×((Int)×(((Bool)×(((Int)×((Int)×(Unit)))×(Unit)))×(Unit))))×((Unit)×(Unit)))×((List (Int))×((List (Int))×(Unit)))) := fun ⟨⟨a,c,⟨f,⟨h,i,_⟩,_⟩,_⟩,_⟩ =>
bif f then
 bif decide (List.length a=List.length a) then
 Option.bind (p62_2 fu ((a,c,(true,(h,i,()),dflt .unit),()),())) fun ⟨⟨⟨j,k,⟨l,⟨m,n,_⟩,_⟩,_⟩,_,_⟩,o⟩ =>
 bif decide (List.length j=List.length j) then
 Option.bind (p62_2 fu ((j,k,(l,(m,n,()),()),()),())) fun ⟨⟨⟨q,s,⟨t,⟨u,w,_⟩,_⟩,_⟩,_,_⟩,x⟩ =>
 bif decide (List.length q=List.length q) then
 bif decide (List.length o=List.length o) then
 bif decide (List.length x=List.length x) then
 Option.bind (p61_7 fu ((q,s,(t,(u,w,()),()),()),(o,x,()),())) fun ⟨⟨⟨y,z,⟨a0,⟨c0,f0,_⟩,_⟩,_⟩,_,_,_,_⟩,⟨h0,i0,_⟩⟩ =>
 bif decide (List.length y=List.length y) then
 bif decide (List.length h0=List.length h0) then
 bif decide (List.length i0=List.length i0) then
 some (((y,z,(a0,(c0,f0,()),()),()),(),()),(h0,i0,()))
 else none
 else none
 else none
 else none
 else none
 else none
 else none
 else none
else
 bif decide (List.length a=List.length a) then
 Option.bind (p62_2 fu ((a,c,(false,dflt (.pair (.int .i64) (.pair (.int .i64) .unit)),()),()),())) fun ⟨⟨⟨j0,k0,⟨l0,⟨m0,n0,_⟩,_⟩,_⟩,_,_⟩,o0⟩ =>
 bif decide (List.length j0=List.length j0) then
 Option.bind (p62_2 fu ((j0,k0,(l0,(m0,n0,()),()),()),())) fun ⟨⟨⟨q0,s0,⟨t0,⟨u0,w0,_⟩,_⟩,_⟩,_,_⟩,x0⟩ =>
 bif decide (List.length q0=List.length q0) then
 bif decide (List.length o0=List.length o0) then
 bif decide (List.length x0=List.length x0) then
 Option.bind (p61_7 fu ((q0,s0,(t0,(u0,w0,()),()),()),(o0,x0,()),())) fun ⟨⟨⟨y0,z0,⟨a1,⟨c1,f1,_⟩,_⟩,_⟩,_,_,_,_⟩,⟨h1,i1,_⟩⟩ =>
 bif decide (List.length y0=List.length y0) then
 bif decide (List.length h1=List.length h1) then
 bif decide (List.length i1=List.length i1) then
 some (((y0,z0,(a1,(c1,f1,()),()),()),(),()),(h1,i1,()))
 else none
 else none
 else none
 else none
 else none
 else none
 else none
 else none
def e41_1 (fu:Nat):Ent := ⟨41,(.cons Y4 .nil),(.cons Y3 (.cons .dead .nil)),(.agg 2 (.cons (.own .own 3 (.int .i64)) (.cons (.own .own 3 (.int .i64)) .nil))),p41_1 fu⟩
def d41_1 (fu:Nat):DC := (.seq (.region [opD 2 (.alloc 40 2 [vS,vS])] [[]] false) (.seq (.region [mvD 3 0,mvD 4 0,oqD 5 (.call 62 [(tD 4)]) (.ent (e62_2 fu)),mvD 6 0,oqD 7 (.call 62 [(tD 6)]) (.ent (e62_2 fu)),opD 8 (.build 2 [vS,vS] [(0,(1,(tD 5))),(1,(1,(tD 7)))]),oqD 9 (.call 61 [(tD 3),(tD 8)]) (.ent (e61_7 fu)),onD (.store 2 (tD 2) (tD 9))] [[],[],[1],[],[3,2],[2,4],[0,5,4],[6,6,0,1,2,3,4,5,6]] false) .ret))
theorem g41_1 (fu:Nat):(e41_1 fu).Good Tryd.prog := good_fn orders Tryd.func41 fu (d41_1 fu) rs41 10 (l := [e62_2 fu,e62_2 fu,e61_7 fu]) ⟨g62_2 fu,g62_2 fu,g61_7 fu,trivial⟩
def rs76:List RVx := [(.cell 4 true 6)]
def p76_5 (_:Nat):((List (Int))×((Int)×(((Bool)×(((Int)×((Int)×(Unit)))×(Unit)))×(Unit))))×((Z6)×(Unit))→Option ((((List (Int))×((Int)×(((Bool)×(((Int)×((Int)×(Unit)))×(Unit)))×(Unit))))×((Unit)×((Unit)×((Unit)×((Unit)×(Unit))))))×((Int)×((Int)×((Int)×((List (Int))×((List (Int))×((List (Int))×(Unit)))))))) := fun ⟨⟨a,c,⟨f,⟨h,i,_⟩,_⟩,_⟩,⟨j,k,l,m,n,o,_⟩,_⟩ =>
bif f then
 bif decide (List.length a=List.length a) then
 some (((a,c,(true,(h,i,()),dflt .unit),()),(),(),(),(),()),((0:Int),(0:Int),(0:Int),[],[],[],()))
 else none
else
 bif decide (List.length a=List.length a) then
 bif decide (List.length m=List.length m) then
 bif decide (List.length n=List.length n) then
 bif decide (List.length o=List.length o) then
 some (((a,c,(false,dflt (.pair (.int .i64) (.pair (.int .i64) .unit)),()),()),(),(),(),(),()),(j,k,l,m,n,o,()))
 else none
 else none
 else none
 else none
def e76_5 (fu:Nat):Ent := ⟨76,(.cons Y4 (.cons Y7 .nil)),(.cons Y3 (.cons .dead (.cons .dead (.cons .dead (.cons .dead .nil))))),Y7,p76_5 fu⟩
def d76_5 (_:Nat):DC := (.seq (.region [opD 3 (.box 96 6 (tD 1)),opD 4 (.alloc 96 6 [vU,vU,vI,vS,vS,vS])] [[],[]] false) (.seq (.seq (.region [mvD 6 0,opD 7 (.pure .nilc [(tD 6)]),opD 8 (.faddr 2 (tD 7)),opD 9 (.load false 1 (tD 8)),opD 10 (.pure (.nilq 1 true) [(tD 9)])] [[],[0],[1],[2],[3]] false) (.cond (.tmp 10) (.seq (.region [opD 5 (.alloc 96 6 [vU,vU,vI,vS,vS,vS])] [[]] false) (.seq (.region [opD 11 (.load true 6 (tD 5)),onD (.store 6 (tD 4) (tD 11))] [[],[0,0]] false) .ret)) .skip)) (.seq (.region [opD 12 (.load true 6 (tD 3)),onD (.store 6 (tD 4) (tD 12))] [[],[0,0]] false) .ret)))
theorem g76_5 (fu:Nat):(e76_5 fu).Good Tryd.prog := good_fn orders Tryd.func76 fu (d76_5 fu) rs76 13 (l := []) trivial
def rs60:List RVx := [(.cell 2 true 6)]
def p60_1 (fu:Nat):((List (Int))×((Int)×(((Bool)×(((Int)×((Int)×(Unit)))×(Unit)))×(Unit))))×(Unit)→Option ((((List (Int))×((Int)×(((Bool)×(((Int)×((Int)×(Unit)))×(Unit)))×(Unit))))×((Unit)×(Unit)))×((Int)×((Int)×((Int)×((List (Int))×((List (Int))×((List (Int))×(Unit)))))))) := fun ⟨⟨a,c,⟨f,⟨h,i,_⟩,_⟩,_⟩,_⟩ =>
bif f then
 bif decide (List.length a=List.length a) then
 Option.bind (p19_1 fu ((a,c,(true,(h,i,()),dflt .unit),()),())) fun ⟨⟨⟨j,k,⟨l,⟨m,n,_⟩,_⟩,_⟩,_,_⟩,o⟩ =>
 bif decide (List.length j=List.length j) then
 Option.bind (p19_1 fu ((j,k,(l,(m,n,()),()),()),())) fun ⟨⟨⟨q,s,⟨t,⟨u,w,_⟩,_⟩,_⟩,_,_⟩,x⟩ =>
 bif decide (List.length q=List.length q) then
 Option.bind (p77_1 fu ((q,s,(t,(u,w,()),()),()),())) fun ⟨⟨⟨y,z,⟨a0,⟨c0,f0,_⟩,_⟩,_⟩,_,_⟩,h0⟩ =>
 bif decide (List.length y=List.length y) then
 Option.bind (p42_1 fu ((y,z,(a0,(c0,f0,()),()),()),(262144:Int),())) fun ⟨⟨⟨i0,j0,⟨k0,⟨l0,m0,_⟩,_⟩,_⟩,_,_⟩,n0⟩ =>
 bif decide (List.length i0=List.length i0) then
 Option.bind (p41_1 fu ((i0,j0,(k0,(l0,m0,()),()),()),())) fun ⟨⟨⟨o0,q0,⟨s0,⟨t0,u0,_⟩,_⟩,_⟩,_,_⟩,⟨w0,x0,_⟩⟩ =>
 bif decide (List.length o0=List.length o0) then
 bif decide (List.length n0=List.length n0) then
 bif decide (List.length w0=List.length w0) then
 bif decide (List.length x0=List.length x0) then
 Option.bind (p76_5 fu ((o0,q0,(s0,(t0,u0,()),()),()),(o,x,h0,n0,w0,x0,()),())) fun ⟨⟨⟨y0,z0,⟨a1,⟨c1,f1,_⟩,_⟩,_⟩,_,_,_,_,_⟩,⟨h1,i1,j1,k1,l1,m1,_⟩⟩ =>
 bif decide (List.length y0=List.length y0) then
 bif decide (List.length k1=List.length k1) then
 bif decide (List.length l1=List.length l1) then
 bif decide (List.length m1=List.length m1) then
 some (((y0,z0,(a1,(c1,f1,()),()),()),(),()),(h1,i1,j1,k1,l1,m1,()))
 else none
 else none
 else none
 else none
 else none
 else none
 else none
 else none
 else none
 else none
 else none
 else none
 else none
else
 bif decide (List.length a=List.length a) then
 Option.bind (p19_1 fu ((a,c,(false,dflt (.pair (.int .i64) (.pair (.int .i64) .unit)),()),()),())) fun ⟨⟨⟨n1,o1,⟨q1,⟨s1,t1,_⟩,_⟩,_⟩,_,_⟩,u1⟩ =>
 bif decide (List.length n1=List.length n1) then
 Option.bind (p19_1 fu ((n1,o1,(q1,(s1,t1,()),()),()),())) fun ⟨⟨⟨w1,x1,⟨y1,⟨z1,a2,_⟩,_⟩,_⟩,_,_⟩,c2⟩ =>
 bif decide (List.length w1=List.length w1) then
 Option.bind (p77_1 fu ((w1,x1,(y1,(z1,a2,()),()),()),())) fun ⟨⟨⟨f2,h2,⟨i2,⟨j2,k2,_⟩,_⟩,_⟩,_,_⟩,l2⟩ =>
 bif decide (List.length f2=List.length f2) then
 Option.bind (p42_1 fu ((f2,h2,(i2,(j2,k2,()),()),()),(262144:Int),())) fun ⟨⟨⟨m2,n2,⟨o2,⟨q2,s2,_⟩,_⟩,_⟩,_,_⟩,t2⟩ =>
 bif decide (List.length m2=List.length m2) then
 Option.bind (p41_1 fu ((m2,n2,(o2,(q2,s2,()),()),()),())) fun ⟨⟨⟨u2,w2,⟨x2,⟨y2,z2,_⟩,_⟩,_⟩,_,_⟩,⟨a3,c3,_⟩⟩ =>
 bif decide (List.length u2=List.length u2) then
 bif decide (List.length t2=List.length t2) then
 bif decide (List.length a3=List.length a3) then
 bif decide (List.length c3=List.length c3) then
 Option.bind (p76_5 fu ((u2,w2,(x2,(y2,z2,()),()),()),(u1,c2,l2,t2,a3,c3,()),())) fun ⟨⟨⟨f3,h3,⟨i3,⟨j3,k3,_⟩,_⟩,_⟩,_,_,_,_,_⟩,⟨l3,m3,n3,o3,q3,s3,_⟩⟩ =>
 bif decide (List.length f3=List.length f3) then
 bif decide (List.length o3=List.length o3) then
 bif decide (List.length q3=List.length q3) then
 bif decide (List.length s3=List.length s3) then
 some (((f3,h3,(i3,(j3,k3,()),()),()),(),()),(l3,m3,n3,o3,q3,s3,()))
 else none
 else none
 else none
 else none
 else none
 else none
 else none
 else none
 else none
 else none
 else none
 else none
 else none
def e60_1 (fu:Nat):Ent := ⟨60,(.cons Y4 .nil),(.cons Y3 (.cons .dead .nil)),Y7,p60_1 fu⟩
def d60_1 (fu:Nat):DC := (.seq (.region [opD 2 (.alloc 96 6 [vU,vU,vI,vS,vS,vS])] [[]] false) (.seq (.region [mvD 3 0,mvD 4 0,oqD 5 (.call 19 [(tD 4)]) (.ent (e19_1 fu)),mvD 6 0,oqD 7 (.call 19 [(tD 6)]) (.ent (e19_1 fu)),mvD 8 0,oqD 9 (.call 77 [(tD 8)]) (.ent (e77_1 fu)),mvD 10 0,oqD 11 (.call 42 [(tD 10),(cD 262144)]) (.ent (e42_1 fu)),mvD 12 0,oqD 13 (.call 41 [(tD 12)]) (.ent (e41_1 fu)),opD 14 (.build 6 [vU,vU,vI,vS,vS,vS] [(0,(1,(tD 5))),(1,(1,(tD 7))),(2,(1,(tD 9))),(3,(1,(tD 11))),(4,(2,(tD 13)))]),oqD 15 (.call 76 [(tD 3),(tD 14)]) (.ent (e76_5 fu)),onD (.store 6 (tD 2) (tD 15))] [[],[],[1],[],[3,2],[],[5,4],[],[7,6],[],[9,8],[2,4,6,8,10],[0,11,10],[12,12,0,1,2,3,4,5,6,7,8,9,10,11,12]] false) .ret))
theorem g60_1 (fu:Nat):(e60_1 fu).Good Tryd.prog := good_fn orders Tryd.func60 fu (d60_1 fu) rs60 16 (l := [e19_1 fu,e19_1 fu,e77_1 fu,e42_1 fu,e41_1 fu,e76_5 fu]) ⟨g19_1 fu,g19_1 fu,g77_1 fu,g42_1 fu,g41_1 fu,g76_5 fu,trivial⟩
def rs40:List RVx := [(.tmp 2)]
def p40_1 (fu:Nat):((List (Int))×((Int)×(((Bool)×(((Int)×((Int)×(Unit)))×(Unit)))×(Unit))))×(Unit)→Option ((((List (Int))×((Int)×(((Bool)×(((Int)×((Int)×(Unit)))×(Unit)))×(Unit))))×((Unit)×(Unit)))×(List (D_api_Entry))) := fun ⟨⟨a,c,⟨f,⟨h,i,_⟩,_⟩,_⟩,_⟩ =>
bif f then
 bif decide (List.length a=List.length a) then
 Option.bind (p17_2 fu ((a,c,(true,(h,i,()),dflt .unit),()),(8:Int),())) fun ⟨⟨⟨j,k,⟨l,⟨m,n,_⟩,_⟩,_⟩,_,_⟩,o⟩ =>
 bif decide (List.length j=List.length j) then
 loopO (S := ((List (D_api_Entry))×((Int)×(Unit)))×(((List (Int))×((Int)×(((Bool)×(((Int)×((Int)×(Unit)))×(Unit)))×(Unit))))×(Unit))) fu (fun ⟨⟨q,s,_⟩,⟨⟨t,u,⟨w,⟨x,y,_⟩,_⟩,_⟩,_⟩⟩ =>
 bif decide (s<o) then
 bif decide (List.length t=List.length t) then
 Option.bind (p60_1 fu ((t,u,(w,(x,y,()),()),()),())) fun ⟨⟨⟨z,a0,⟨c0,⟨f0,h0,_⟩,_⟩,_⟩,_,_⟩,⟨i0,j0,k0,l0,m0,n0,_⟩⟩ =>
 bif decide (List.length l0=List.length l0) then
 bif decide (List.length m0=List.length m0) then
 bif decide (List.length n0=List.length n0) then
 bif decide (List.length q=List.length q) then
 bif decide (List.length q+List.length ([(i0,j0,k0,l0,m0,n0)])≤maxLen∧(List.length q+List.length ([(i0,j0,k0,l0,m0,n0)])) * 96≤140737488355328) then
 bif decide (List.length (q ++ [(i0,j0,k0,l0,m0,n0)])=List.length (q ++ [(i0,j0,k0,l0,m0,n0)])) then
 bif decide (List.length z=List.length z) then
 some (.inl (((q ++ [(i0,j0,k0,l0,m0,n0)]),IntKind.wrap .i64 (s+(1:Int)),()),((z,a0,(c0,(f0,h0,()),()),()),())))
 else none
 else none
 else none
 else none
 else none
 else none
 else none
 else none
 else
 inrO (bif decide (List.length t=List.length t) then
 bif decide (List.length q=List.length q) then
 some (((t,u,(w,(x,y,()),()),()),(),()),q)
 else none
 else none))
 (([],(0:Int),()),((j,k,(l,(m,n,()),()),()),()))
 else none
 else none
else
 bif decide (List.length a=List.length a) then
 Option.bind (p17_2 fu ((a,c,(false,dflt (.pair (.int .i64) (.pair (.int .i64) .unit)),()),()),(8:Int),())) fun ⟨⟨⟨o0,q0,⟨s0,⟨t0,u0,_⟩,_⟩,_⟩,_,_⟩,w0⟩ =>
 bif decide (List.length o0=List.length o0) then
 loopO (S := ((List (D_api_Entry))×((Int)×(Unit)))×(((List (Int))×((Int)×(((Bool)×(((Int)×((Int)×(Unit)))×(Unit)))×(Unit))))×(Unit))) fu (fun ⟨⟨q,s,_⟩,⟨⟨t,u,⟨w,⟨x,y,_⟩,_⟩,_⟩,_⟩⟩ =>
 bif decide (s<w0) then
 bif decide (List.length t=List.length t) then
 Option.bind (p60_1 fu ((t,u,(w,(x,y,()),()),()),())) fun ⟨⟨⟨x0,y0,⟨z0,⟨a1,c1,_⟩,_⟩,_⟩,_,_⟩,⟨f1,h1,i1,j1,k1,l1,_⟩⟩ =>
 bif decide (List.length j1=List.length j1) then
 bif decide (List.length k1=List.length k1) then
 bif decide (List.length l1=List.length l1) then
 bif decide (List.length q=List.length q) then
 bif decide (List.length q+List.length ([(f1,h1,i1,j1,k1,l1)])≤maxLen∧(List.length q+List.length ([(f1,h1,i1,j1,k1,l1)])) * 96≤140737488355328) then
 bif decide (List.length (q ++ [(f1,h1,i1,j1,k1,l1)])=List.length (q ++ [(f1,h1,i1,j1,k1,l1)])) then
 bif decide (List.length x0=List.length x0) then
 some (.inl (((q ++ [(f1,h1,i1,j1,k1,l1)]),IntKind.wrap .i64 (s+(1:Int)),()),((x0,y0,(z0,(a1,c1,()),()),()),())))
 else none
 else none
 else none
 else none
 else none
 else none
 else none
 else none
 else
 inrO (bif decide (List.length t=List.length t) then
 bif decide (List.length q=List.length q) then
 some (((t,u,(w,(x,y,()),()),()),(),()),q)
 else none
 else none))
 (([],(0:Int),()),((o0,q0,(s0,(t0,u0,()),()),()),()))
 else none
 else none
def e40_1 (fu:Nat):Ent := ⟨40,(.cons Y4 .nil),(.cons Y3 (.cons .dead .nil)),(.own .own 96 T_api_Entry),p40_1 fu⟩
def d40_1 (fu:Nat):DC := (.seq (.region [opD 2 (.mov (.const vS))] [[]] false) (.seq (.region [opD 3 (.mov (.const vS))] [[]] false) (.seq (.seq (.region [mvD 4 0,oqD 5 (.call 17 [(tD 4),(cD 8)]) (.ent (e17_2 fu)),opD 6 (.mov (cD 0))] [[],[0],[]] false) (.block 0 (.loop ⟨[3,6],(.cons (.own .own 96 T_api_Entry) (.cons (.hole (.int .i64)) .nil)),[(0,79,3)],(.cons Y3 .nil),[0,5],[1]⟩
 (.seq (.region [opD 7 (.bin .lss (tD 6) (tD 5))] [[]] false) (.seq (.cond (.tmp 7) .skip (.exit 0)) (.seq (.block 1 (.region [mvD 8 3,mvD 9 0,oqD 10 (.call 60 [(tD 9)]) (.ent (e60_1 fu)),oqD 11 (.bslice 96 6 1 [vU,vU,vI,vS,vS,vS] [(0,(tD 10))]) (.ty T_api_Entry),oqD 12 (.app 96 6 [vU,vU,vI,vS,vS,vS] 96 (tD 8) (tD 11)) (.ty T_api_Entry),mvD 3 12] [[],[],[1],[2],[0,3,2],[4,4,0,1,2,3,4]] false)) (.region [opD 13 (.bin .add (tD 6) (cD 1)),mvD 6 13] [[],[0]] false))))))) (.seq (.region [mvD 14 3,mvD 2 14] [[],[0,0]] false) .ret))))
theorem g40_1 (fu:Nat):(e40_1 fu).Good Tryd.prog := good_fn orders Tryd.func40 fu (d40_1 fu) rs40 15 (l := [e17_2 fu,e60_1 fu]) ⟨g17_2 fu,g60_1 fu,trivial⟩
def rs21:List RVx := [(.cell 2 true 14)]
def p21 (fu:Nat):((List (Int))×((Int)×(((Bool)×(((Int)×((Int)×(Unit)))×(Unit)))×(Unit))))×(Unit)→Option ((((List (Int))×((Int)×(((Bool)×(((Int)×((Int)×(Unit)))×(Unit)))×(Unit))))×((Unit)×(Unit)))×((Int)×((Int)×((Int)×((Int)×((Int)×((Int)×((List (D_api_Entry))×((Int)×((Bool)×((Int)×((List (Int))×((List (Int))×((List (Int))×((Bool)×(Unit)))))))))))))))) := fun ⟨⟨a,c,⟨f,⟨h,i,_⟩,_⟩,_⟩,_⟩ =>
bif f then
 bif decide (List.length a=List.length a) then
 Option.bind (p39_2 fu ((a,c,(true,(h,i,()),dflt .unit),()),())) fun ⟨⟨⟨j,k,⟨l,⟨m,n,_⟩,_⟩,_⟩,_,_⟩,o⟩ =>
 bif decide (List.length j=List.length j) then
 Option.bind (p19_1 fu ((j,k,(l,(m,n,()),()),()),())) fun ⟨⟨⟨q,s,⟨t,⟨u,w,_⟩,_⟩,_⟩,_,_⟩,x⟩ =>
 bif decide (List.length q=List.length q) then
 Option.bind (p19_1 fu ((q,s,(t,(u,w,()),()),()),())) fun ⟨⟨⟨y,z,⟨a0,⟨c0,f0,_⟩,_⟩,_⟩,_,_⟩,h0⟩ =>
 bif decide (List.length y=List.length y) then
 Option.bind (p19_1 fu ((y,z,(a0,(c0,f0,()),()),()),())) fun ⟨⟨⟨i0,j0,⟨k0,⟨l0,m0,_⟩,_⟩,_⟩,_,_⟩,n0⟩ =>
 bif decide (List.length i0=List.length i0) then
 Option.bind (p40_1 fu ((i0,j0,(k0,(l0,m0,()),()),()),())) fun ⟨⟨⟨o0,q0,⟨s0,⟨t0,u0,_⟩,_⟩,_⟩,_,_⟩,w0⟩ =>
 bif decide (List.length o0=List.length o0) then
 Option.bind (p19_1 fu ((o0,q0,(s0,(t0,u0,()),()),()),())) fun ⟨⟨⟨x0,y0,⟨z0,⟨a1,c1,_⟩,_⟩,_⟩,_,_⟩,f1⟩ =>
 bif decide (List.length x0=List.length x0) then
 Option.bind (p38_2 fu ((x0,y0,(z0,(a1,c1,()),()),()),())) fun ⟨⟨⟨h1,i1,⟨j1,⟨k1,l1,_⟩,_⟩,_⟩,_,_⟩,m1⟩ =>
 bif decide (List.length h1=List.length h1) then
 Option.bind (p19_1 fu ((h1,i1,(j1,(k1,l1,()),()),()),())) fun ⟨⟨⟨n1,o1,⟨q1,⟨s1,t1,_⟩,_⟩,_⟩,_,_⟩,u1⟩ =>
 bif decide (List.length n1=List.length n1) then
 Option.bind (p41_1 fu ((n1,o1,(q1,(s1,t1,()),()),()),())) fun ⟨⟨⟨w1,x1,⟨y1,⟨z1,a2,_⟩,_⟩,_⟩,_,_⟩,⟨c2,f2,_⟩⟩ =>
 bif decide (List.length w1=List.length w1) then
 Option.bind (p42_1 fu ((w1,x1,(y1,(z1,a2,()),()),()),(262144:Int),())) fun ⟨⟨⟨h2,i2,⟨j2,⟨k2,l2,_⟩,_⟩,_⟩,_,_⟩,m2⟩ =>
 bif decide (List.length h2=List.length h2) then
 Option.bind (p38_2 fu ((h2,i2,(j2,(k2,l2,()),()),()),())) fun ⟨⟨⟨n2,o2,⟨q2,⟨s2,t2,_⟩,_⟩,_⟩,_,_⟩,u2⟩ =>
 Option.bind (p43 fu (o,())) fun ⟨_,w2⟩ =>
 bif !w2 then
 bif decide (List.length n2=List.length n2) then
 Option.bind (p18_1 fu ((n2,o2,(q2,(s2,t2,()),()),()),(111:Int),())) fun ⟨⟨⟨x2,y2,⟨z2,⟨a3,c3,_⟩,_⟩,_⟩,_,_⟩,_⟩ =>
 bif decide (List.length x2=List.length x2) then
 bif decide (List.length w0=List.length w0) then
 bif decide (List.length c2=List.length c2) then
 bif decide (List.length f2=List.length f2) then
 bif decide (List.length m2=List.length m2) then
 some (((x2,y2,(z2,(a3,c3,()),()),()),(),()),(o,(0:Int),(0:Int),x,h0,n0,w0,f1,m1,u1,c2,f2,m2,u2,()))
 else none
 else none
 else none
 else none
 else none
 else none
 else
 bif decide (List.length w0=List.length w0) then
 bif decide (List.length c2=List.length c2) then
 bif decide (List.length f2=List.length f2) then
 bif decide (List.length m2=List.length m2) then
 Option.bind (p32 fu ((o,(0:Int),(0:Int),x,h0,n0,w0,f1,m1,u1,c2,f2,m2,u2,()),())) fun ⟨_,f3⟩ =>
 bif f3 then
 bif decide (List.length n2=List.length n2) then
 Option.bind (p18_1 fu ((n2,o2,(q2,(s2,t2,()),()),()),(111:Int),())) fun ⟨⟨⟨h3,i3,⟨j3,⟨k3,l3,_⟩,_⟩,_⟩,_,_⟩,_⟩ =>
 bif decide (List.length h3=List.length h3) then
 bif decide (List.length w0=List.length w0) then
 bif decide (List.length c2=List.length c2) then
 bif decide (List.length f2=List.length f2) then
 bif decide (List.length m2=List.length m2) then
 some (((h3,i3,(j3,(k3,l3,()),()),()),(),()),(o,(0:Int),(0:Int),x,h0,n0,w0,f1,m1,u1,c2,f2,m2,u2,()))
 else none
 else none
 else none
 else none
 else none
 else none
 else
 bif decide (List.length n2=List.length n2) then
 bif decide (List.length w0=List.length w0) then
 bif decide (List.length c2=List.length c2) then
 bif decide (List.length f2=List.length f2) then
 bif decide (List.length m2=List.length m2) then
 some (((n2,o2,(q2,(s2,t2,()),()),()),(),()),(o,(0:Int),(0:Int),x,h0,n0,w0,f1,m1,u1,c2,f2,m2,u2,()))
 else none
 else none
 else none
 else none
 else none
 else none
 else none
 else none
 else none
 else none
 else none
 else none
 else none
 else none
 else none
 else none
 else none
 else none
 else none
 else none
else
 bif decide (List.length a=List.length a) then
 Option.bind (p39_2 fu ((a,c,(false,dflt (.pair (.int .i64) (.pair (.int .i64) .unit)),()),()),())) fun ⟨⟨⟨m3,n3,⟨o3,⟨q3,s3,_⟩,_⟩,_⟩,_,_⟩,t3⟩ =>
 bif decide (List.length m3=List.length m3) then
 Option.bind (p19_1 fu ((m3,n3,(o3,(q3,s3,()),()),()),())) fun ⟨⟨⟨u3,w3,⟨x3,⟨y3,z3,_⟩,_⟩,_⟩,_,_⟩,a4⟩ =>
 bif decide (List.length u3=List.length u3) then
 Option.bind (p19_1 fu ((u3,w3,(x3,(y3,z3,()),()),()),())) fun ⟨⟨⟨c4,f4,⟨h4,⟨i4,j4,_⟩,_⟩,_⟩,_,_⟩,k4⟩ =>
 bif decide (List.length c4=List.length c4) then
 Option.bind (p19_1 fu ((c4,f4,(h4,(i4,j4,()),()),()),())) fun ⟨⟨⟨l4,m4,⟨n4,⟨o4,q4,_⟩,_⟩,_⟩,_,_⟩,s4⟩ =>
 bif decide (List.length l4=List.length l4) then
 Option.bind (p40_1 fu ((l4,m4,(n4,(o4,q4,()),()),()),())) fun ⟨⟨⟨t4,u4,⟨w4,⟨x4,y4,_⟩,_⟩,_⟩,_,_⟩,z4⟩ =>
 bif decide (List.length t4=List.length t4) then
 Option.bind (p19_1 fu ((t4,u4,(w4,(x4,y4,()),()),()),())) fun ⟨⟨⟨a5,c5,⟨f5,⟨h5,i5,_⟩,_⟩,_⟩,_,_⟩,j5⟩ =>
 bif decide (List.length a5=List.length a5) then
 Option.bind (p38_2 fu ((a5,c5,(f5,(h5,i5,()),()),()),())) fun ⟨⟨⟨k5,l5,⟨m5,⟨n5,o5,_⟩,_⟩,_⟩,_,_⟩,q5⟩ =>
 bif decide (List.length k5=List.length k5) then
 Option.bind (p19_1 fu ((k5,l5,(m5,(n5,o5,()),()),()),())) fun ⟨⟨⟨s5,t5,⟨u5,⟨w5,x5,_⟩,_⟩,_⟩,_,_⟩,y5⟩ =>
 bif decide (List.length s5=List.length s5) then
 Option.bind (p41_1 fu ((s5,t5,(u5,(w5,x5,()),()),()),())) fun ⟨⟨⟨z5,a6,⟨c6,⟨f6,h6,_⟩,_⟩,_⟩,_,_⟩,⟨i6,j6,_⟩⟩ =>
 bif decide (List.length z5=List.length z5) then
 Option.bind (p42_1 fu ((z5,a6,(c6,(f6,h6,()),()),()),(262144:Int),())) fun ⟨⟨⟨k6,l6,⟨m6,⟨n6,o6,_⟩,_⟩,_⟩,_,_⟩,q6⟩ =>
 bif decide (List.length k6=List.length k6) then
 Option.bind (p38_2 fu ((k6,l6,(m6,(n6,o6,()),()),()),())) fun ⟨⟨⟨s6,t6,⟨u6,⟨w6,x6,_⟩,_⟩,_⟩,_,_⟩,y6⟩ =>
 Option.bind (p43 fu (t3,())) fun ⟨_,z6⟩ =>
 bif !z6 then
 bif decide (List.length s6=List.length s6) then
 Option.bind (p18_1 fu ((s6,t6,(u6,(w6,x6,()),()),()),(111:Int),())) fun ⟨⟨⟨a7,c7,⟨f7,⟨h7,i7,_⟩,_⟩,_⟩,_,_⟩,_⟩ =>
 bif decide (List.length a7=List.length a7) then
 bif decide (List.length z4=List.length z4) then
 bif decide (List.length i6=List.length i6) then
 bif decide (List.length j6=List.length j6) then
 bif decide (List.length q6=List.length q6) then
 some (((a7,c7,(f7,(h7,i7,()),()),()),(),()),(t3,(0:Int),(0:Int),a4,k4,s4,z4,j5,q5,y5,i6,j6,q6,y6,()))
 else none
 else none
 else none
 else none
 else none
 else none
 else
 bif decide (List.length z4=List.length z4) then
 bif decide (List.length i6=List.length i6) then
 bif decide (List.length j6=List.length j6) then
 bif decide (List.length q6=List.length q6) then
 Option.bind (p32 fu ((t3,(0:Int),(0:Int),a4,k4,s4,z4,j5,q5,y5,i6,j6,q6,y6,()),())) fun ⟨_,j7⟩ =>
 bif j7 then
 bif decide (List.length s6=List.length s6) then
 Option.bind (p18_1 fu ((s6,t6,(u6,(w6,x6,()),()),()),(111:Int),())) fun ⟨⟨⟨k7,l7,⟨m7,⟨n7,o7,_⟩,_⟩,_⟩,_,_⟩,_⟩ =>
 bif decide (List.length k7=List.length k7) then
 bif decide (List.length z4=List.length z4) then
 bif decide (List.length i6=List.length i6) then
 bif decide (List.length j6=List.length j6) then
 bif decide (List.length q6=List.length q6) then
 some (((k7,l7,(m7,(n7,o7,()),()),()),(),()),(t3,(0:Int),(0:Int),a4,k4,s4,z4,j5,q5,y5,i6,j6,q6,y6,()))
 else none
 else none
 else none
 else none
 else none
 else none
 else
 bif decide (List.length s6=List.length s6) then
 bif decide (List.length z4=List.length z4) then
 bif decide (List.length i6=List.length i6) then
 bif decide (List.length j6=List.length j6) then
 bif decide (List.length q6=List.length q6) then
 some (((s6,t6,(u6,(w6,x6,()),()),()),(),()),(t3,(0:Int),(0:Int),a4,k4,s4,z4,j5,q5,y5,i6,j6,q6,y6,()))
 else none
 else none
 else none
 else none
 else none
 else none
 else none
 else none
 else none
 else none
 else none
 else none
 else none
 else none
 else none
 else none
 else none
 else none
 else none
 else none
def e21 (fu:Nat):Ent := ⟨21,(.cons Y4 .nil),(.cons Y3 (.cons .dead .nil)),Y8,p21 fu⟩
def d21 (fu:Nat):DC := (.seq (.region [opD 2 (.alloc 42 14 [vI,vI,vI,vU,vU,vU,vS,vU,vB,vU,vS,vS,vS,vB])] [[]] false) (.seq (.region [mvD 4 0,oqD 5 (.call 39 [(tD 4)]) (.ent (e39_2 fu)),mvD 6 0,oqD 7 (.call 19 [(tD 6)]) (.ent (e19_1 fu)),mvD 8 0,oqD 9 (.call 19 [(tD 8)]) (.ent (e19_1 fu)),mvD 10 0,oqD 11 (.call 19 [(tD 10)]) (.ent (e19_1 fu)),mvD 12 0,oqD 13 (.call 40 [(tD 12)]) (.ent (e40_1 fu)),mvD 14 0,oqD 15 (.call 19 [(tD 14)]) (.ent (e19_1 fu)),mvD 16 0,oqD 17 (.call 38 [(tD 16)]) (.ent (e38_2 fu)),mvD 18 0,oqD 19 (.call 19 [(tD 18)]) (.ent (e19_1 fu)),mvD 20 0,oqD 21 (.call 41 [(tD 20)]) (.ent (e41_1 fu)),mvD 22 0,oqD 23 (.call 42 [(tD 22),(cD 262144)]) (.ent (e42_1 fu)),mvD 24 0,oqD 25 (.call 38 [(tD 24)]) (.ent (e38_2 fu)),opD 26 (.build 14 [vI,vI,vI,vU,vU,vU,vS,vU,vB,vU,vS,vS,vS,vB] [(0,(1,(tD 5))),(3,(1,(tD 7))),(4,(1,(tD 9))),(5,(1,(tD 11))),(6,(1,(tD 13))),(7,(1,(tD 15))),(8,(1,(tD 17))),(9,(1,(tD 19))),(10,(2,(tD 21))),(12,(1,(tD 23))),(13,(1,(tD 25)))]),opD 3 (.alloc 42 14 [vI,vI,vI,vU,vU,vU,vS,vU,vB,vU,vS,vS,vS,vB]),onD (.store 14 (tD 3) (tD 26))] [[],[0],[],[2,1],[],[4,3],[],[6,5],[],[8,7],[],[10,9],[],[12,11],[],[14,13],[],[16,15],[],[18,17],[],[20,19],[1,3,5,7,9,11,13,15,17,19,21],[],[23,22,21,0,1,2,3,4,5,6,7,8,9,10,11,12,13,14,15,16,17,18,19,20,21,22,23]] false) (.seq (.seq (.region [opD 27 (.faddr 0 (tD 3)),opD 28 (.load false 1 (tD 27)),oqD 29 (.call 43 [(tD 28)]) (.ent (e43 fu)),opD 30 (.not (tD 29)),mvD 31 30,ogD 32 31 false (.load true 14 (tD 3)),(⟨(some 33),(some (31,false)),(.call 32 [(tD 32)])⟩,(.ent (e32 fu))),opD 34 (.pick (tD 31) (.const (.bool true)) (tD 33))] [[],[0],[1],[2],[3,2],[4],[5,4,4],[4,6]] false) (.cond (.tmp 34) (.region [mvD 35 0,oqD 36 (.call 18 [(tD 35),(cD 111)]) (.ent (e18_1 fu))] [[],[0]] false) .skip)) (.seq (.region [opD 37 (.load true 14 (tD 3)),onD (.store 14 (tD 2) (tD 37))] [[],[0,0]] false) .ret))))
theorem g21 (fu:Nat):(e21 fu).Good Tryd.prog := good_fn orders Tryd.func21 fu (d21 fu) rs21 38 (l := [e39_2 fu,e19_1 fu,e19_1 fu,e19_1 fu,e40_1 fu,e19_1 fu,e38_2 fu,e19_1 fu,e41_1 fu,e42_1 fu,e38_2 fu,e43 fu,e32 fu,e18_1 fu]) ⟨g39_2 fu,g19_1 fu,g19_1 fu,g19_1 fu,g40_1 fu,g19_1 fu,g38_2 fu,g19_1 fu,g41_1 fu,g42_1 fu,g38_2 fu,g43 fu,g32 fu,g18_1 fu,trivial⟩
def rs22:List RVx := [(.tmp 2),(.tmp 3)]
def p22 (fu:Nat):((List (Int))×((Int)×(((Bool)×(((Int)×((Int)×(Unit)))×(Unit)))×(Unit))))×(Unit)→Option ((((List (Int))×((Int)×(((Bool)×(((Int)×((Int)×(Unit)))×(Unit)))×(Unit))))×((Unit)×(Unit)))×((Int)×((Int)×(Unit)))) := fun ⟨⟨a,c,⟨f,⟨h,i,_⟩,_⟩,_⟩,_⟩ =>
bif f then
 orK (E := ((Bool)×(Unit))×((((Bool)×((Unit)×((Int)×((Int)×(Unit)))))×(Unit))×(Unit)))
 (Option.bind (pAsM fu ((false,dflt .unit,(h,i,())),((),()),())) fun ⟨⟨⟨⟨j,_,⟨k,l,_⟩⟩,_⟩,_⟩,m⟩ =>
 bif j then
 some (.inl ((m,()),(((true,(),dflt (.pair (.int .i64) (.pair (.int .i64) .unit))),()),())))
 else
 some (.inl ((m,()),(((false,dflt .unit,(k,l,())),()),()))))
 fun ⟨⟨n,_⟩,⟨⟨⟨o,_,⟨q,s,_⟩⟩,_⟩,_⟩⟩ =>
 bif o then
 bif n then
 none
 else
 bif decide (List.length a=List.length a) then
 some (((a,c,(true,(h,i,()),dflt .unit),()),(),()),((0:Int),(0:Int),()))
 else none
 else
 bif n then
 bif decide (List.length a=List.length a) then
 some (((a,c,(true,(h,i,()),dflt .unit),()),(),()),(q,s,()))
 else none
 else
 bif decide (List.length a=List.length a) then
 some (((a,c,(true,(h,i,()),dflt .unit),()),(),()),((0:Int),(0:Int),()))
 else none
else
 orK (E := ((Bool)×(Unit))×((((Bool)×((Unit)×((Int)×((Int)×(Unit)))))×(Unit))×(Unit)))
 (Option.bind (pAsM fu ((true,(),dflt (.pair (.int .i64) (.pair (.int .i64) .unit))),((),()),())) fun ⟨⟨⟨⟨t,_,⟨u,w,_⟩⟩,_⟩,_⟩,x⟩ =>
 bif t then
 some (.inl ((x,()),(((true,(),dflt (.pair (.int .i64) (.pair (.int .i64) .unit))),()),())))
 else
 some (.inl ((x,()),(((false,dflt .unit,(u,w,())),()),()))))
 fun ⟨⟨n,_⟩,⟨⟨⟨o,_,⟨q,s,_⟩⟩,_⟩,_⟩⟩ =>
 bif o then
 bif n then
 none
 else
 bif decide (List.length a=List.length a) then
 some (((a,c,(false,dflt (.pair (.int .i64) (.pair (.int .i64) .unit)),()),()),(),()),((0:Int),(0:Int),()))
 else none
 else
 bif n then
 bif decide (List.length a=List.length a) then
 some (((a,c,(false,dflt (.pair (.int .i64) (.pair (.int .i64) .unit)),()),()),(),()),(q,s,()))
 else none
 else
 bif decide (List.length a=List.length a) then
 some (((a,c,(false,dflt (.pair (.int .i64) (.pair (.int .i64) .unit)),()),()),(),()),((0:Int),(0:Int),()))
 else none
def e22 (fu:Nat):Ent := ⟨22,(.cons Y4 .nil),(.cons Y3 (.cons .dead .nil)),(.tup 2 (.cons (.hole (.int .i64)) (.cons (.hole (.int .i64)) .nil))),p22 fu⟩
def d22 (fu:Nat):DC := (.seq (.region [opD 2 (.mov (cD 0)),opD 3 (.mov (cD 0))] [[],[0]] false) (.seq (.region [opD 4 (.alloc 88 1 [(.pointer none)])] [[]] false) (.seq (.join ⟨[10],(.cons (.hole .bool) .nil),[(36,88,1)],(.cons (.agg 1 (.cons (.alt false .nilp (.look (.cons (.hole (.int .i64)) (.cons (.hole (.int .i64)) .nil)))) .nil)) .nil),[4],[0,1,3]⟩
 (.region [mvD 5 0,opD 6 (.pure .nilc [(tD 5)]),opD 7 (.faddr 2 (tD 6)),opD 8 (.load false 1 (tD 7)),opD 9 (.ifc 90 (tD 4)),oqD 10 (.call 44 [(tD 8),(tD 9)]) (.ent (eAsM fu))] [[],[0],[1],[2],[],[3,4]] false)
 (.cond (.tmp 10) (.seq (.region [opD 11 (.load false 1 (tD 4)),opD 12 (.pure .nilc [(tD 11)]),opD 13 (.faddr 0 (tD 12)),opD 14 (.load false 1 (tD 13)),opD 15 (.load false 1 (tD 4)),opD 16 (.pure .nilc [(tD 15)]),opD 17 (.faddr 1 (tD 16)),opD 18 (.load false 1 (tD 17)),mvD 2 14,mvD 3 18] [[],[0],[1],[2],[],[4],[5],[6],[3,0,1,2,3],[7,8,0,1,2,3,4,5,6,7,8]] true) .ret) .skip)) (.seq (.region [opD 2 (.mov (cD 0)),opD 3 (.mov (cD 0))] [[],[0,0]] false) .ret))))
theorem g22 (fu:Nat):(e22 fu).Good Tryd.prog := good_fn orders Tryd.func22 fu (d22 fu) rs22 19 (l := [eAsM fu]) ⟨gAsM fu,trivial⟩
def rs23:List RVx := [(.tmp 2)]
def p23 (fu:Nat):((List (Int))×((Int)×(((Bool)×(((Int)×((Int)×(Unit)))×(Unit)))×(Unit))))×(Unit)→Option ((((List (Int))×((Int)×(((Bool)×(((Int)×((Int)×(Unit)))×(Unit)))×(Unit))))×((Unit)×(Unit)))×(Int)) := fun ⟨⟨a,c,⟨f,⟨h,i,_⟩,_⟩,_⟩,_⟩ =>
bif f then
 bif decide (List.length a=List.length a) then
 Option.bind (p22 fu ((a,c,(true,(h,i,()),dflt .unit),()),())) fun ⟨⟨⟨j,k,⟨l,⟨m,n,_⟩,_⟩,_⟩,_,_⟩,⟨o,_,_⟩⟩ =>
 bif (o==(0:Int)) then
 bif decide (k<((List.length j):Int)) then
 bif decide (List.length j=List.length j) then
 some (((j,k,(l,(m,n,()),()),()),(),()),(15:Int))
 else none
 else
 bif decide (List.length j=List.length j) then
 some (((j,k,(l,(m,n,()),()),()),(),()),o)
 else none
 else
 bif decide (List.length j=List.length j) then
 some (((j,k,(l,(m,n,()),()),()),(),()),o)
 else none
 else none
else
 bif decide (List.length a=List.length a) then
 Option.bind (p22 fu ((a,c,(false,dflt (.pair (.int .i64) (.pair (.int .i64) .unit)),()),()),())) fun ⟨⟨⟨q,s,⟨t,⟨u,w,_⟩,_⟩,_⟩,_,_⟩,⟨x,_,_⟩⟩ =>
 bif (x==(0:Int)) then
 bif decide (s<((List.length q):Int)) then
 bif decide (List.length q=List.length q) then
 some (((q,s,(t,(u,w,()),()),()),(),()),(15:Int))
 else none
 else
 bif decide (List.length q=List.length q) then
 some (((q,s,(t,(u,w,()),()),()),(),()),x)
 else none
 else
 bif decide (List.length q=List.length q) then
 some (((q,s,(t,(u,w,()),()),()),(),()),x)
 else none
 else none
def e23 (fu:Nat):Ent := ⟨23,(.cons Y4 .nil),(.cons Y3 (.cons .dead .nil)),(.hole (.int .i64)),p23 fu⟩
def d23 (fu:Nat):DC := (.seq (.region [opD 2 (.mov (cD 0))] [[]] false) (.seq (.region [mvD 6 0,oqD 7 (.call 22 [(tD 6)]) (.ent (e22 fu)),mvD 5 7,opD 8 (.ext (tD 5) 0),opD 9 (.ext (tD 5) 1),mvD 3 8,mvD 4 9] [[],[0],[1],[2],[2],[3,1,0,1,2,3],[4,5,0,1,2,3,4,5]] false) (.seq (.seq (.region [mvD 10 3,opD 11 (.bin .eql (tD 10) (cD 0)),mvD 12 11,ogD 13 12 true (.mov (tD 0)),ogD 14 12 true (.pure .nilc [(tD 13)]),ogD 15 12 true (.faddr 1 (tD 14)),ogD 16 12 true (.load false 1 (tD 15)),ogD 17 12 true (.mov (tD 0)),ogD 18 12 true (.pure .nilc [(tD 17)]),ogD 19 12 true (.faddr 0 (tD 18)),ogD 20 12 true (.load false 1 (tD 19)),ogD 21 12 true (.len false (tD 20)),ogD 22 12 true (.bin .lss (tD 16) (tD 21)),opD 23 (.pick (tD 12) (tD 22) (.const vB))] [[],[0],[1],[2],[3,2],[4,2],[5,2],[2],[7,2],[8,2],[9,2],[10,2],[6,11,2],[2,12]] true) (.cond (.tmp 23) (.seq (.region [opD 2 (.mov (cD 15))] [[]] false) .ret) .skip)) (.seq (.region [mvD 24 3,mvD 2 24] [[],[0,0]] false) .ret))))
theorem g23 (fu:Nat):(e23 fu).Good Tryd.prog := good_fn orders Tryd.func23 fu (d23 fu) rs23 25 (l := [e22 fu]) ⟨g22 fu,trivial⟩
def rs7:List RVx := [(.tmp 2),(.tmp 3)]
def p7 (fu:Nat):((Int)×((Int)×((Int)×((List (Int))×(Unit)))))×(Unit)→Option ((Unit)×((List (D_beats_Wire))×((Int)×(Unit)))) := fun ⟨⟨a,c,f,h,_⟩,_⟩ =>
orK (E := (Unit)×(Unit))
 (bif (f != (1:Int)) then
 bif (f != (2:Int)) then
 inrO (some ((),([],(1:Int),())))
 else
 Option.bind (p15 fu (a,())) fun ⟨_,i⟩ =>
 bif !i then
 inrO (some ((),([],(1:Int),())))
 else
 Option.bind (p15 fu (c,())) fun ⟨_,j⟩ =>
 bif !j then
 inrO (some ((),([],(1:Int),())))
 else
 bif (a==c) then
 inrO (some ((),([],(1:Int),())))
 else
 some (.inl ((),()))
 else
 Option.bind (p15 fu (a,())) fun ⟨_,k⟩ =>
 bif !k then
 inrO (some ((),([],(1:Int),())))
 else
 Option.bind (p15 fu (c,())) fun ⟨_,l⟩ =>
 bif !l then
 inrO (some ((),([],(1:Int),())))
 else
 bif (a==c) then
 inrO (some ((),([],(1:Int),())))
 else
 some (.inl ((),())))
 fun ⟨_,_⟩ =>
Option.bind (p16 fu (h,())) fun ⟨_,⟨m,n,_,_⟩⟩ =>
bif decide (List.length m=List.length m) then
 Option.bind (p17 fu ((m,n,(),()),(4096:Int),())) fun ⟨⟨⟨o,q,⟨s,⟨t,u,_⟩,_⟩,_⟩,_,_⟩,w⟩ =>
 orK (E := (Unit)×(((List (Int))×((Int)×(((Bool)×(((Int)×((Int)×(Unit)))×(Unit)))×(Unit))))×(Unit)))
 (bif (w==(0:Int)) then
 bif decide (List.length o=List.length o) then
 Option.bind (p18_1 fu ((o,q,(s,(t,u,()),()),()),(111:Int),())) fun ⟨⟨⟨x,y,⟨z,⟨a0,c0,_⟩,_⟩,_⟩,_,_⟩,_⟩ =>
 bif decide (List.length x=List.length x) then
 some (.inl ((),((x,y,(z,(a0,c0,()),()),()),())))
 else none
 else none
 else
 bif decide (List.length o=List.length o) then
 some (.inl ((),((o,q,(s,(t,u,()),()),()),())))
 else none)
 fun ⟨_,⟨⟨f0,h0,⟨i0,⟨j0,k0,_⟩,_⟩,_⟩,_⟩⟩ =>
 orK (E := ((List (D_beats_Wire))×(Unit))×(((List (Int))×((Int)×(((Bool)×(((Int)×((Int)×(Unit)))×(Unit)))×(Unit))))×(Unit)))
 (bif decide (List.length f0=List.length f0) then
 loopO (S := ((List (D_beats_Wire))×((Int)×(Unit)))×(((List (Int))×((Int)×(((Bool)×(((Int)×((Int)×(Unit)))×(Unit)))×(Unit))))×(Unit))) fu (fun ⟨⟨l0,m0,_⟩,⟨⟨f0,h0,⟨i0,⟨j0,k0,_⟩,_⟩,_⟩,_⟩⟩ =>
 bif decide (m0<w) then
 bif decide (List.length f0=List.length f0) then
 Option.bind (p19_1 fu ((f0,h0,(i0,(j0,k0,()),()),()),())) fun ⟨⟨⟨n0,o0,⟨q0,⟨s0,t0,_⟩,_⟩,_⟩,_,_⟩,u0⟩ =>
 orK (E := (Unit)×(((List (Int))×((Int)×(((Bool)×(((Int)×((Int)×(Unit)))×(Unit)))×(Unit))))×((Z0)×(Unit))))
 (bif (f==(2:Int)) then
 bif decide (List.length n0=List.length n0) then
 Option.bind (p20 fu ((n0,o0,(q0,(s0,t0,()),()),()),())) fun ⟨⟨⟨w0,x0,⟨y0,⟨z0,a1,_⟩,_⟩,_⟩,_,_⟩,⟨c1,f1,h1,i1,j1,k1,l1,m1,n1,o1,q1,s1,t1,u1,_⟩⟩ =>
 bif decide (List.length w0=List.length w0) then
 some (.inl ((),((w0,x0,(y0,(z0,a1,()),()),()),(u0,c1,f1,h1,i1,j1,k1,l1,m1,n1,o1,q1,s1,t1,u1,()),())))
 else none
 else none
 else
 bif decide (List.length n0=List.length n0) then
 Option.bind (p21 fu ((n0,o0,(q0,(s0,t0,()),()),()),())) fun ⟨⟨⟨w1,x1,⟨y1,⟨z1,a2,_⟩,_⟩,_⟩,_,_⟩,⟨c2,f2,h2,i2,j2,k2,l2,m2,n2,o2,q2,s2,t2,u2,_⟩⟩ =>
 bif decide (List.length w1=List.length w1) then
 bif decide (List.length l2=List.length l2) then
 bif decide (List.length q2=List.length q2) then
 bif decide (List.length s2=List.length s2) then
 bif decide (List.length t2=List.length t2) then
 some (.inl ((),((w1,x1,(y1,(z1,a2,()),()),()),(u0,c2,f2,h2,i2,j2,k2,l2,m2,n2,o2,q2,s2,t2,u2,()),())))
 else none
 else none
 else none
 else none
 else none
 else none)
 fun ⟨_,⟨⟨f0,h0,⟨i0,⟨j0,k0,_⟩,_⟩,_⟩,⟨w2,x2,_,_,y2,z2,a3,c3,f3,h3,i3,j3,k3,l3,m3,_⟩,_⟩⟩ =>
 bif decide (List.length f0=List.length f0) then
 Option.bind (p22 fu ((f0,h0,(i0,(j0,k0,()),()),()),())) fun ⟨⟨⟨n3,o3,⟨q3,⟨s3,t3,_⟩,_⟩,_⟩,_,_⟩,⟨u3,_,_⟩⟩ =>
 bif (u3 != (0:Int)) then
 inrO (bif decide (List.length l0=List.length l0) then
 bif decide (List.length n3=List.length n3) then
 some (.inl ((l0,()),((n3,o3,(q3,(s3,t3,()),()),()),())))
 else none
 else none)
 else
 bif decide (List.length l0=List.length l0) then
 bif decide (List.length l0+List.length ([(w2,x2,a,c,y2,z2,a3,c3,f3,h3,i3,(j3,k3),l3,m3)])≤maxLen∧(List.length l0+List.length ([(w2,x2,a,c,y2,z2,a3,c3,f3,h3,i3,(j3,k3),l3,m3)])) * 184≤140737488355328) then
 bif decide (List.length (l0 ++ [(w2,x2,a,c,y2,z2,a3,c3,f3,h3,i3,(j3,k3),l3,m3)])=List.length (l0 ++ [(w2,x2,a,c,y2,z2,a3,c3,f3,h3,i3,(j3,k3),l3,m3)])) then
 bif decide (List.length n3=List.length n3) then
 some (.inl (((l0 ++ [(w2,x2,a,c,y2,z2,a3,c3,f3,h3,i3,(j3,k3),l3,m3)]),IntKind.wrap .i64 (m0+(1:Int)),()),((n3,o3,(q3,(s3,t3,()),()),()),())))
 else none
 else none
 else none
 else none
 else none
 else none
 else
 inrO (bif decide (List.length l0=List.length l0) then
 bif decide (List.length f0=List.length f0) then
 some (.inl ((l0,()),((f0,h0,(i0,(j0,k0,()),()),()),())))
 else none
 else none))
 (([],(0:Int),()),((f0,h0,(i0,(j0,k0,()),()),()),()))
 else none)
 fun ⟨⟨l0,_⟩,⟨⟨f0,h0,⟨i0,⟨j0,k0,_⟩,_⟩,_⟩,_⟩⟩ =>
 bif decide (List.length f0=List.length f0) then
 Option.bind (p23 fu ((f0,h0,(i0,(j0,k0,()),()),()),())) fun ⟨⟨⟨_,_,⟨_,⟨_,_,_⟩,_⟩,_⟩,_,_⟩,w3⟩ =>
 bif (w3 != (0:Int)) then
 some ((),([],w3,()))
 else
 bif decide (List.length l0=List.length l0) then
 some ((),(l0,(0:Int),()))
 else none
 else none
else none
def e7 (fu:Nat):Ent := ⟨7,(.cons Y9 .nil),.nil,(.tup 2 (.cons (.own .own 44 T_beats_Wire) (.cons (.hole (.int .i64)) .nil))),p7 fu⟩
def d7 (fu:Nat):DC := (.seq (.region [opD 1 (.box 24 4 (tD 0)),opD 2 (.mov (.const vS)),opD 3 (.mov (cD 0))] [[],[],[1]] false) (.join ⟨[],.nil,[],.nil,[1],[0]⟩
 (.seq (.region [opD 11 (.faddr 2 (tD 1)),opD 12 (.load false 1 (tD 11)),opD 13 (.bin .neq (tD 12) (cD 1)),mvD 14 13,ogD 15 14 true (.faddr 2 (tD 1)),ogD 16 14 true (.load false 1 (tD 15)),ogD 17 14 true (.bin .neq (tD 16) (cD 2)),opD 18 (.pick (tD 14) (tD 17) (.const vB)),mvD 19 18,ogD 20 19 false (.faddr 0 (tD 1)),ogD 21 19 false (.load false 1 (tD 20)),(⟨(some 22),(some (19,false)),(.call 15 [(tD 21)])⟩,(.ent (e15 fu))),ogD 23 19 false (.not (tD 22)),opD 24 (.pick (tD 19) (.const (.bool true)) (tD 23)),mvD 25 24,ogD 26 25 false (.faddr 1 (tD 1)),ogD 27 25 false (.load false 1 (tD 26)),(⟨(some 28),(some (25,false)),(.call 15 [(tD 27)])⟩,(.ent (e15 fu))),ogD 29 25 false (.not (tD 28)),opD 30 (.pick (tD 25) (.const (.bool true)) (tD 29)),mvD 31 30,ogD 32 31 false (.faddr 0 (tD 1)),ogD 33 31 false (.load false 1 (tD 32)),ogD 34 31 false (.faddr 1 (tD 1)),ogD 35 31 false (.load false 1 (tD 34)),ogD 36 31 false (.bin .eql (tD 33) (tD 35)),opD 37 (.pick (tD 31) (.const (.bool true)) (tD 36))] [[],[0],[1],[2],[3],[4,3],[5,3],[3,6],[7,3],[8],[9,8],[10,8,8],[11,8],[8,12],[13,11],[14],[15,14],[16,14,14],[17,14],[14,18],[19,17],[20],[21,20],[20],[23,20],[22,24,20],[20,25]] false) (.cond (.tmp 37) (.seq (.region [opD 2 (.mov (.const vS)),opD 3 (.mov (cD 1))] [[],[0,0]] false) .ret) .skip))
 (.seq (.region [opD 38 (.faddr 3 (tD 1)),opD 39 (.load false 1 (tD 38)),oqD 40 (.call 16 [(tD 39)]) (.ent (e16 fu)),mvD 4 40] [[],[0],[1],[2,2,0,1,2]] false) (.seq (.region [mvD 41 4,oqD 42 (.call 17 [(tD 41),(cD 4096)]) (.ent (e17 fu)),mvD 5 42] [[],[0],[1,1,0,1]] false) (.join ⟨[],.nil,[(80,79,3)],(.cons Y3 .nil),[1,4,5],[0]⟩
 (.seq (.region [mvD 43 5,opD 44 (.bin .eql (tD 43) (cD 0))] [[],[0]] false) (.cond (.tmp 44) (.region [mvD 45 4,oqD 46 (.call 18 [(tD 45),(cD 111)]) (.ent (e18_1 fu))] [[],[0]] false) .skip))
 (.seq (.region [opD 6 (.mov (.const vS))] [[]] false) (.join ⟨[6],(.cons (.own .own 44 T_beats_Wire) .nil),[(80,79,3)],(.cons Y3 .nil),[4],[]⟩
 (.seq (.region [mvD 47 5,opD 48 (.mov (cD 0))] [[],[]] false) (.block 0 (.loop ⟨[6,48],(.cons (.own .own 44 T_beats_Wire) (.cons (.hole (.int .i64)) .nil)),[(80,79,3)],(.cons Y3 .nil),[1,4,47],[0]⟩
 (.seq (.region [opD 49 (.bin .lss (tD 48) (tD 47))] [[]] false) (.seq (.cond (.tmp 49) .skip (.exit 0)) (.seq (.block 1 (.seq (.region [mvD 50 4,oqD 51 (.call 19 [(tD 50)]) (.ent (e19_1 fu)),opD 52 (.build 15 [vU,vI,vI,vI,vU,vU,vU,vS,vU,vB,vU,vS,vS,vS,vB] [(0,(1,(tD 51)))]),opD 7 (.alloc 44 15 [vU,vI,vI,vI,vU,vU,vU,vS,vU,vB,vU,vS,vS,vS,vB]),onD (.store 15 (tD 7) (tD 52))] [[],[0],[1],[],[3,2,1,0,1,2,3]] false) (.join ⟨[],.nil,[(80,79,3),(275,44,15)],(.cons Y3 (.cons Y10 .nil)),[1,4,6,7,47,48],[0,209]⟩
 (.seq (.region [opD 53 (.faddr 2 (tD 1)),opD 54 (.load false 1 (tD 53)),opD 55 (.bin .eql (tD 54) (cD 2))] [[],[0],[1]] false) (.cond (.tmp 55) (.region [mvD 56 4,oqD 57 (.call 20 [(tD 56)]) (.ent (e20 fu)),opD 58 (.faddr 1 (tD 7)),onD (.store 14 (tD 58) (tD 57))] [[],[0],[0,1],[2,1,1,0,1]] false) (.region [mvD 59 4,oqD 60 (.call 21 [(tD 59)]) (.ent (e21 fu)),opD 61 (.faddr 1 (tD 7)),onD (.store 14 (tD 61) (tD 60))] [[],[0],[0,1],[2,1,1,0,1]] false)))
 (.seq (.seq (.region [mvD 63 4,oqD 64 (.call 22 [(tD 63)]) (.ent (e22 fu)),mvD 62 64,opD 65 (.ext (tD 62) 0),opD 66 (.ext (tD 62) 1),mvD 8 65,mvD 9 66] [[],[0],[1],[2],[2],[3,1,0,1,2,3],[4,5,0,1,2,3,4,5]] false) (.seq (.region [mvD 67 8,opD 68 (.bin .neq (tD 67) (cD 0))] [[],[0]] false) (.cond (.tmp 68) (.exit 0) .skip))) (.seq (.region [opD 69 (.faddr 0 (tD 1)),opD 70 (.load false 1 (tD 69)),opD 71 (.faddr 1 (tD 1)),opD 72 (.load false 1 (tD 71)),opD 73 (.faddr 1 (tD 7)),opD 74 (.faddr 1 (tD 73)),onD (.store 1 (tD 74) (tD 70)),opD 75 (.faddr 1 (tD 7)),opD 76 (.faddr 2 (tD 75)),onD (.store 1 (tD 76) (tD 72))] [[],[0],[],[2],[0,1],[4,0,1],[5,1,0,1],[0,1,2,3,4,5,6],[7,0,1,2,3,4,5,6],[8,3,6,0,1,2,3,4,5,6]] true) (.region [mvD 77 6,opD 78 (.load true 15 (tD 7)),oqD 79 (.bslice 44 15 1 [vU,vI,vI,vI,vU,vU,vU,vS,vU,vB,vU,vS,vS,vS,vB] [(0,(tD 78))]) (.ty T_beats_Wire),oqD 80 (.app 44 15 [vU,vI,vI,vI,vU,vU,vU,vS,vU,vB,vU,vS,vS,vS,vB] 184 (tD 77) (tD 79)) (.ty T_beats_Wire),mvD 6 80] [[],[],[1],[0,2],[3,3,0,1,2,3]] false)))))) (.region [opD 81 (.bin .add (tD 48) (cD 1)),mvD 48 81] [[],[0]] false)))))))
 (.seq (.seq (.region [mvD 82 4,oqD 83 (.call 23 [(tD 82)]) (.ent (e23 fu)),mvD 10 83] [[],[0],[1,1,0,1]] false) (.seq (.region [mvD 84 10,opD 85 (.bin .neq (tD 84) (cD 0))] [[],[0]] false) (.cond (.tmp 85) (.seq (.region [mvD 86 10,opD 2 (.mov (.const vS)),mvD 3 86] [[],[],[0,1,0,1]] false) .ret) .skip))) (.seq (.region [mvD 87 6,mvD 2 87,opD 3 (.mov (cD 0))] [[],[0,0],[1,0,1]] false) .ret)))))))))
theorem g7 (fu:Nat):(e7 fu).Good Tryd.prog := good_fn orders Tryd.func7 fu (d7 fu) rs7 88 (l := [e15 fu,e15 fu,e16 fu,e17 fu,e18_1 fu,e19_1 fu,e20 fu,e21 fu,e22 fu,e23 fu]) ⟨g15 fu,g15 fu,g16 fu,g17 fu,g18_1 fu,g19_1 fu,g20 fu,g21 fu,g22 fu,g23 fu,trivial⟩
def rs10:List RVx := [(.tmp 2)]
def p10 (fu:Nat):(List (D_beats_Wire))×(Unit)→Option ((Unit)×(List (D_beats_Wire))) := fun ⟨a,_⟩ =>
loopO (S := ((List (D_beats_Wire))×((Int)×(Unit)))×(Unit)) fu (fun ⟨⟨c,f,_⟩,_⟩ =>
 bif decide (f<(List.length a:Int)) then
 bif decide ((0:Int)≤f∧f<(List.length a:Int)) then
 bif decide (Int.toNat f<List.length a) then
 bif decide ((0:Int)≤f∧f<(List.length a:Int)) then
 bif decide (Int.toNat f<List.length a) then
 bif decide (List.length c=List.length c) then
 bif decide (List.length c+List.length ([((List.getD a (Int.toNat f) (dflt T_beats_Wire)).1,((List.getD a (Int.toNat f) (dflt T_beats_Wire)).2).1,(((List.getD a (Int.toNat f) (dflt T_beats_Wire)).2).2).1,((((List.getD a (Int.toNat f) (dflt T_beats_Wire)).2).2).2).1,(((((List.getD a (Int.toNat f) (dflt T_beats_Wire)).2).2).2).2).1,((((((List.getD a (Int.toNat f) (dflt T_beats_Wire)).2).2).2).2).2).1,(((((((List.getD a (Int.toNat f) (dflt T_beats_Wire)).2).2).2).2).2).2).1,((((((((List.getD a (Int.toNat f) (dflt T_beats_Wire)).2).2).2).2).2).2).2).1,(((((((((List.getD a (Int.toNat f) (dflt T_beats_Wire)).2).2).2).2).2).2).2).2).1,((((((((((List.getD a (Int.toNat f) (dflt T_beats_Wire)).2).2).2).2).2).2).2).2).2).1,(((((((((((List.getD a (Int.toNat f) (dflt T_beats_Wire)).2).2).2).2).2).2).2).2).2).2).1,((((((((((((((List.getD a (Int.toNat f) (dflt T_beats_Wire)).2).2).2).2).2).2).2).2).2).2).2).1).1,(((((((((((((List.getD a (Int.toNat f) (dflt T_beats_Wire)).2).2).2).2).2).2).2).2).2).2).2).1).2),(((((((((((((List.getD a (Int.toNat f) (dflt T_beats_Wire)).2).2).2).2).2).2).2).2).2).2).2).2).1,(((((((((((((List.getD a (Int.toNat f) (dflt T_beats_Wire)).2).2).2).2).2).2).2).2).2).2).2).2).2)])≤maxLen∧(List.length c+List.length ([((List.getD a (Int.toNat f) (dflt T_beats_Wire)).1,((List.getD a (Int.toNat f) (dflt T_beats_Wire)).2).1,(((List.getD a (Int.toNat f) (dflt T_beats_Wire)).2).2).1,((((List.getD a (Int.toNat f) (dflt T_beats_Wire)).2).2).2).1,(((((List.getD a (Int.toNat f) (dflt T_beats_Wire)).2).2).2).2).1,((((((List.getD a (Int.toNat f) (dflt T_beats_Wire)).2).2).2).2).2).1,(((((((List.getD a (Int.toNat f) (dflt T_beats_Wire)).2).2).2).2).2).2).1,((((((((List.getD a (Int.toNat f) (dflt T_beats_Wire)).2).2).2).2).2).2).2).1,(((((((((List.getD a (Int.toNat f) (dflt T_beats_Wire)).2).2).2).2).2).2).2).2).1,((((((((((List.getD a (Int.toNat f) (dflt T_beats_Wire)).2).2).2).2).2).2).2).2).2).1,(((((((((((List.getD a (Int.toNat f) (dflt T_beats_Wire)).2).2).2).2).2).2).2).2).2).2).1,((((((((((((((List.getD a (Int.toNat f) (dflt T_beats_Wire)).2).2).2).2).2).2).2).2).2).2).2).1).1,(((((((((((((List.getD a (Int.toNat f) (dflt T_beats_Wire)).2).2).2).2).2).2).2).2).2).2).2).1).2),(((((((((((((List.getD a (Int.toNat f) (dflt T_beats_Wire)).2).2).2).2).2).2).2).2).2).2).2).2).1,(((((((((((((List.getD a (Int.toNat f) (dflt T_beats_Wire)).2).2).2).2).2).2).2).2).2).2).2).2).2)])) * 184≤140737488355328) then
 bif decide (List.length (c ++ [((List.getD a (Int.toNat f) (dflt T_beats_Wire)).1,((List.getD a (Int.toNat f) (dflt T_beats_Wire)).2).1,(((List.getD a (Int.toNat f) (dflt T_beats_Wire)).2).2).1,((((List.getD a (Int.toNat f) (dflt T_beats_Wire)).2).2).2).1,(((((List.getD a (Int.toNat f) (dflt T_beats_Wire)).2).2).2).2).1,((((((List.getD a (Int.toNat f) (dflt T_beats_Wire)).2).2).2).2).2).1,(((((((List.getD a (Int.toNat f) (dflt T_beats_Wire)).2).2).2).2).2).2).1,((((((((List.getD a (Int.toNat f) (dflt T_beats_Wire)).2).2).2).2).2).2).2).1,(((((((((List.getD a (Int.toNat f) (dflt T_beats_Wire)).2).2).2).2).2).2).2).2).1,((((((((((List.getD a (Int.toNat f) (dflt T_beats_Wire)).2).2).2).2).2).2).2).2).2).1,(((((((((((List.getD a (Int.toNat f) (dflt T_beats_Wire)).2).2).2).2).2).2).2).2).2).2).1,((((((((((((((List.getD a (Int.toNat f) (dflt T_beats_Wire)).2).2).2).2).2).2).2).2).2).2).2).1).1,(((((((((((((List.getD a (Int.toNat f) (dflt T_beats_Wire)).2).2).2).2).2).2).2).2).2).2).2).1).2),(((((((((((((List.getD a (Int.toNat f) (dflt T_beats_Wire)).2).2).2).2).2).2).2).2).2).2).2).2).1,(((((((((((((List.getD a (Int.toNat f) (dflt T_beats_Wire)).2).2).2).2).2).2).2).2).2).2).2).2).2)])=List.length (c ++ [((List.getD a (Int.toNat f) (dflt T_beats_Wire)).1,((List.getD a (Int.toNat f) (dflt T_beats_Wire)).2).1,(((List.getD a (Int.toNat f) (dflt T_beats_Wire)).2).2).1,((((List.getD a (Int.toNat f) (dflt T_beats_Wire)).2).2).2).1,(((((List.getD a (Int.toNat f) (dflt T_beats_Wire)).2).2).2).2).1,((((((List.getD a (Int.toNat f) (dflt T_beats_Wire)).2).2).2).2).2).1,(((((((List.getD a (Int.toNat f) (dflt T_beats_Wire)).2).2).2).2).2).2).1,((((((((List.getD a (Int.toNat f) (dflt T_beats_Wire)).2).2).2).2).2).2).2).1,(((((((((List.getD a (Int.toNat f) (dflt T_beats_Wire)).2).2).2).2).2).2).2).2).1,((((((((((List.getD a (Int.toNat f) (dflt T_beats_Wire)).2).2).2).2).2).2).2).2).2).1,(((((((((((List.getD a (Int.toNat f) (dflt T_beats_Wire)).2).2).2).2).2).2).2).2).2).2).1,((((((((((((((List.getD a (Int.toNat f) (dflt T_beats_Wire)).2).2).2).2).2).2).2).2).2).2).2).1).1,(((((((((((((List.getD a (Int.toNat f) (dflt T_beats_Wire)).2).2).2).2).2).2).2).2).2).2).2).1).2),(((((((((((((List.getD a (Int.toNat f) (dflt T_beats_Wire)).2).2).2).2).2).2).2).2).2).2).2).2).1,(((((((((((((List.getD a (Int.toNat f) (dflt T_beats_Wire)).2).2).2).2).2).2).2).2).2).2).2).2).2)])) then
 some (.inl (((c ++ [((List.getD a (Int.toNat f) (dflt T_beats_Wire)).1,((List.getD a (Int.toNat f) (dflt T_beats_Wire)).2).1,(((List.getD a (Int.toNat f) (dflt T_beats_Wire)).2).2).1,((((List.getD a (Int.toNat f) (dflt T_beats_Wire)).2).2).2).1,(((((List.getD a (Int.toNat f) (dflt T_beats_Wire)).2).2).2).2).1,((((((List.getD a (Int.toNat f) (dflt T_beats_Wire)).2).2).2).2).2).1,(((((((List.getD a (Int.toNat f) (dflt T_beats_Wire)).2).2).2).2).2).2).1,((((((((List.getD a (Int.toNat f) (dflt T_beats_Wire)).2).2).2).2).2).2).2).1,(((((((((List.getD a (Int.toNat f) (dflt T_beats_Wire)).2).2).2).2).2).2).2).2).1,((((((((((List.getD a (Int.toNat f) (dflt T_beats_Wire)).2).2).2).2).2).2).2).2).2).1,(((((((((((List.getD a (Int.toNat f) (dflt T_beats_Wire)).2).2).2).2).2).2).2).2).2).2).1,((((((((((((((List.getD a (Int.toNat f) (dflt T_beats_Wire)).2).2).2).2).2).2).2).2).2).2).2).1).1,(((((((((((((List.getD a (Int.toNat f) (dflt T_beats_Wire)).2).2).2).2).2).2).2).2).2).2).2).1).2),(((((((((((((List.getD a (Int.toNat f) (dflt T_beats_Wire)).2).2).2).2).2).2).2).2).2).2).2).2).1,(((((((((((((List.getD a (Int.toNat f) (dflt T_beats_Wire)).2).2).2).2).2).2).2).2).2).2).2).2).2)]),IntKind.wrap .i64 (f+(1:Int)),()),()))
 else none
 else none
 else none
 else none
 else none
 else none
 else none
 else
 inrO (bif decide (List.length c=List.length c) then
 some ((),c)
 else none))
 (([],(0:Int),()),())
def e10 (fu:Nat):Ent := ⟨10,(.cons (.hole (.sl T_beats_Wire)) .nil),.nil,(.own .own 51 T_beats_Wire),p10 fu⟩
def d10 (_:Nat):DC := (.seq (.region [opD 2 (.mov (.const vS))] [[]] false) (.seq (.region [opD 3 (.mov (.const vS))] [[]] false) (.seq (.seq (.region [opD 4 (.mov (cD 0))] [[]] false) (.block 0 (.loop ⟨[3,4],(.cons (.own .own 51 T_beats_Wire) (.cons (.hole (.int .i64)) .nil)),[],.nil,[0],[]⟩
 (.seq (.seq (.region [mvD 5 4,mvD 6 0,opD 7 (.len false (tD 6)),opD 8 (.bin .lss (tD 5) (tD 7))] [[],[],[1],[0,2]] false) (.cond (.tmp 8) .skip (.exit 0))) (.seq (.block 1 (.region [mvD 11 3,mvD 12 0,mvD 13 4,opD 14 (.iaddr 15 (tD 12) (tD 13)),opD 15 (.faddr 0 (tD 14)),opD 16 (.load false 1 (tD 15)),mvD 17 0,mvD 18 4,opD 19 (.iaddr 15 (tD 17) (tD 18)),opD 20 (.faddr 1 (tD 19)),opD 21 (.load true 14 (tD 20)),opD 22 (.build 15 [vU,vI,vI,vI,vU,vU,vU,vS,vU,vB,vU,vS,vS,vS,vB] [(0,(1,(tD 16))),(1,(14,(tD 21)))]),oqD 23 (.bslice 51 15 1 [vU,vI,vI,vI,vU,vU,vU,vS,vU,vB,vU,vS,vS,vS,vB] [(0,(tD 22))]) (.ty T_beats_Wire),oqD 24 (.app 51 15 [vU,vI,vI,vI,vU,vU,vU,vS,vU,vB,vU,vS,vS,vS,vB] 184 (tD 11) (tD 23)) (.ty T_beats_Wire),mvD 3 24] [[],[],[],[1,2],[3],[4],[],[],[6,7],[8],[9],[5,10],[11],[0,12],[13,13,0,1,2,3,4,5,6,7,8,9,10,11,12,13]] true)) (.region [mvD 9 4,opD 10 (.bin .add (tD 9) (cD 1)),mvD 4 10] [[],[0],[1,0,1]] false)))))) (.seq (.region [mvD 25 3,mvD 2 25] [[],[0,0]] false) .ret))))
theorem g10 (fu:Nat):(e10 fu).Good Tryd.prog := good_fn orders Tryd.func10 fu (d10 fu) rs10 26 (l := []) trivial
def rs68:List RVx := [(.tmp 4)]
def p68 (fu:Nat):(List (Int))×((List (Int))×(Unit))→Option ((Unit)×(Bool)) := fun ⟨a,c,_⟩ =>
bif ((List.length a:Int) != (List.length c:Int)) then
 some ((),false)
else
 loopO (S := ((Int)×(Unit))×(Unit)) fu (fun ⟨⟨f,_⟩,_⟩ =>
 bif decide (f<(List.length a:Int)) then
 bif decide ((0:Int)≤f∧f<(List.length a:Int)) then
 bif decide (Int.toNat f<List.length a) then
 bif decide ((0:Int)≤f∧f<(List.length c:Int)) then
 bif decide (Int.toNat f<List.length c) then
 bif ((List.getD a (Int.toNat f) (dflt (.int .i64))) != (List.getD c (Int.toNat f) (dflt (.int .i64)))) then
 inrO (some ((),false))
 else
 some (.inl ((IntKind.wrap .i64 (f+(1:Int)),()),()))
 else none
 else none
 else none
 else none
 else
 inrO (some ((),true)))
 (((0:Int),()),())
def e68 (fu:Nat):Ent := ⟨68,(.cons (.hole (.sl (.int .i64))) (.cons (.hole (.sl (.int .i64))) .nil)),.nil,(.hole .bool),p68 fu⟩
def d68 (_:Nat):DC := (.seq (.region [opD 4 (.mov (.const vB))] [[]] false) (.seq (.seq (.region [mvD 6 0,opD 7 (.len false (tD 6)),mvD 8 1,opD 9 (.len false (tD 8)),opD 10 (.bin .neq (tD 7) (tD 9))] [[],[0],[],[2],[1,3]] false) (.cond (.tmp 10) (.seq (.region [opD 4 (.mov (.const vB))] [[]] false) .ret) .skip)) (.seq (.seq (.region [opD 5 (.mov (cD 0))] [[]] false) (.block 0 (.loop ⟨[5],(.cons (.hole (.int .i64)) .nil),[],.nil,[0,1],[]⟩
 (.seq (.seq (.region [mvD 11 5,mvD 12 0,opD 13 (.len false (tD 12)),opD 14 (.bin .lss (tD 11) (tD 13))] [[],[],[1],[0,2]] false) (.cond (.tmp 14) .skip (.exit 0))) (.seq (.block 1 (.seq (.region [mvD 17 0,mvD 18 5,opD 19 (.iaddr 1 (tD 17) (tD 18)),opD 20 (.load false 1 (tD 19)),mvD 21 1,mvD 22 5,opD 23 (.iaddr 1 (tD 21) (tD 22)),opD 24 (.load false 1 (tD 23)),opD 25 (.bin .neq (tD 20) (tD 24))] [[],[],[0,1],[2],[],[],[4,5],[6],[3,7]] true) (.cond (.tmp 25) (.seq (.region [opD 4 (.mov (.const vB))] [[]] false) .ret) .skip))) (.region [mvD 15 5,opD 16 (.bin .add (tD 15) (cD 1)),mvD 5 16] [[],[0],[1,0,1]] false)))))) (.seq (.region [opD 4 (.mov (.const (.bool true)))] [[]] false) .ret))))
theorem g68 (fu:Nat):(e68 fu).Good Tryd.prog := good_fn orders Tryd.func68 fu (d68 fu) rs68 26 (l := []) trivial
def rs52:List RVx := [(.tmp 4)]
def p52 (fu:Nat):((List (Int))×((List (Int))×(Unit)))×(((List (Int))×((List (Int))×(Unit)))×(Unit))→Option ((Unit)×(Bool)) := fun ⟨⟨a,c,_⟩,⟨f,h,_⟩,_⟩ =>
Option.bind (p68 fu (a,f,())) fun ⟨_,i⟩ =>
Option.bind (p68 fu (c,h,())) fun ⟨_,j⟩ =>
bif i then
 some ((),j)
else
 some ((),false)
def e52 (fu:Nat):Ent := ⟨52,(.cons (.agg 2 (.cons (.hole (.sl (.int .i64))) (.cons (.hole (.sl (.int .i64))) .nil))) (.cons (.agg 2 (.cons (.hole (.sl (.int .i64))) (.cons (.hole (.sl (.int .i64))) .nil))) .nil)),.nil,(.hole .bool),p52 fu⟩
def d52 (fu:Nat):DC := (.seq (.region [opD 2 (.box 40 2 (tD 0)),opD 3 (.box 40 2 (tD 1)),opD 4 (.mov (.const vB))] [[],[],[]] false) (.seq (.region [opD 7 (.faddr 0 (tD 2)),opD 8 (.load false 1 (tD 7)),opD 9 (.faddr 0 (tD 3)),opD 10 (.load false 1 (tD 9)),oqD 11 (.call 68 [(tD 8),(tD 10)]) (.ent (e68 fu)),mvD 5 11] [[],[0],[],[2],[1,3],[4,4,0,1,2,3,4]] false) (.seq (.region [opD 12 (.faddr 1 (tD 2)),opD 13 (.load false 1 (tD 12)),opD 14 (.faddr 1 (tD 3)),opD 15 (.load false 1 (tD 14)),oqD 16 (.call 68 [(tD 13),(tD 15)]) (.ent (e68 fu)),mvD 6 16] [[],[0],[],[2],[1,3],[4,4,0,1,2,3,4]] false) (.seq (.region [mvD 17 5,mvD 18 17,ogD 19 18 true (.mov (tD 6)),opD 20 (.pick (tD 18) (tD 19) (.const vB)),mvD 4 20] [[],[0],[1],[1,2],[3,1,0,1,2,3]] false) .ret))))
theorem g52 (fu:Nat):(e52 fu).Good Tryd.prog := good_fn orders Tryd.func52 fu (d52 fu) rs52 21 (l := [e68 fu,e68 fu]) ⟨g68 fu,g68 fu,trivial⟩
def rs69:List RVx := [(.tmp 4)]
def p69 (fu:Nat):(Z6)×((Z6)×(Unit))→Option ((Unit)×(Bool)) := fun ⟨⟨a,c,f,h,i,j,_⟩,⟨k,l,m,n,o,q,_⟩,_⟩ =>
Option.bind (p52 fu ((i,j,()),(o,q,()),())) fun ⟨_,s⟩ =>
bif s then
 bif (a==k) then
 bif (c==l) then
 bif (f==m) then
 some ((),ByteArray.toList (strOfNums h)==ByteArray.toList (strOfNums n))
 else
 some ((),false)
 else
 some ((),false)
 else
 some ((),false)
else
 some ((),false)
def e69 (fu:Nat):Ent := ⟨69,(.cons Y11 (.cons Y11 .nil)),.nil,(.hole .bool),p69 fu⟩
def d69 (fu:Nat):DC := (.seq (.region [opD 2 (.box 96 6 (tD 0)),opD 3 (.box 96 6 (tD 1)),opD 4 (.mov (.const vB))] [[],[],[]] false) (.seq (.region [opD 6 (.faddr 4 (tD 2)),opD 7 (.load true 2 (tD 6)),opD 8 (.faddr 4 (tD 3)),opD 9 (.load true 2 (tD 8)),oqD 10 (.call 52 [(tD 7),(tD 9)]) (.ent (e52 fu)),mvD 5 10] [[],[0],[],[2],[1,3],[4,4,0,1,2,3,4]] false) (.seq (.region [mvD 11 5,mvD 12 11,ogD 13 12 true (.faddr 0 (tD 2)),ogD 14 12 true (.load false 1 (tD 13)),ogD 15 12 true (.faddr 0 (tD 3)),ogD 16 12 true (.load false 1 (tD 15)),ogD 17 12 true (.bin .eql (tD 14) (tD 16)),opD 18 (.pick (tD 12) (tD 17) (.const vB)),mvD 19 18,ogD 20 19 true (.faddr 1 (tD 2)),ogD 21 19 true (.load false 1 (tD 20)),ogD 22 19 true (.faddr 1 (tD 3)),ogD 23 19 true (.load false 1 (tD 22)),ogD 24 19 true (.bin .eql (tD 21) (tD 23)),opD 25 (.pick (tD 19) (tD 24) (.const vB)),mvD 26 25,ogD 27 26 true (.faddr 2 (tD 2)),ogD 28 26 true (.load false 1 (tD 27)),ogD 29 26 true (.faddr 2 (tD 3)),ogD 30 26 true (.load false 1 (tD 29)),ogD 31 26 true (.bin .eql (tD 28) (tD 30)),opD 32 (.pick (tD 26) (tD 31) (.const vB)),mvD 33 32,ogD 34 33 true (.faddr 3 (tD 2)),ogD 35 33 true (.load false 1 (tD 34)),ogD 36 33 true (.b2s (tD 35)),ogD 37 33 true (.faddr 3 (tD 3)),ogD 38 33 true (.load false 1 (tD 37)),ogD 39 33 true (.b2s (tD 38)),ogD 40 33 true (.bin .eql (tD 36) (tD 39)),opD 41 (.pick (tD 33) (tD 40) (.const vB)),mvD 4 41] [[],[0],[1],[2,1],[1],[4,1],[3,5,1],[1,6],[7,1],[8],[9,8],[8],[11,8],[10,12,8],[8,13],[14,8],[15],[16,15],[15],[18,15],[17,19,15],[15,20],[21,15],[22],[23,22],[24,22],[22],[26,22],[27,22],[25,28,22],[22,29],[30,22,0,1,2,3,4,5,6,7,8,9,10,11,12,13,14,15,16,17,18,19,20,21,22,23,24,25,26,27,28,29,30]] false) .ret)))
theorem g69 (fu:Nat):(e69 fu).Good Tryd.prog := good_fn orders Tryd.func69 fu (d69 fu) rs69 42 (l := [e52 fu]) ⟨g52 fu,trivial⟩
def rs53:List RVx := [(.tmp 4)]
def p53 (fu:Nat):(List (D_api_Entry))×((List (D_api_Entry))×(Unit))→Option ((Unit)×(Bool)) := fun ⟨a,c,_⟩ =>
bif ((List.length a:Int) != (List.length c:Int)) then
 some ((),false)
else
 loopO (S := ((Int)×(Unit))×(Unit)) fu (fun ⟨⟨f,_⟩,_⟩ =>
 bif decide (f<(List.length a:Int)) then
 bif decide ((0:Int)≤f∧f<(List.length a:Int)) then
 bif decide (Int.toNat f<List.length a) then
 bif decide ((0:Int)≤f∧f<(List.length c:Int)) then
 bif decide (Int.toNat f<List.length c) then
 Option.bind (p69 fu (((List.getD a (Int.toNat f) (dflt T_api_Entry)).1,((List.getD a (Int.toNat f) (dflt T_api_Entry)).2).1,(((List.getD a (Int.toNat f) (dflt T_api_Entry)).2).2).1,((((List.getD a (Int.toNat f) (dflt T_api_Entry)).2).2).2).1,(((((List.getD a (Int.toNat f) (dflt T_api_Entry)).2).2).2).2).1,(((((List.getD a (Int.toNat f) (dflt T_api_Entry)).2).2).2).2).2,()),((List.getD c (Int.toNat f) (dflt T_api_Entry)).1,((List.getD c (Int.toNat f) (dflt T_api_Entry)).2).1,(((List.getD c (Int.toNat f) (dflt T_api_Entry)).2).2).1,((((List.getD c (Int.toNat f) (dflt T_api_Entry)).2).2).2).1,(((((List.getD c (Int.toNat f) (dflt T_api_Entry)).2).2).2).2).1,(((((List.getD c (Int.toNat f) (dflt T_api_Entry)).2).2).2).2).2,()),())) fun ⟨_,h⟩ =>
 bif !h then
 inrO (some ((),false))
 else
 some (.inl ((IntKind.wrap .i64 (f+(1:Int)),()),()))
 else none
 else none
 else none
 else none
 else
 inrO (some ((),true)))
 (((0:Int),()),())
def e53 (fu:Nat):Ent := ⟨53,(.cons (.hole (.sl T_api_Entry)) (.cons (.hole (.sl T_api_Entry)) .nil)),.nil,(.hole .bool),p53 fu⟩
def d53 (fu:Nat):DC := (.seq (.region [opD 4 (.mov (.const vB))] [[]] false) (.seq (.seq (.region [mvD 7 0,opD 8 (.len false (tD 7)),mvD 9 1,opD 10 (.len false (tD 9)),opD 11 (.bin .neq (tD 8) (tD 10))] [[],[0],[],[2],[1,3]] false) (.cond (.tmp 11) (.seq (.region [opD 4 (.mov (.const vB))] [[]] false) .ret) .skip)) (.seq (.seq (.region [opD 5 (.mov (cD 0))] [[]] false) (.block 0 (.loop ⟨[5],(.cons (.hole (.int .i64)) .nil),[],.nil,[0,1],[]⟩
 (.seq (.seq (.region [mvD 12 5,mvD 13 0,opD 14 (.len false (tD 13)),opD 15 (.bin .lss (tD 12) (tD 14))] [[],[],[1],[0,2]] false) (.cond (.tmp 15) .skip (.exit 0))) (.seq (.block 1 (.seq (.region [mvD 18 0,mvD 19 5,opD 20 (.iaddr 6 (tD 18) (tD 19)),opD 21 (.load true 6 (tD 20)),mvD 22 1,mvD 23 5,opD 24 (.iaddr 6 (tD 22) (tD 23)),opD 25 (.load true 6 (tD 24)),oqD 26 (.call 69 [(tD 21),(tD 25)]) (.ent (e69 fu)),mvD 6 26] [[],[],[0,1],[2],[],[],[4,5],[6],[3,7],[8,8,0,1,2,3,4,5,6,7,8]] true) (.seq (.region [mvD 27 6,opD 28 (.not (tD 27))] [[],[0]] false) (.cond (.tmp 28) (.seq (.region [opD 4 (.mov (.const vB))] [[]] false) .ret) .skip)))) (.region [mvD 16 5,opD 17 (.bin .add (tD 16) (cD 1)),mvD 5 17] [[],[0],[1,0,1]] false)))))) (.seq (.region [opD 4 (.mov (.const (.bool true)))] [[]] false) .ret))))
theorem g53 (fu:Nat):(e53 fu).Good Tryd.prog := good_fn orders Tryd.func53 fu (d53 fu) rs53 29 (l := [e69 fu]) ⟨g69 fu,trivial⟩
def rs30:List RVx := [(.tmp 4)]
def p30 (fu:Nat):(Z1)×((Z1)×(Unit))→Option ((Unit)×(Bool)) := fun ⟨⟨a,c,f,h,i,j,k,l,m,n,o,q,s,t,_⟩,⟨u,w,x,y,z,a0,c0,f0,h0,i0,j0,k0,l0,m0,_⟩,_⟩ =>
Option.bind (p52 fu ((o,q,()),(j0,k0,()),())) fun ⟨_,n0⟩ =>
Option.bind (p53 fu (k,c0,())) fun ⟨_,o0⟩ =>
bif n0 then
 bif o0 then
 bif (a==u) then
 bif (c==w) then
 bif (f==x) then
 bif (h==y) then
 bif (i==z) then
 bif (j==a0) then
 bif (l==f0) then
 bif m==h0 then
 bif (n==i0) then
 bif ByteArray.toList (strOfNums s)==ByteArray.toList (strOfNums l0) then
 some ((),t==m0)
 else
 some ((),false)
 else
 some ((),false)
 else
 some ((),false)
 else
 some ((),false)
 else
 some ((),false)
 else
 some ((),false)
 else
 some ((),false)
 else
 some ((),false)
 else
 some ((),false)
 else
 some ((),false)
 else
 some ((),false)
else
 some ((),false)
def e30 (fu:Nat):Ent := ⟨30,(.cons Y2 (.cons Y2 .nil)),.nil,(.hole .bool),p30 fu⟩
def d30 (fu:Nat):DC := (.seq (.region [opD 2 (.box 42 14 (tD 0)),opD 3 (.box 42 14 (tD 1)),opD 4 (.mov (.const vB))] [[],[],[]] false) (.seq (.region [opD 7 (.faddr 10 (tD 2)),opD 8 (.load true 2 (tD 7)),opD 9 (.faddr 10 (tD 3)),opD 10 (.load true 2 (tD 9)),oqD 11 (.call 52 [(tD 8),(tD 10)]) (.ent (e52 fu)),mvD 5 11] [[],[0],[],[2],[1,3],[4,4,0,1,2,3,4]] false) (.seq (.region [opD 12 (.faddr 6 (tD 2)),opD 13 (.load false 1 (tD 12)),opD 14 (.faddr 6 (tD 3)),opD 15 (.load false 1 (tD 14)),oqD 16 (.call 53 [(tD 13),(tD 15)]) (.ent (e53 fu)),mvD 6 16] [[],[0],[],[2],[1,3],[4,4,0,1,2,3,4]] false) (.seq (.region [mvD 17 5,mvD 18 17,ogD 19 18 true (.mov (tD 6)),opD 20 (.pick (tD 18) (tD 19) (.const vB)),mvD 21 20,ogD 22 21 true (.faddr 0 (tD 2)),ogD 23 21 true (.load false 1 (tD 22)),ogD 24 21 true (.faddr 0 (tD 3)),ogD 25 21 true (.load false 1 (tD 24)),ogD 26 21 true (.bin .eql (tD 23) (tD 25)),opD 27 (.pick (tD 21) (tD 26) (.const vB)),mvD 28 27,ogD 29 28 true (.faddr 1 (tD 2)),ogD 30 28 true (.load false 1 (tD 29)),ogD 31 28 true (.faddr 1 (tD 3)),ogD 32 28 true (.load false 1 (tD 31)),ogD 33 28 true (.bin .eql (tD 30) (tD 32)),opD 34 (.pick (tD 28) (tD 33) (.const vB)),mvD 35 34,ogD 36 35 true (.faddr 2 (tD 2)),ogD 37 35 true (.load false 1 (tD 36)),ogD 38 35 true (.faddr 2 (tD 3)),ogD 39 35 true (.load false 1 (tD 38)),ogD 40 35 true (.bin .eql (tD 37) (tD 39)),opD 41 (.pick (tD 35) (tD 40) (.const vB)),mvD 42 41,ogD 43 42 true (.faddr 3 (tD 2)),ogD 44 42 true (.load false 1 (tD 43)),ogD 45 42 true (.faddr 3 (tD 3)),ogD 46 42 true (.load false 1 (tD 45)),ogD 47 42 true (.bin .eql (tD 44) (tD 46)),opD 48 (.pick (tD 42) (tD 47) (.const vB)),mvD 49 48,ogD 50 49 true (.faddr 4 (tD 2)),ogD 51 49 true (.load false 1 (tD 50)),ogD 52 49 true (.faddr 4 (tD 3)),ogD 53 49 true (.load false 1 (tD 52)),ogD 54 49 true (.bin .eql (tD 51) (tD 53)),opD 55 (.pick (tD 49) (tD 54) (.const vB)),mvD 56 55,ogD 57 56 true (.faddr 5 (tD 2)),ogD 58 56 true (.load false 1 (tD 57)),ogD 59 56 true (.faddr 5 (tD 3)),ogD 60 56 true (.load false 1 (tD 59)),ogD 61 56 true (.bin .eql (tD 58) (tD 60)),opD 62 (.pick (tD 56) (tD 61) (.const vB)),mvD 63 62,ogD 64 63 true (.faddr 7 (tD 2)),ogD 65 63 true (.load false 1 (tD 64)),ogD 66 63 true (.faddr 7 (tD 3)),ogD 67 63 true (.load false 1 (tD 66)),ogD 68 63 true (.bin .eql (tD 65) (tD 67)),opD 69 (.pick (tD 63) (tD 68) (.const vB)),mvD 70 69,ogD 71 70 true (.faddr 8 (tD 2)),ogD 72 70 true (.load false 1 (tD 71)),ogD 73 70 true (.faddr 8 (tD 3)),ogD 74 70 true (.load false 1 (tD 73)),ogD 75 70 true (.beq false (tD 72) (tD 74)),opD 76 (.pick (tD 70) (tD 75) (.const vB)),mvD 77 76,ogD 78 77 true (.faddr 9 (tD 2)),ogD 79 77 true (.load false 1 (tD 78)),ogD 80 77 true (.faddr 9 (tD 3)),ogD 81 77 true (.load false 1 (tD 80)),ogD 82 77 true (.bin .eql (tD 79) (tD 81)),opD 83 (.pick (tD 77) (tD 82) (.const vB)),mvD 84 83,ogD 85 84 true (.faddr 12 (tD 2)),ogD 86 84 true (.load false 1 (tD 85)),ogD 87 84 true (.b2s (tD 86)),ogD 88 84 true (.faddr 12 (tD 3)),ogD 89 84 true (.load false 1 (tD 88)),ogD 90 84 true (.b2s (tD 89)),ogD 91 84 true (.bin .eql (tD 87) (tD 90)),opD 92 (.pick (tD 84) (tD 91) (.const vB)),mvD 93 92,ogD 94 93 true (.faddr 13 (tD 2)),ogD 95 93 true (.load false 1 (tD 94)),ogD 96 93 true (.faddr 13 (tD 3)),ogD 97 93 true (.load false 1 (tD 96)),ogD 98 93 true (.beq false (tD 95) (tD 97)),opD 99 (.pick (tD 93) (tD 98) (.const vB)),mvD 4 99] [[],[0],[1],[1,2],[3,1],[4],[5,4],[4],[7,4],[6,8,4],[4,9],[10,4],[11],[12,11],[11],[14,11],[13,15,11],[11,16],[17,11],[18],[19,18],[18],[21,18],[20,22,18],[18,23],[24,18],[25],[26,25],[25],[28,25],[27,29,25],[25,30],[31,25],[32],[33,32],[32],[35,32],[34,36,32],[32,37],[38,32],[39],[40,39],[39],[42,39],[41,43,39],[39,44],[45,39],[46],[47,46],[46],[49,46],[48,50,46],[46,51],[52,46],[53],[54,53],[53],[56,53],[55,57,53],[53,58],[59,53],[60],[61,60],[60],[63,60],[62,64,60],[60,65],[66,60],[67],[68,67],[69,67],[67],[71,67],[72,67],[70,73,67],[67,74],[75,67],[76],[77,76],[76],[79,76],[78,80,76],[76,81],[82,76,0,1,2,3,4,5,6,7,8,9,10,11,12,13,14,15,16,17,18,19,20,21,22,23,24,25,26,27,28,29,30,31,32,33,34,35,36,37,38,39,40,41,42,43,44,45,46,47,48,49,50,51,52,53,54,55,56,57,58,59,60,61,62,63,64,65,66,67,68,69,70,71,72,73,74,75,76,77,78,79,80,81,82]] false) .ret))))
theorem g30 (fu:Nat):(e30 fu).Good Tryd.prog := good_fn orders Tryd.func30 fu (d30 fu) rs30 100 (l := [e52 fu,e53 fu]) ⟨g52 fu,g53 fu,trivial⟩
def rs9:List RVx := [(.tmp 4)]
def p9 (fu:Nat):(List (D_beats_Wire))×((List (D_beats_Wire))×(Unit))→Option ((Unit)×(Bool)) := fun ⟨a,c,_⟩ =>
bif ((List.length a:Int) != (List.length c:Int)) then
 some ((),false)
else
 loopO (S := ((Int)×(Unit))×(Unit)) fu (fun ⟨⟨f,_⟩,_⟩ =>
 bif decide (f<(List.length a:Int)) then
 bif decide ((0:Int)≤f∧f<(List.length a:Int)) then
 bif decide (Int.toNat f<List.length a) then
 bif decide ((0:Int)≤f∧f<(List.length c:Int)) then
 bif decide (Int.toNat f<List.length c) then
 Option.bind (p30 fu ((((List.getD a (Int.toNat f) (dflt T_beats_Wire)).2).1,(((List.getD a (Int.toNat f) (dflt T_beats_Wire)).2).2).1,((((List.getD a (Int.toNat f) (dflt T_beats_Wire)).2).2).2).1,(((((List.getD a (Int.toNat f) (dflt T_beats_Wire)).2).2).2).2).1,((((((List.getD a (Int.toNat f) (dflt T_beats_Wire)).2).2).2).2).2).1,(((((((List.getD a (Int.toNat f) (dflt T_beats_Wire)).2).2).2).2).2).2).1,((((((((List.getD a (Int.toNat f) (dflt T_beats_Wire)).2).2).2).2).2).2).2).1,(((((((((List.getD a (Int.toNat f) (dflt T_beats_Wire)).2).2).2).2).2).2).2).2).1,((((((((((List.getD a (Int.toNat f) (dflt T_beats_Wire)).2).2).2).2).2).2).2).2).2).1,(((((((((((List.getD a (Int.toNat f) (dflt T_beats_Wire)).2).2).2).2).2).2).2).2).2).2).1,(((((((((((((List.getD a (Int.toNat f) (dflt T_beats_Wire)).2).2).2).2).2).2).2).2).2).2).2).1).1,(((((((((((((List.getD a (Int.toNat f) (dflt T_beats_Wire)).2).2).2).2).2).2).2).2).2).2).2).1).2,(((((((((((((List.getD a (Int.toNat f) (dflt T_beats_Wire)).2).2).2).2).2).2).2).2).2).2).2).2).1,(((((((((((((List.getD a (Int.toNat f) (dflt T_beats_Wire)).2).2).2).2).2).2).2).2).2).2).2).2).2,()),(((List.getD c (Int.toNat f) (dflt T_beats_Wire)).2).1,(((List.getD c (Int.toNat f) (dflt T_beats_Wire)).2).2).1,((((List.getD c (Int.toNat f) (dflt T_beats_Wire)).2).2).2).1,(((((List.getD c (Int.toNat f) (dflt T_beats_Wire)).2).2).2).2).1,((((((List.getD c (Int.toNat f) (dflt T_beats_Wire)).2).2).2).2).2).1,(((((((List.getD c (Int.toNat f) (dflt T_beats_Wire)).2).2).2).2).2).2).1,((((((((List.getD c (Int.toNat f) (dflt T_beats_Wire)).2).2).2).2).2).2).2).1,(((((((((List.getD c (Int.toNat f) (dflt T_beats_Wire)).2).2).2).2).2).2).2).2).1,((((((((((List.getD c (Int.toNat f) (dflt T_beats_Wire)).2).2).2).2).2).2).2).2).2).1,(((((((((((List.getD c (Int.toNat f) (dflt T_beats_Wire)).2).2).2).2).2).2).2).2).2).2).1,(((((((((((((List.getD c (Int.toNat f) (dflt T_beats_Wire)).2).2).2).2).2).2).2).2).2).2).2).1).1,(((((((((((((List.getD c (Int.toNat f) (dflt T_beats_Wire)).2).2).2).2).2).2).2).2).2).2).2).1).2,(((((((((((((List.getD c (Int.toNat f) (dflt T_beats_Wire)).2).2).2).2).2).2).2).2).2).2).2).2).1,(((((((((((((List.getD c (Int.toNat f) (dflt T_beats_Wire)).2).2).2).2).2).2).2).2).2).2).2).2).2,()),())) fun ⟨_,h⟩ =>
 bif !h then
 inrO (some ((),false))
 else
 bif decide ((0:Int)≤f∧f<(List.length a:Int)) then
 bif decide (Int.toNat f<List.length a) then
 bif decide ((0:Int)≤f∧f<(List.length c:Int)) then
 bif decide (Int.toNat f<List.length c) then
 bif (((List.getD a (Int.toNat f) (dflt T_beats_Wire)).1) != ((List.getD c (Int.toNat f) (dflt T_beats_Wire)).1)) then
 inrO (some ((),false))
 else
 some (.inl ((IntKind.wrap .i64 (f+(1:Int)),()),()))
 else none
 else none
 else none
 else none
 else none
 else none
 else none
 else none
 else
 inrO (some ((),true)))
 (((0:Int),()),())
def e9 (fu:Nat):Ent := ⟨9,(.cons (.hole (.sl T_beats_Wire)) (.cons (.hole (.sl T_beats_Wire)) .nil)),.nil,(.hole .bool),p9 fu⟩
def d9 (fu:Nat):DC := (.seq (.region [opD 4 (.mov (.const vB))] [[]] false) (.seq (.seq (.region [mvD 7 0,opD 8 (.len false (tD 7)),mvD 9 1,opD 10 (.len false (tD 9)),opD 11 (.bin .neq (tD 8) (tD 10))] [[],[0],[],[2],[1,3]] false) (.cond (.tmp 11) (.seq (.region [opD 4 (.mov (.const vB))] [[]] false) .ret) .skip)) (.seq (.seq (.region [opD 5 (.mov (cD 0))] [[]] false) (.block 0 (.loop ⟨[5],(.cons (.hole (.int .i64)) .nil),[],.nil,[0,1],[]⟩
 (.seq (.seq (.region [mvD 12 5,mvD 13 0,opD 14 (.len false (tD 13)),opD 15 (.bin .lss (tD 12) (tD 14))] [[],[],[1],[0,2]] false) (.cond (.tmp 15) .skip (.exit 0))) (.seq (.block 1 (.seq (.region [mvD 18 0,mvD 19 5,opD 20 (.iaddr 15 (tD 18) (tD 19)),opD 21 (.faddr 1 (tD 20)),opD 22 (.load true 14 (tD 21)),mvD 23 1,mvD 24 5,opD 25 (.iaddr 15 (tD 23) (tD 24)),opD 26 (.faddr 1 (tD 25)),opD 27 (.load true 14 (tD 26)),oqD 28 (.call 30 [(tD 22),(tD 27)]) (.ent (e30 fu)),mvD 6 28] [[],[],[0,1],[2],[3],[],[],[5,6],[7],[8],[4,9],[10,10,0,1,2,3,4,5,6,7,8,9,10]] true) (.seq (.region [mvD 29 6,opD 30 (.not (tD 29)),mvD 31 30,ogD 32 31 false (.mov (tD 0)),ogD 33 31 false (.mov (tD 5)),ogD 34 31 false (.iaddr 15 (tD 32) (tD 33)),ogD 35 31 false (.faddr 0 (tD 34)),ogD 36 31 false (.load false 1 (tD 35)),ogD 37 31 false (.mov (tD 1)),ogD 38 31 false (.mov (tD 5)),ogD 39 31 false (.iaddr 15 (tD 37) (tD 38)),ogD 40 31 false (.faddr 0 (tD 39)),ogD 41 31 false (.load false 1 (tD 40)),ogD 42 31 false (.bin .neq (tD 36) (tD 41)),opD 43 (.pick (tD 31) (.const (.bool true)) (tD 42))] [[],[0],[1],[2],[2],[3,4,2],[5,2],[6,2],[2],[2],[8,9,2],[10,2],[11,2],[7,12,2],[2,13]] true) (.cond (.tmp 43) (.seq (.region [opD 4 (.mov (.const vB))] [[]] false) .ret) .skip)))) (.region [mvD 16 5,opD 17 (.bin .add (tD 16) (cD 1)),mvD 5 17] [[],[0],[1,0,1]] false)))))) (.seq (.region [opD 4 (.mov (.const (.bool true)))] [[]] false) .ret))))
theorem g9 (fu:Nat):(e9 fu).Good Tryd.prog := good_fn orders Tryd.func9 fu (d9 fu) rs9 44 (l := [e30 fu]) ⟨g30 fu,trivial⟩
def rs14:List RVx := [(.tmp 4)]
def p14 (fu:Nat):(List (D_api_Packet))×((List (D_api_Packet))×(Unit))→Option ((Unit)×(Bool)) := fun ⟨a,c,_⟩ =>
bif ((List.length a:Int) != (List.length c:Int)) then
 some ((),false)
else
 loopO (S := ((Int)×(Unit))×(Unit)) fu (fun ⟨⟨f,_⟩,_⟩ =>
 bif decide (f<(List.length a:Int)) then
 bif decide ((0:Int)≤f∧f<(List.length a:Int)) then
 bif decide (Int.toNat f<List.length a) then
 bif decide ((0:Int)≤f∧f<(List.length c:Int)) then
 bif decide (Int.toNat f<List.length c) then
 bif (((List.getD a (Int.toNat f) (dflt T_api_Packet)).1) != ((List.getD c (Int.toNat f) (dflt T_api_Packet)).1)) then
 inrO (some ((),false))
 else
 bif decide ((0:Int)≤f∧f<(List.length a:Int)) then
 bif decide (Int.toNat f<List.length a) then
 bif decide ((0:Int)≤f∧f<(List.length c:Int)) then
 bif decide (Int.toNat f<List.length c) then
 bif ((((List.getD a (Int.toNat f) (dflt T_api_Packet)).2).1) != (((List.getD c (Int.toNat f) (dflt T_api_Packet)).2).1)) then
 inrO (some ((),false))
 else
 bif decide ((0:Int)≤f∧f<(List.length a:Int)) then
 bif decide (Int.toNat f<List.length a) then
 bif decide ((0:Int)≤f∧f<(List.length c:Int)) then
 bif decide (Int.toNat f<List.length c) then
 bif (((((List.getD a (Int.toNat f) (dflt T_api_Packet)).2).2).1) != ((((List.getD c (Int.toNat f) (dflt T_api_Packet)).2).2).1)) then
 inrO (some ((),false))
 else
 bif decide ((0:Int)≤f∧f<(List.length a:Int)) then
 bif decide (Int.toNat f<List.length a) then
 bif decide ((0:Int)≤f∧f<(List.length c:Int)) then
 bif decide (Int.toNat f<List.length c) then
 bif !(ByteArray.toList (strOfNums ((((List.getD a (Int.toNat f) (dflt T_api_Packet)).2).2).2))==ByteArray.toList (strOfNums ((((List.getD c (Int.toNat f) (dflt T_api_Packet)).2).2).2))) then
 inrO (some ((),false))
 else
 some (.inl ((IntKind.wrap .i64 (f+(1:Int)),()),()))
 else none
 else none
 else none
 else none
 else none
 else none
 else none
 else none
 else none
 else none
 else none
 else none
 else none
 else none
 else none
 else none
 else
 inrO (some ((),true)))
 (((0:Int),()),())
def e14 (fu:Nat):Ent := ⟨14,(.cons (.hole (.sl T_api_Packet)) (.cons (.hole (.sl T_api_Packet)) .nil)),.nil,(.hole .bool),p14 fu⟩
def d14 (_:Nat):DC := (.seq (.region [opD 4 (.mov (.const vB))] [[]] false) (.seq (.seq (.region [mvD 6 0,opD 7 (.len false (tD 6)),mvD 8 1,opD 9 (.len false (tD 8)),opD 10 (.bin .neq (tD 7) (tD 9))] [[],[0],[],[2],[1,3]] false) (.cond (.tmp 10) (.seq (.region [opD 4 (.mov (.const vB))] [[]] false) .ret) .skip)) (.seq (.seq (.region [opD 5 (.mov (cD 0))] [[]] false) (.block 0 (.loop ⟨[5],(.cons (.hole (.int .i64)) .nil),[],.nil,[0,1],[]⟩
 (.seq (.seq (.region [mvD 11 5,mvD 12 0,opD 13 (.len false (tD 12)),opD 14 (.bin .lss (tD 11) (tD 13))] [[],[],[1],[0,2]] false) (.cond (.tmp 14) .skip (.exit 0))) (.seq (.block 1 (.seq (.region [mvD 17 0,mvD 18 5,opD 19 (.iaddr 4 (tD 17) (tD 18)),opD 20 (.faddr 0 (tD 19)),opD 21 (.load false 1 (tD 20)),mvD 22 1,mvD 23 5,opD 24 (.iaddr 4 (tD 22) (tD 23)),opD 25 (.faddr 0 (tD 24)),opD 26 (.load false 1 (tD 25)),opD 27 (.bin .neq (tD 21) (tD 26)),mvD 28 27,ogD 29 28 false (.mov (tD 0)),ogD 30 28 false (.mov (tD 5)),ogD 31 28 false (.iaddr 4 (tD 29) (tD 30)),ogD 32 28 false (.faddr 1 (tD 31)),ogD 33 28 false (.load false 1 (tD 32)),ogD 34 28 false (.mov (tD 1)),ogD 35 28 false (.mov (tD 5)),ogD 36 28 false (.iaddr 4 (tD 34) (tD 35)),ogD 37 28 false (.faddr 1 (tD 36)),ogD 38 28 false (.load false 1 (tD 37)),ogD 39 28 false (.bin .neq (tD 33) (tD 38)),opD 40 (.pick (tD 28) (.const (.bool true)) (tD 39)),mvD 41 40,ogD 42 41 false (.mov (tD 0)),ogD 43 41 false (.mov (tD 5)),ogD 44 41 false (.iaddr 4 (tD 42) (tD 43)),ogD 45 41 false (.faddr 2 (tD 44)),ogD 46 41 false (.load false 1 (tD 45)),ogD 47 41 false (.mov (tD 1)),ogD 48 41 false (.mov (tD 5)),ogD 49 41 false (.iaddr 4 (tD 47) (tD 48)),ogD 50 41 false (.faddr 2 (tD 49)),ogD 51 41 false (.load false 1 (tD 50)),ogD 52 41 false (.bin .neq (tD 46) (tD 51)),opD 53 (.pick (tD 41) (.const (.bool true)) (tD 52)),mvD 54 53,ogD 55 54 false (.mov (tD 0)),ogD 56 54 false (.mov (tD 5)),ogD 57 54 false (.iaddr 4 (tD 55) (tD 56)),ogD 58 54 false (.faddr 3 (tD 57)),ogD 59 54 false (.load false 1 (tD 58)),ogD 60 54 false (.b2s (tD 59)),ogD 61 54 false (.mov (tD 1)),ogD 62 54 false (.mov (tD 5)),ogD 63 54 false (.iaddr 4 (tD 61) (tD 62)),ogD 64 54 false (.faddr 3 (tD 63)),ogD 65 54 false (.load false 1 (tD 64)),ogD 66 54 false (.b2s (tD 65)),ogD 67 54 false (.bin .neq (tD 60) (tD 66)),opD 68 (.pick (tD 54) (.const (.bool true)) (tD 67))] [[],[],[0,1],[2],[3],[],[],[5,6],[7],[8],[4,9],[10],[11],[11],[12,13,11],[14,11],[15,11],[11],[11],[17,18,11],[19,11],[20,11],[16,21,11],[11,22],[23,11],[24],[24],[25,26,24],[27,24],[28,24],[24],[24],[30,31,24],[32,24],[33,24],[29,34,24],[24,35],[36,24],[37],[37],[38,39,37],[40,37],[41,37],[42,37],[37],[37],[44,45,37],[46,37],[47,37],[48,37],[43,49,37],[37,50]] true) (.cond (.tmp 68) (.seq (.region [opD 4 (.mov (.const vB))] [[]] false) .ret) .skip))) (.region [mvD 15 5,opD 16 (.bin .add (tD 15) (cD 1)),mvD 5 16] [[],[0],[1,0,1]] false)))))) (.seq (.region [opD 4 (.mov (.const (.bool true)))] [[]] false) .ret))))
theorem g14 (fu:Nat):(e14 fu).Good Tryd.prog := good_fn orders Tryd.func14 fu (d14 fu) rs14 69 (l := []) trivial
def rs4:List RVx := [(.tmp 4)]
def p4 (fu:Nat):(Int)×((List (D_beats_Wire))×(Unit))→Option ((Unit)×(Bool)) := fun ⟨a,c,_⟩ =>
Option.bind (p6 fu ()) fun ⟨_,f⟩ =>
Option.bind (p12 fu (c,())) fun ⟨_,h⟩ =>
bif decide (List.length h=List.length h) then
 Option.bind (pPack fu (a,h,())) fun ⟨_,⟨i,j,_⟩⟩ =>
 orK (E := ((Bool)×(Unit))×(Unit))
 (bif !f then
 some (.inl ((true,()),()))
 else
 some (.inl (((j != (0:Int)),()),())))
 fun ⟨⟨k,_⟩,_⟩ =>
 bif k then
 bif f then
 some ((),(((List.length i):Int)==(0:Int)))
 else
 some ((),false)
 else
 loopO (S := ((Int)×((Int)×(Unit)))×(Unit)) fu (fun ⟨⟨l,m,_⟩,_⟩ =>
 bif decide (m≤(7:Int)) then
 loopO (S := ((Int)×((Int)×(Unit)))×(Unit)) fu (fun ⟨⟨l,n,_⟩,_⟩ =>
 bif decide (n<(2:Int)) then
 loopO (S := ((List (D_beats_Wire))×((Int)×(Unit)))×(Unit)) fu (fun ⟨⟨o,q,_⟩,_⟩ =>
 bif decide (q<(List.length c:Int)) then
 bif decide ((0:Int)≤q∧q<(List.length c:Int)) then
 bif decide (Int.toNat q<List.length c) then
 Option.bind (p13 fu ((((List.getD c (Int.toNat q) (dflt T_beats_Wire)).2).1,(((List.getD c (Int.toNat q) (dflt T_beats_Wire)).2).2).1,((((List.getD c (Int.toNat q) (dflt T_beats_Wire)).2).2).2).1,(((((List.getD c (Int.toNat q) (dflt T_beats_Wire)).2).2).2).2).1,((((((List.getD c (Int.toNat q) (dflt T_beats_Wire)).2).2).2).2).2).1,(((((((List.getD c (Int.toNat q) (dflt T_beats_Wire)).2).2).2).2).2).2).1,((((((((List.getD c (Int.toNat q) (dflt T_beats_Wire)).2).2).2).2).2).2).2).1,(((((((((List.getD c (Int.toNat q) (dflt T_beats_Wire)).2).2).2).2).2).2).2).2).1,((((((((((List.getD c (Int.toNat q) (dflt T_beats_Wire)).2).2).2).2).2).2).2).2).2).1,(((((((((((List.getD c (Int.toNat q) (dflt T_beats_Wire)).2).2).2).2).2).2).2).2).2).2).1,(((((((((((((List.getD c (Int.toNat q) (dflt T_beats_Wire)).2).2).2).2).2).2).2).2).2).2).2).1).1,(((((((((((((List.getD c (Int.toNat q) (dflt T_beats_Wire)).2).2).2).2).2).2).2).2).2).2).2).1).2,(((((((((((((List.getD c (Int.toNat q) (dflt T_beats_Wire)).2).2).2).2).2).2).2).2).2).2).2).2).1,(((((((((((((List.getD c (Int.toNat q) (dflt T_beats_Wire)).2).2).2).2).2).2).2).2).2).2).2).2).2,()),())) fun ⟨_,s⟩ =>
 orK (E := ((Bool)×(Unit))×(Unit))
 (bif decide ((0:Int)≤q∧q<(List.length c:Int)) then
 bif decide (Int.toNat q<List.length c) then
 bif ((((((List.getD c (Int.toNat q) (dflt T_beats_Wire)).2).2).2).1)==m) then
 some (.inl ((s==(n==(0:Int)),()),()))
 else
 some (.inl ((false,()),()))
 else none
 else none)
 fun ⟨⟨t,_⟩,_⟩ =>
 bif t then
 bif decide ((0:Int)≤q∧q<(List.length c:Int)) then
 bif decide (Int.toNat q<List.length c) then
 bif decide (List.length o=List.length o) then
 bif decide (List.length o+List.length ([((List.getD c (Int.toNat q) (dflt T_beats_Wire)).1,((List.getD c (Int.toNat q) (dflt T_beats_Wire)).2).1,(((List.getD c (Int.toNat q) (dflt T_beats_Wire)).2).2).1,((((List.getD c (Int.toNat q) (dflt T_beats_Wire)).2).2).2).1,(((((List.getD c (Int.toNat q) (dflt T_beats_Wire)).2).2).2).2).1,((((((List.getD c (Int.toNat q) (dflt T_beats_Wire)).2).2).2).2).2).1,(((((((List.getD c (Int.toNat q) (dflt T_beats_Wire)).2).2).2).2).2).2).1,((((((((List.getD c (Int.toNat q) (dflt T_beats_Wire)).2).2).2).2).2).2).2).1,(((((((((List.getD c (Int.toNat q) (dflt T_beats_Wire)).2).2).2).2).2).2).2).2).1,((((((((((List.getD c (Int.toNat q) (dflt T_beats_Wire)).2).2).2).2).2).2).2).2).2).1,(((((((((((List.getD c (Int.toNat q) (dflt T_beats_Wire)).2).2).2).2).2).2).2).2).2).2).1,((((((((((((((List.getD c (Int.toNat q) (dflt T_beats_Wire)).2).2).2).2).2).2).2).2).2).2).2).1).1,(((((((((((((List.getD c (Int.toNat q) (dflt T_beats_Wire)).2).2).2).2).2).2).2).2).2).2).2).1).2),(((((((((((((List.getD c (Int.toNat q) (dflt T_beats_Wire)).2).2).2).2).2).2).2).2).2).2).2).2).1,(((((((((((((List.getD c (Int.toNat q) (dflt T_beats_Wire)).2).2).2).2).2).2).2).2).2).2).2).2).2)])≤maxLen∧(List.length o+List.length ([((List.getD c (Int.toNat q) (dflt T_beats_Wire)).1,((List.getD c (Int.toNat q) (dflt T_beats_Wire)).2).1,(((List.getD c (Int.toNat q) (dflt T_beats_Wire)).2).2).1,((((List.getD c (Int.toNat q) (dflt T_beats_Wire)).2).2).2).1,(((((List.getD c (Int.toNat q) (dflt T_beats_Wire)).2).2).2).2).1,((((((List.getD c (Int.toNat q) (dflt T_beats_Wire)).2).2).2).2).2).1,(((((((List.getD c (Int.toNat q) (dflt T_beats_Wire)).2).2).2).2).2).2).1,((((((((List.getD c (Int.toNat q) (dflt T_beats_Wire)).2).2).2).2).2).2).2).1,(((((((((List.getD c (Int.toNat q) (dflt T_beats_Wire)).2).2).2).2).2).2).2).2).1,((((((((((List.getD c (Int.toNat q) (dflt T_beats_Wire)).2).2).2).2).2).2).2).2).2).1,(((((((((((List.getD c (Int.toNat q) (dflt T_beats_Wire)).2).2).2).2).2).2).2).2).2).2).1,((((((((((((((List.getD c (Int.toNat q) (dflt T_beats_Wire)).2).2).2).2).2).2).2).2).2).2).2).1).1,(((((((((((((List.getD c (Int.toNat q) (dflt T_beats_Wire)).2).2).2).2).2).2).2).2).2).2).2).1).2),(((((((((((((List.getD c (Int.toNat q) (dflt T_beats_Wire)).2).2).2).2).2).2).2).2).2).2).2).2).1,(((((((((((((List.getD c (Int.toNat q) (dflt T_beats_Wire)).2).2).2).2).2).2).2).2).2).2).2).2).2)])) * 184≤140737488355328) then
 bif decide (List.length (o ++ [((List.getD c (Int.toNat q) (dflt T_beats_Wire)).1,((List.getD c (Int.toNat q) (dflt T_beats_Wire)).2).1,(((List.getD c (Int.toNat q) (dflt T_beats_Wire)).2).2).1,((((List.getD c (Int.toNat q) (dflt T_beats_Wire)).2).2).2).1,(((((List.getD c (Int.toNat q) (dflt T_beats_Wire)).2).2).2).2).1,((((((List.getD c (Int.toNat q) (dflt T_beats_Wire)).2).2).2).2).2).1,(((((((List.getD c (Int.toNat q) (dflt T_beats_Wire)).2).2).2).2).2).2).1,((((((((List.getD c (Int.toNat q) (dflt T_beats_Wire)).2).2).2).2).2).2).2).1,(((((((((List.getD c (Int.toNat q) (dflt T_beats_Wire)).2).2).2).2).2).2).2).2).1,((((((((((List.getD c (Int.toNat q) (dflt T_beats_Wire)).2).2).2).2).2).2).2).2).2).1,(((((((((((List.getD c (Int.toNat q) (dflt T_beats_Wire)).2).2).2).2).2).2).2).2).2).2).1,((((((((((((((List.getD c (Int.toNat q) (dflt T_beats_Wire)).2).2).2).2).2).2).2).2).2).2).2).1).1,(((((((((((((List.getD c (Int.toNat q) (dflt T_beats_Wire)).2).2).2).2).2).2).2).2).2).2).2).1).2),(((((((((((((List.getD c (Int.toNat q) (dflt T_beats_Wire)).2).2).2).2).2).2).2).2).2).2).2).2).1,(((((((((((((List.getD c (Int.toNat q) (dflt T_beats_Wire)).2).2).2).2).2).2).2).2).2).2).2).2).2)])=List.length (o ++ [((List.getD c (Int.toNat q) (dflt T_beats_Wire)).1,((List.getD c (Int.toNat q) (dflt T_beats_Wire)).2).1,(((List.getD c (Int.toNat q) (dflt T_beats_Wire)).2).2).1,((((List.getD c (Int.toNat q) (dflt T_beats_Wire)).2).2).2).1,(((((List.getD c (Int.toNat q) (dflt T_beats_Wire)).2).2).2).2).1,((((((List.getD c (Int.toNat q) (dflt T_beats_Wire)).2).2).2).2).2).1,(((((((List.getD c (Int.toNat q) (dflt T_beats_Wire)).2).2).2).2).2).2).1,((((((((List.getD c (Int.toNat q) (dflt T_beats_Wire)).2).2).2).2).2).2).2).1,(((((((((List.getD c (Int.toNat q) (dflt T_beats_Wire)).2).2).2).2).2).2).2).2).1,((((((((((List.getD c (Int.toNat q) (dflt T_beats_Wire)).2).2).2).2).2).2).2).2).2).1,(((((((((((List.getD c (Int.toNat q) (dflt T_beats_Wire)).2).2).2).2).2).2).2).2).2).2).1,((((((((((((((List.getD c (Int.toNat q) (dflt T_beats_Wire)).2).2).2).2).2).2).2).2).2).2).2).1).1,(((((((((((((List.getD c (Int.toNat q) (dflt T_beats_Wire)).2).2).2).2).2).2).2).2).2).2).2).1).2),(((((((((((((List.getD c (Int.toNat q) (dflt T_beats_Wire)).2).2).2).2).2).2).2).2).2).2).2).2).1,(((((((((((((List.getD c (Int.toNat q) (dflt T_beats_Wire)).2).2).2).2).2).2).2).2).2).2).2).2).2)])) then
 some (.inl (((o ++ [((List.getD c (Int.toNat q) (dflt T_beats_Wire)).1,((List.getD c (Int.toNat q) (dflt T_beats_Wire)).2).1,(((List.getD c (Int.toNat q) (dflt T_beats_Wire)).2).2).1,((((List.getD c (Int.toNat q) (dflt T_beats_Wire)).2).2).2).1,(((((List.getD c (Int.toNat q) (dflt T_beats_Wire)).2).2).2).2).1,((((((List.getD c (Int.toNat q) (dflt T_beats_Wire)).2).2).2).2).2).1,(((((((List.getD c (Int.toNat q) (dflt T_beats_Wire)).2).2).2).2).2).2).1,((((((((List.getD c (Int.toNat q) (dflt T_beats_Wire)).2).2).2).2).2).2).2).1,(((((((((List.getD c (Int.toNat q) (dflt T_beats_Wire)).2).2).2).2).2).2).2).2).1,((((((((((List.getD c (Int.toNat q) (dflt T_beats_Wire)).2).2).2).2).2).2).2).2).2).1,(((((((((((List.getD c (Int.toNat q) (dflt T_beats_Wire)).2).2).2).2).2).2).2).2).2).2).1,((((((((((((((List.getD c (Int.toNat q) (dflt T_beats_Wire)).2).2).2).2).2).2).2).2).2).2).2).1).1,(((((((((((((List.getD c (Int.toNat q) (dflt T_beats_Wire)).2).2).2).2).2).2).2).2).2).2).2).1).2),(((((((((((((List.getD c (Int.toNat q) (dflt T_beats_Wire)).2).2).2).2).2).2).2).2).2).2).2).2).1,(((((((((((((List.getD c (Int.toNat q) (dflt T_beats_Wire)).2).2).2).2).2).2).2).2).2).2).2).2).2)]),IntKind.wrap .i64 (q+(1:Int)),()),()))
 else none
 else none
 else none
 else none
 else none
 else
 bif decide (List.length o=List.length o) then
 some (.inl ((o,IntKind.wrap .i64 (q+(1:Int)),()),()))
 else none
 else none
 else none
 else
 inrO (bif (((List.length o):Int)==(0:Int)) then
 some (.inl ((l,IntKind.wrap .i64 (n+(1:Int)),()),()))
 else
 bif decide (l≥((List.length i):Int)) then
 inrO (inrO (some ((),false)))
 else
 bif decide ((0:Int)≤l∧l<(List.length i:Int)) then
 bif decide (Int.toNat l<List.length i) then
 Option.bind (p7 fu (((List.getD i (Int.toNat l) (dflt T_api_Packet)).1,((List.getD i (Int.toNat l) (dflt T_api_Packet)).2).1,(((List.getD i (Int.toNat l) (dflt T_api_Packet)).2).2).1,(((List.getD i (Int.toNat l) (dflt T_api_Packet)).2).2).2,()),())) fun ⟨_,⟨u,w,_⟩⟩ =>
 bif decide (List.length u=List.length u) then
 Option.bind (p10 fu (u,())) fun ⟨_,x⟩ =>
 bif decide (List.length x=List.length x) then
 bif decide (List.length o=List.length o) then
 Option.bind (p9 fu (x,o,())) fun ⟨_,y⟩ =>
 bif (w != (0:Int)) then
 inrO (inrO (some ((),false)))
 else
 bif !y then
 inrO (inrO (some ((),false)))
 else
 bif decide (List.length u=List.length u) then
 Option.bind (pPack fu (a,u,())) fun ⟨_,⟨z,a0,_⟩⟩ =>
 bif (a0 != (0:Int)) then
 inrO (inrO (some ((),false)))
 else
 bif (((List.length z):Int) != (1:Int)) then
 inrO (inrO (some ((),false)))
 else
 bif decide ((0:Int)≤l) then
 bif decide ((0:Int)≤IntKind.wrap .i64 (l+(1:Int))) then
 bif decide (Int.toNat l≤Int.toNat (IntKind.wrap .i64 (l+(1:Int)))∧0+(Int.toNat (IntKind.wrap .i64 (l+(1:Int))))≤List.length i) then
 bif decide (List.length z=List.length z) then
 bif decide ((Int.toNat l)+((Int.toNat (IntKind.wrap .i64 (l+(1:Int))))-(Int.toNat l))≤List.length i) then
 Option.bind (p14 fu (z,sub' i (Int.toNat l) ((Int.toNat (IntKind.wrap .i64 (l+(1:Int))))-(Int.toNat l)),())) fun ⟨_,c0⟩ =>
 bif !c0 then
 inrO (inrO (some ((),false)))
 else
 some (.inl ((IntKind.wrap .i64 (l+(1:Int)),IntKind.wrap .i64 (n+(1:Int)),()),()))
 else none
 else none
 else none
 else none
 else none
 else none
 else none
 else none
 else none
 else none
 else none))
 (([],(0:Int),()),())
 else
 inrO (some (.inl ((l,IntKind.wrap .i64 (m+(1:Int)),()),()))))
 ((l,(0:Int),()),())
 else
 inrO (some ((),(l==((List.length i):Int)))))
 (((0:Int),(1:Int),()),())
else none
def e4 (fu:Nat):Ent := ⟨4,(.cons (.hole (.int .i64)) (.cons (.hole (.sl T_beats_Wire)) .nil)),.nil,(.hole .bool),p4 fu⟩
def d4 (fu:Nat):DC := (.seq (.region [opD 4 (.mov (.const vB))] [[]] false) (.seq (.region [oqD 19 (.call 6 []) (.ent (e6 fu)),mvD 5 19] [[],[0,0,0]] false) (.seq (.region [mvD 21 0,mvD 22 1,oqD 23 (.call 12 [(tD 22)]) (.ent (e12 fu)),oqD 24 (.call 11 [(tD 21),(tD 23)]) (.ent (ePack fu)),mvD 20 24,opD 25 (.ext (tD 20) 0),opD 26 (.ext (tD 20) 1),mvD 6 25,mvD 7 26] [[],[],[1],[0,2,2],[3],[4],[4],[5,3,0,1,2,3,4,5],[6,7,0,1,2,3,4,5,6,7]] false) (.seq (.join ⟨[32],(.cons (.hole .bool) .nil),[],.nil,[0,1,5,6],[96]⟩
 (.region [mvD 27 5,opD 28 (.not (tD 27)),mvD 29 28,ogD 30 29 false (.mov (tD 7)),ogD 31 29 false (.bin .neq (tD 30) (cD 0)),opD 32 (.pick (tD 29) (.const (.bool true)) (tD 31))] [[],[0],[1],[2],[3,2],[2,4]] false)
 (.cond (.tmp 32) (.seq (.region [mvD 33 5,mvD 34 33,ogD 35 34 true (.mov (tD 6)),ogD 36 34 true (.len false (tD 35)),ogD 37 34 true (.bin .eql (tD 36) (cD 0)),opD 38 (.pick (tD 34) (tD 37) (.const vB)),mvD 4 38] [[],[0],[1],[2,1],[3,1],[1,4],[5,1,0,1,2,3,4,5]] false) .ret) .skip)) (.seq (.region [opD 8 (.mov (cD 0))] [[]] false) (.seq (.seq (.region [opD 9 (.mov (cD 1))] [[]] false) (.block 0 (.loop ⟨[8,9],(.cons (.hole (.int .i64)) (.cons (.hole (.int .i64)) .nil)),[],.nil,[0,1,6],[96]⟩
 (.seq (.seq (.region [mvD 39 9,opD 40 (.bin .leq (tD 39) (cD 7))] [[],[0]] false) (.cond (.tmp 40) .skip (.exit 0))) (.seq (.block 1 (.seq (.region [opD 10 (.mov (cD 0))] [[]] false) (.block 2 (.loop ⟨[8,10],(.cons (.hole (.int .i64)) (.cons (.hole (.int .i64)) .nil)),[],.nil,[0,1,6,9],[96]⟩
 (.seq (.seq (.region [mvD 43 10,opD 44 (.bin .lss (tD 43) (cD 2))] [[],[0]] false) (.cond (.tmp 44) .skip (.exit 2))) (.seq (.block 3 (.seq (.region [opD 11 (.mov (.const vS))] [[]] false) (.seq (.seq (.region [opD 12 (.mov (cD 0))] [[]] false) (.block 4 (.loop ⟨[11,12],(.cons (.own .own 51 T_beats_Wire) (.cons (.hole (.int .i64)) .nil)),[],.nil,[0,1,6,8,9,10],[96]⟩
 (.seq (.seq (.region [mvD 47 12,mvD 48 1,opD 49 (.len false (tD 48)),opD 50 (.bin .lss (tD 47) (tD 49))] [[],[],[1],[0,2]] false) (.cond (.tmp 50) .skip (.exit 4))) (.seq (.block 5 (.seq (.region [mvD 53 1,mvD 54 12,opD 55 (.iaddr 15 (tD 53) (tD 54)),opD 56 (.faddr 1 (tD 55)),opD 57 (.load true 14 (tD 56)),oqD 58 (.call 13 [(tD 57)]) (.ent (e13 fu)),mvD 13 58] [[],[],[0,1],[2],[3],[4],[5,5,0,1,2,3,4,5]] false) (.join ⟨[72],(.cons (.hole .bool) .nil),[],.nil,[0,1,6,8,9,10,11,12],[96,336]⟩
 (.region [mvD 59 1,mvD 60 12,opD 61 (.iaddr 15 (tD 59) (tD 60)),opD 62 (.faddr 1 (tD 61)),opD 63 (.faddr 2 (tD 62)),opD 64 (.load false 1 (tD 63)),mvD 65 9,opD 66 (.bin .eql (tD 64) (tD 65)),mvD 67 66,ogD 68 67 true (.mov (tD 13)),ogD 69 67 true (.mov (tD 10)),ogD 70 67 true (.bin .eql (tD 69) (cD 0)),ogD 71 67 true (.beq false (tD 68) (tD 70)),opD 72 (.pick (tD 67) (tD 71) (.const vB))] [[],[],[0,1],[2],[3],[4],[],[5,6],[7],[8],[8],[10,8],[9,11,8],[8,12]] false)
 (.cond (.tmp 72) (.region [mvD 73 11,mvD 74 1,mvD 75 12,opD 76 (.iaddr 15 (tD 74) (tD 75)),opD 77 (.load true 15 (tD 76)),oqD 78 (.bslice 51 15 1 [vU,vI,vI,vI,vU,vU,vU,vS,vU,vB,vU,vS,vS,vS,vB] [(0,(tD 77))]) (.ty T_beats_Wire),oqD 79 (.app 51 15 [vU,vI,vI,vI,vU,vU,vU,vS,vU,vB,vU,vS,vS,vS,vB] 184 (tD 73) (tD 78)) (.ty T_beats_Wire),mvD 11 79] [[],[],[],[1,2],[3],[4],[0,5],[6,6,0,1,2,3,4,5,6]] false) .skip)))) (.region [mvD 51 12,opD 52 (.bin .add (tD 51) (cD 1)),mvD 12 52] [[],[0],[1,0,1]] false)))))) (.seq (.seq (.region [mvD 80 11,opD 81 (.len false (tD 80)),opD 82 (.bin .eql (tD 81) (cD 0))] [[],[0],[1]] false) (.cond (.tmp 82) (.exit 3) .skip)) (.seq (.seq (.region [mvD 83 8,mvD 84 6,opD 85 (.len false (tD 84)),opD 86 (.bin .geq (tD 83) (tD 85))] [[],[],[1],[0,2]] false) (.cond (.tmp 86) (.seq (.region [opD 4 (.mov (.const vB))] [[]] false) .ret) .skip)) (.seq (.region [mvD 88 6,mvD 89 8,opD 90 (.iaddr 4 (tD 88) (tD 89)),opD 91 (.load true 4 (tD 90)),oqD 92 (.call 7 [(tD 91)]) (.ent (e7 fu)),mvD 87 92,opD 93 (.ext (tD 87) 0),opD 94 (.ext (tD 87) 1),mvD 14 93,mvD 15 94] [[],[],[0,1],[2],[3],[4],[5],[5],[6,4,0,1,2,3,4,5,6],[7,8,0,1,2,3,4,5,6,7,8]] false) (.seq (.region [mvD 95 14,oqD 96 (.call 10 [(tD 95)]) (.ent (e10 fu)),mvD 97 11,oqD 98 (.call 9 [(tD 96),(tD 97)]) (.ent (e9 fu)),mvD 16 98] [[],[0],[],[1,2,1],[3,3,0,1,2,3]] false) (.seq (.seq (.region [mvD 99 15,opD 100 (.bin .neq (tD 99) (cD 0)),mvD 101 100,ogD 102 101 false (.mov (tD 16)),ogD 103 101 false (.not (tD 102)),opD 104 (.pick (tD 101) (.const (.bool true)) (tD 103))] [[],[0],[1],[2],[3,2],[2,4]] false) (.cond (.tmp 104) (.seq (.region [opD 4 (.mov (.const vB))] [[]] false) .ret) .skip)) (.seq (.region [mvD 106 0,mvD 107 14,oqD 108 (.call 11 [(tD 106),(tD 107)]) (.ent (ePack fu)),mvD 105 108,opD 109 (.ext (tD 105) 0),opD 110 (.ext (tD 105) 1),mvD 17 109,mvD 18 110] [[],[],[0,1],[2],[3],[3],[4,2,0,1,2,3,4],[5,6,0,1,2,3,4,5,6]] false) (.seq (.seq (.region [mvD 111 18,opD 112 (.bin .neq (tD 111) (cD 0)),mvD 113 112,ogD 114 113 false (.mov (tD 17)),ogD 115 113 false (.len false (tD 114)),ogD 116 113 false (.bin .neq (tD 115) (cD 1)),opD 117 (.pick (tD 113) (.const (.bool true)) (tD 116)),mvD 118 117,ogD 119 118 false (.mov (tD 17)),ogD 120 118 false (.mov (tD 6)),ogD 121 118 false (.mov (tD 8)),ogD 122 118 false (.mov (tD 8)),ogD 123 118 false (.bin .add (tD 122) (cD 1)),ogD 124 118 false (.slc 4 (tD 120) (some (tD 121)) (some (tD 123))),(⟨(some 125),(some (118,false)),(.call 14 [(tD 119),(tD 124)])⟩,(.ent (e14 fu))),ogD 126 118 false (.not (tD 125)),opD 127 (.pick (tD 118) (.const (.bool true)) (tD 126))] [[],[0],[1],[2],[3,2],[4,2],[2,5],[6,2],[7],[7],[7],[7],[11,7],[9,10,12,7],[8,13,7,7],[14,7],[7,15]] false) (.cond (.tmp 127) (.seq (.region [opD 4 (.mov (.const vB))] [[]] false) .ret) .skip)) (.region [mvD 128 8,opD 129 (.bin .add (tD 128) (cD 1)),mvD 8 129] [[],[0],[1,0,1]] false))))))))))) (.region [mvD 45 10,opD 46 (.bin .add (tD 45) (cD 1)),mvD 10 46] [[],[0],[1,0,1]] false))))))) (.region [mvD 41 9,opD 42 (.bin .add (tD 41) (cD 1)),mvD 9 42] [[],[0],[1,0,1]] false)))))) (.seq (.region [mvD 130 8,mvD 131 6,opD 132 (.len false (tD 131)),opD 133 (.bin .eql (tD 130) (tD 132)),mvD 4 133] [[],[],[1],[0,2],[3,0,1,2,3]] false) .ret)))))))
theorem g4 (fu:Nat):(e4 fu).Good Tryd.prog := good_fn orders Tryd.func4 fu (d4 fu) rs4 134 (l := [e6 fu,e12 fu,ePack fu,e13 fu,e7 fu,e10 fu,e9 fu,ePack fu,e14 fu]) ⟨g6 fu,g12 fu,gPack fu,g13 fu,g7 fu,g10 fu,g9 fu,gPack fu,g14 fu,trivial⟩
end Go.Proofs.YtahamggipcikgaaDoor
