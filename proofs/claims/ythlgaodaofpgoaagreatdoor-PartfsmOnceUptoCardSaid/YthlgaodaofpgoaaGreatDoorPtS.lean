/-
  The functions, typed, continued.
-/
import Derived.Test.YthlgaodaofpgoaaGreatDoorPtSA
namespace Go.Proofs.YthlgaodaofpgoaaGreatDoor
set_option maxRecDepth 1000000
open Go.RowKit
def rs6:List RVx := [(.tmp 4)]
def p6 (fu:Nat):(Z3)×((List (D_api_PartCommand))×(Unit))→Option ((Unit)×(Bool)) := fun ⟨⟨a,c,f,h,i,j,k,_⟩,l,_⟩ =>
Option.bind (p9 fu ()) fun ⟨_,m⟩ =>
Option.bind (p10 fu ((a,c,f,h,i,j,k,()),())) fun ⟨_,n⟩ =>
bif (n != (0:Int)) then
 some ((),m)
else
 loopO (S := ((Int)×(Unit))×((Z3)×(Unit))) fu (fun ⟨⟨o,_⟩,⟨⟨q,s,t,u,w,x,y,_⟩,_⟩⟩ =>
 bif decide (o<(List.length l:Int)) then
 bif decide ((0:Int)≤o∧o<(List.length l:Int)) then
 bif decide (Int.toNat o<List.length l) then
 Option.bind (p14 fu ((q,s,t,u,w,x,y,()),((List.getD l (Int.toNat o) (dflt T_api_PartCommand)).1,((List.getD l (Int.toNat o) (dflt T_api_PartCommand)).2).1,(((List.getD l (Int.toNat o) (dflt T_api_PartCommand)).2).2).1,((((List.getD l (Int.toNat o) (dflt T_api_PartCommand)).2).2).2).1,(((((List.getD l (Int.toNat o) (dflt T_api_PartCommand)).2).2).2).2).1,((((((List.getD l (Int.toNat o) (dflt T_api_PartCommand)).2).2).2).2).2).1,(((((((List.getD l (Int.toNat o) (dflt T_api_PartCommand)).2).2).2).2).2).2).1,((((((((List.getD l (Int.toNat o) (dflt T_api_PartCommand)).2).2).2).2).2).2).2).1,(((((((((List.getD l (Int.toNat o) (dflt T_api_PartCommand)).2).2).2).2).2).2).2).2).1,(((((((((List.getD l (Int.toNat o) (dflt T_api_PartCommand)).2).2).2).2).2).2).2).2).2,()),())) fun ⟨_,⟨⟨z,a0,c0,f0,h0,i0,j0,_⟩,⟨k0,l0,_,_,_⟩,_⟩⟩ =>
 bif decide ((List.length h0:Int)<(List.length w:Int)) then
 inrO (some ((),false))
 else
 bif decide ((List.length h0:Int)>(IntKind.wrap .i64 ((List.length w:Int)+(1:Int)))) then
 inrO (some ((),false))
 else
 loopO (S := ((Int)×(Unit))×(Unit)) fu (fun ⟨⟨m0,_⟩,_⟩ =>
 bif decide (m0<(List.length w:Int)) then
 bif decide ((0:Int)≤m0∧m0<(List.length h0:Int)) then
 bif decide (Int.toNat m0<List.length h0) then
 bif decide ((0:Int)≤m0∧m0<(List.length w:Int)) then
 bif decide (Int.toNat m0<List.length w) then
 bif ((((((List.getD h0 (Int.toNat m0) (dflt T_api_Record)).2).2).2).1) != (((((List.getD w (Int.toNat m0) (dflt T_api_Record)).2).2).2).1)) then
 inrO (inrO (some ((),false)))
 else
 bif decide ((0:Int)≤m0∧m0<(List.length h0:Int)) then
 bif decide (Int.toNat m0<List.length h0) then
 bif decide ((0:Int)≤m0∧m0<(List.length w:Int)) then
 bif decide (Int.toNat m0<List.length w) then
 bif ((((((List.getD h0 (Int.toNat m0) (dflt T_api_Record)).2).2).2).2) != (((((List.getD w (Int.toNat m0) (dflt T_api_Record)).2).2).2).2)) then
 inrO (inrO (some ((),false)))
 else
 bif decide ((0:Int)≤m0∧m0<(List.length h0:Int)) then
 bif decide (Int.toNat m0<List.length h0) then
 bif decide ((0:Int)≤m0∧m0<(List.length w:Int)) then
 bif decide (Int.toNat m0<List.length w) then
 bif !(ByteArray.toList (((List.getD h0 (Int.toNat m0) (dflt T_api_Record)).2).1)==ByteArray.toList (((List.getD w (Int.toNat m0) (dflt T_api_Record)).2).1)) then
 inrO (inrO (some ((),false)))
 else
 bif decide ((0:Int)≤m0∧m0<(List.length h0:Int)) then
 bif decide (Int.toNat m0<List.length h0) then
 bif decide ((0:Int)≤m0∧m0<(List.length w:Int)) then
 bif decide (Int.toNat m0<List.length w) then
 bif !(ByteArray.toList (strOfNums ((((List.getD h0 (Int.toNat m0) (dflt T_api_Record)).2).2).1))==ByteArray.toList (strOfNums ((((List.getD w (Int.toNat m0) (dflt T_api_Record)).2).2).1))) then
 inrO (inrO (some ((),false)))
 else
 bif decide ((0:Int)≤m0∧m0<(List.length h0:Int)) then
 bif decide (Int.toNat m0<List.length h0) then
 bif (((List.getD h0 (Int.toNat m0) (dflt T_api_Record)).1) != (IntKind.wrap .u64 m0)) then
 inrO (inrO (some ((),false)))
 else
 some (.inl ((IntKind.wrap .i64 (m0+(1:Int)),()),()))
 else none
 else none
 else none
 else none
 else none
 else none
 else none
 else none
 else none
 else none
 else none
 else none
 else none
 else none
 else none
 else none
 else none
 else none
 else
 inrO (orK (E := (Unit)×(Unit))
 (orK (E := ((Bool)×(Unit))×(Unit))
 (bif decide ((0:Int)≤o∧o<(List.length l:Int)) then
 bif decide (Int.toNat o<List.length l) then
 bif (((List.getD l (Int.toNat o) (dflt T_api_PartCommand)).1)==(1:Int)) then
 some (.inl (((k0==(0:Int)),()),()))
 else
 some (.inl ((false,()),()))
 else none
 else none)
 fun ⟨⟨n0,_⟩,_⟩ =>
 bif n0 then
 bif decide (l0≥(IntKind.wrap .u64 (List.length h0:Int))) then
 inrO (inrO (some ((),false)))
 else
 bif decide ((0:Int)≤IntKind.wrap .i64 l0∧IntKind.wrap .i64 l0<(List.length h0:Int)) then
 bif decide (Int.toNat (IntKind.wrap .i64 l0)<List.length h0) then
 bif decide ((0:Int)≤o∧o<(List.length l:Int)) then
 bif decide (Int.toNat o<List.length l) then
 bif ((((((List.getD h0 (Int.toNat (IntKind.wrap .i64 l0)) (dflt T_api_Record)).2).2).2).1) != ((((List.getD l (Int.toNat o) (dflt T_api_PartCommand)).2).2).1)) then
 inrO (inrO (some ((),false)))
 else
 bif decide ((0:Int)≤IntKind.wrap .i64 l0∧IntKind.wrap .i64 l0<(List.length h0:Int)) then
 bif decide (Int.toNat (IntKind.wrap .i64 l0)<List.length h0) then
 bif decide ((0:Int)≤o∧o<(List.length l:Int)) then
 bif decide (Int.toNat o<List.length l) then
 bif ((((((List.getD h0 (Int.toNat (IntKind.wrap .i64 l0)) (dflt T_api_Record)).2).2).2).2) != (((((List.getD l (Int.toNat o) (dflt T_api_PartCommand)).2).2).2).1)) then
 inrO (inrO (some ((),false)))
 else
 some (.inl ((),()))
 else none
 else none
 else none
 else none
 else none
 else none
 else none
 else none
 else
 some (.inl ((),())))
 fun ⟨_,_⟩ =>
 bif decide ((0:Int)≤o∧o<(List.length l:Int)) then
 bif decide (Int.toNat o<List.length l) then
 bif decide (List.length i0=List.length i0) then
 bif decide (List.length j0=List.length j0) then
 Option.bind (p14 fu ((z,a0,c0,f0,h0,i0,j0,()),((List.getD l (Int.toNat o) (dflt T_api_PartCommand)).1,((List.getD l (Int.toNat o) (dflt T_api_PartCommand)).2).1,(((List.getD l (Int.toNat o) (dflt T_api_PartCommand)).2).2).1,((((List.getD l (Int.toNat o) (dflt T_api_PartCommand)).2).2).2).1,(((((List.getD l (Int.toNat o) (dflt T_api_PartCommand)).2).2).2).2).1,((((((List.getD l (Int.toNat o) (dflt T_api_PartCommand)).2).2).2).2).2).1,(((((((List.getD l (Int.toNat o) (dflt T_api_PartCommand)).2).2).2).2).2).2).1,((((((((List.getD l (Int.toNat o) (dflt T_api_PartCommand)).2).2).2).2).2).2).2).1,(((((((((List.getD l (Int.toNat o) (dflt T_api_PartCommand)).2).2).2).2).2).2).2).2).1,(((((((((List.getD l (Int.toNat o) (dflt T_api_PartCommand)).2).2).2).2).2).2).2).2).2,()),())) fun ⟨_,⟨⟨o0,q0,s0,t0,u0,w0,x0,_⟩,⟨y0,_,z0,_,_⟩,_⟩⟩ =>
 bif decide (List.length w0=List.length w0) then
 bif decide (List.length x0=List.length x0) then
 bif decide (List.length i0=List.length i0) then
 bif decide (List.length j0=List.length j0) then
 Option.bind (p16 fu ((o0,q0,s0,t0,u0,w0,x0,()),(z,a0,c0,f0,h0,i0,j0,()),())) fun ⟨_,a1⟩ =>
 bif !a1 then
 inrO (some ((),false))
 else
 bif (y0 != k0) then
 inrO (some ((),false))
 else
 bif (k0==(0:Int)) then
 bif decide ((0:Int)≤o∧o<(List.length l:Int)) then
 bif decide (Int.toNat o<List.length l) then
 bif (((List.getD l (Int.toNat o) (dflt T_api_PartCommand)).1)==(3:Int)) then
 bif !z0 then
 inrO (some ((),false))
 else
 bif decide (List.length i0=List.length i0) then
 bif decide (List.length j0=List.length j0) then
 some (.inl ((IntKind.wrap .i64 (o+(1:Int)),()),((z,a0,c0,f0,h0,i0,j0,()),())))
 else none
 else none
 else
 bif decide (List.length i0=List.length i0) then
 bif decide (List.length j0=List.length j0) then
 some (.inl ((IntKind.wrap .i64 (o+(1:Int)),()),((z,a0,c0,f0,h0,i0,j0,()),())))
 else none
 else none
 else none
 else none
 else
 bif decide (List.length i0=List.length i0) then
 bif decide (List.length j0=List.length j0) then
 some (.inl ((IntKind.wrap .i64 (o+(1:Int)),()),((z,a0,c0,f0,h0,i0,j0,()),())))
 else none
 else none
 else none
 else none
 else none
 else none
 else none
 else none
 else none
 else none))
 (((0:Int),()),())
 else none
 else none
 else
 inrO (loopO (S := ((Int)×(Unit))×(Unit)) fu (fun ⟨⟨c1,_⟩,_⟩ =>
 bif decide (c1<(List.length w:Int)) then
 loopO (S := ((Int)×(Unit))×(Unit)) fu (fun ⟨⟨f1,_⟩,_⟩ =>
 bif decide (f1<c1) then
 bif decide ((0:Int)≤c1∧c1<(List.length w:Int)) then
 bif decide (Int.toNat c1<List.length w) then
 bif decide ((0:Int)≤f1∧f1<(List.length w:Int)) then
 bif decide (Int.toNat f1<List.length w) then
 bif ((((((List.getD w (Int.toNat c1) (dflt T_api_Record)).2).2).2).1)==(((((List.getD w (Int.toNat f1) (dflt T_api_Record)).2).2).2).1)) then
 bif decide ((0:Int)≤c1∧c1<(List.length w:Int)) then
 bif decide (Int.toNat c1<List.length w) then
 bif decide ((0:Int)≤f1∧f1<(List.length w:Int)) then
 bif decide (Int.toNat f1<List.length w) then
 bif decide ((((((List.getD w (Int.toNat c1) (dflt T_api_Record)).2).2).2).2)≤(((((List.getD w (Int.toNat f1) (dflt T_api_Record)).2).2).2).2)) then
 inrO (inrO (some ((),false)))
 else
 some (.inl ((IntKind.wrap .i64 (f1+(1:Int)),()),()))
 else none
 else none
 else none
 else none
 else
 some (.inl ((IntKind.wrap .i64 (f1+(1:Int)),()),()))
 else none
 else none
 else none
 else none
 else
 inrO (some (.inl ((IntKind.wrap .i64 (c1+(1:Int)),()),()))))
 (((0:Int),()),())
 else
 inrO (some ((),m)))
 (((0:Int),()),())))
 (((0:Int),()),((a,c,f,h,i,j,k,()),()))
def e6 (fu:Nat):Ent := ⟨6,(.cons Y5 (.cons (.hole (.sl T_api_PartCommand)) .nil)),.nil,(.hole .bool),p6 fu⟩
def d6 (fu:Nat):DC := (.seq (.region [opD 2 (.box 29 7 (tD 0)),opD 4 (.mov (.const vB))] [[],[]] false) (.seq (.region [oqD 15 (.call 9 []) (.ent (e9 fu)),mvD 5 15] [[],[0,0,0]] false) (.seq (.seq (.region [opD 16 (.load true 7 (tD 2)),oqD 17 (.call 10 [(tD 16)]) (.ent (e10 fu)),opD 18 (.bin .neq (tD 17) (cD 0))] [[],[0],[1]] false) (.cond (.tmp 18) (.seq (.region [mvD 19 5,mvD 4 19] [[],[0,0]] false) .ret) .skip)) (.seq (.seq (.region [opD 6 (.mov (cD 0))] [[]] false) (.block 0 (.loop ⟨[6],(.cons (.hole (.int .i64)) .nil),[(0,29,7)],(.cons Y5 .nil),[1,2,5],[]⟩
 (.seq (.seq (.region [mvD 20 6,mvD 21 1,opD 22 (.len false (tD 21)),opD 23 (.bin .lss (tD 20) (tD 22))] [[],[],[1],[0,2]] false) (.cond (.tmp 23) .skip (.exit 0))) (.seq (.block 1 (.seq (.region [opD 27 (.load true 7 (tD 2)),mvD 28 1,mvD 29 6,opD 30 (.iaddr 10 (tD 28) (tD 29)),opD 31 (.load true 10 (tD 30)),oqD 32 (.call 14 [(tD 27),(tD 31)]) (.ent (e14 fu)),mvD 26 32,opD 33 (.ext (tD 26) 0),opD 34 (.ext (tD 26) 1),opD 7 (.alloc 29 7 [vT,vT,vU,vU,vS,vS,vS]),opD 8 (.alloc 39 4 [vI,vU,vB,vS]),onD (.store 7 (tD 7) (tD 33)),onD (.store 4 (tD 8) (tD 34))] [[],[],[],[1,2],[3],[0,4],[5],[6],[6],[],[],[9,7,5,0,1,2,3,4,5,6,7,9,10],[10,8,11,0,1,2,3,4,5,6,7,8,9,10,11]] true) (.seq (.seq (.region [opD 35 (.faddr 4 (tD 7)),opD 36 (.load false 1 (tD 35)),opD 37 (.len false (tD 36)),opD 38 (.faddr 4 (tD 2)),opD 39 (.load false 1 (tD 38)),opD 40 (.len false (tD 39)),opD 41 (.bin .lss (tD 37) (tD 40)),mvD 42 41,ogD 43 42 false (.faddr 4 (tD 7)),ogD 44 42 false (.load false 1 (tD 43)),ogD 45 42 false (.len false (tD 44)),ogD 46 42 false (.faddr 4 (tD 2)),ogD 47 42 false (.load false 1 (tD 46)),ogD 48 42 false (.len false (tD 47)),ogD 49 42 false (.bin .add (tD 48) (cD 1)),ogD 50 42 false (.bin .gtr (tD 45) (tD 49)),opD 51 (.pick (tD 42) (.const (.bool true)) (tD 50))] [[],[0],[1],[],[3],[4],[2,5],[6],[7],[8,7],[9,7],[7],[11,7],[12,7],[13,7],[10,14,7],[7,15]] false) (.cond (.tmp 51) (.seq (.region [opD 4 (.mov (.const vB))] [[]] false) .ret) .skip)) (.seq (.seq (.region [opD 9 (.mov (cD 0))] [[]] false) (.block 2 (.loop ⟨[9],(.cons (.hole (.int .i64)) .nil),[],.nil,[1,2,5,6,7,8,50],[0,272,273,274,336,352]⟩
 (.seq (.seq (.region [mvD 52 9,opD 53 (.faddr 4 (tD 2)),opD 54 (.load false 1 (tD 53)),opD 55 (.len false (tD 54)),opD 56 (.bin .lss (tD 52) (tD 55))] [[],[],[1],[2],[0,3]] false) (.cond (.tmp 56) .skip (.exit 2))) (.seq (.block 3 (.seq (.region [opD 59 (.faddr 4 (tD 7)),opD 60 (.load false 1 (tD 59)),mvD 61 9,opD 62 (.iaddr 5 (tD 60) (tD 61)),opD 63 (.faddr 3 (tD 62)),opD 64 (.load false 1 (tD 63)),opD 65 (.faddr 4 (tD 2)),opD 66 (.load false 1 (tD 65)),mvD 67 9,opD 68 (.iaddr 5 (tD 66) (tD 67)),opD 69 (.faddr 3 (tD 68)),opD 70 (.load false 1 (tD 69)),opD 71 (.bin .neq (tD 64) (tD 70)),mvD 72 71,ogD 73 72 false (.faddr 4 (tD 7)),ogD 74 72 false (.load false 1 (tD 73)),ogD 75 72 false (.mov (tD 9)),ogD 76 72 false (.iaddr 5 (tD 74) (tD 75)),ogD 77 72 false (.faddr 4 (tD 76)),ogD 78 72 false (.load false 1 (tD 77)),ogD 79 72 false (.faddr 4 (tD 2)),ogD 80 72 false (.load false 1 (tD 79)),ogD 81 72 false (.mov (tD 9)),ogD 82 72 false (.iaddr 5 (tD 80) (tD 81)),ogD 83 72 false (.faddr 4 (tD 82)),ogD 84 72 false (.load false 1 (tD 83)),ogD 85 72 false (.bin .neq (tD 78) (tD 84)),opD 86 (.pick (tD 72) (.const (.bool true)) (tD 85)),mvD 87 86,ogD 88 87 false (.faddr 4 (tD 7)),ogD 89 87 false (.load false 1 (tD 88)),ogD 90 87 false (.mov (tD 9)),ogD 91 87 false (.iaddr 5 (tD 89) (tD 90)),ogD 92 87 false (.faddr 1 (tD 91)),ogD 93 87 false (.load false 1 (tD 92)),ogD 94 87 false (.faddr 4 (tD 2)),ogD 95 87 false (.load false 1 (tD 94)),ogD 96 87 false (.mov (tD 9)),ogD 97 87 false (.iaddr 5 (tD 95) (tD 96)),ogD 98 87 false (.faddr 1 (tD 97)),ogD 99 87 false (.load false 1 (tD 98)),ogD 100 87 false (.bin .neq (tD 93) (tD 99)),opD 101 (.pick (tD 87) (.const (.bool true)) (tD 100)),mvD 102 101,ogD 103 102 false (.faddr 4 (tD 7)),ogD 104 102 false (.load false 1 (tD 103)),ogD 105 102 false (.mov (tD 9)),ogD 106 102 false (.iaddr 5 (tD 104) (tD 105)),ogD 107 102 false (.faddr 2 (tD 106)),ogD 108 102 false (.load false 1 (tD 107)),ogD 109 102 false (.b2s (tD 108)),ogD 110 102 false (.faddr 4 (tD 2)),ogD 111 102 false (.load false 1 (tD 110)),ogD 112 102 false (.mov (tD 9)),ogD 113 102 false (.iaddr 5 (tD 111) (tD 112)),ogD 114 102 false (.faddr 2 (tD 113)),ogD 115 102 false (.load false 1 (tD 114)),ogD 116 102 false (.b2s (tD 115)),ogD 117 102 false (.bin .neq (tD 109) (tD 116)),opD 118 (.pick (tD 102) (.const (.bool true)) (tD 117)),mvD 119 118,ogD 120 119 false (.faddr 4 (tD 7)),ogD 121 119 false (.load false 1 (tD 120)),ogD 122 119 false (.mov (tD 9)),ogD 123 119 false (.iaddr 5 (tD 121) (tD 122)),ogD 124 119 false (.faddr 0 (tD 123)),ogD 125 119 false (.load false 1 (tD 124)),ogD 126 119 false (.mov (tD 9)),ogD 127 119 false (.conv .u64 (tD 126)),ogD 128 119 false (.bin .neq (tD 125) (tD 127)),opD 129 (.pick (tD 119) (.const (.bool true)) (tD 128))] [[],[0],[],[1,2],[3],[4],[],[6],[],[7,8],[9],[10],[5,11],[12],[13],[14,13],[13],[15,16,13],[17,13],[18,13],[13],[20,13],[13],[21,22,13],[23,13],[24,13],[19,25,13],[13,26],[27,13],[28],[29,28],[28],[30,31,28],[32,28],[33,28],[28],[35,28],[28],[36,37,28],[38,28],[39,28],[34,40,28],[28,41],[42,28],[43],[44,43],[43],[45,46,43],[47,43],[48,43],[49,43],[43],[51,43],[43],[52,53,43],[54,43],[55,43],[56,43],[50,57,43],[43,58],[59,43],[60],[61,60],[60],[62,63,60],[64,60],[65,60],[60],[67,60],[66,68,60],[60,69]] true) (.cond (.tmp 129) (.seq (.region [opD 4 (.mov (.const vB))] [[]] false) .ret) .skip))) (.region [mvD 57 9,opD 58 (.bin .add (tD 57) (cD 1)),mvD 9 58] [[],[0],[1,0,1]] false)))))) (.join ⟨[],.nil,[],.nil,[1,2,5,6,7,8,50],[0,272,273,274,336,352]⟩
 (.join ⟨[140],(.cons (.hole .bool) .nil),[],.nil,[1,2,5,6,7,8,50],[0,272,273,274,336,352]⟩
 (.region [mvD 130 1,mvD 131 6,opD 132 (.iaddr 10 (tD 130) (tD 131)),opD 133 (.faddr 0 (tD 132)),opD 134 (.load false 1 (tD 133)),opD 135 (.bin .eql (tD 134) (cD 1)),mvD 136 135,ogD 137 136 true (.faddr 0 (tD 8)),ogD 138 136 true (.load false 1 (tD 137)),ogD 139 136 true (.bin .eql (tD 138) (cD 0)),opD 140 (.pick (tD 136) (tD 139) (.const vB))] [[],[],[0,1],[2],[3],[4],[5],[6],[7,6],[8,6],[6,9]] false)
 (.cond (.tmp 140) (.seq (.region [opD 141 (.faddr 1 (tD 8)),opD 142 (.load false 1 (tD 141)),opD 143 (.faddr 4 (tD 7)),opD 144 (.load false 1 (tD 143)),opD 145 (.len false (tD 144)),opD 146 (.conv .u64 (tD 145)),opD 147 (.bin .geq (tD 142) (tD 146)),mvD 148 147,ogD 149 148 false (.faddr 4 (tD 7)),ogD 150 148 false (.load false 1 (tD 149)),ogD 151 148 false (.faddr 1 (tD 8)),ogD 152 148 false (.load false 1 (tD 151)),ogD 153 148 false (.conv .i64 (tD 152)),ogD 154 148 false (.iaddr 5 (tD 150) (tD 153)),ogD 155 148 false (.faddr 3 (tD 154)),ogD 156 148 false (.load false 1 (tD 155)),ogD 157 148 false (.mov (tD 1)),ogD 158 148 false (.mov (tD 6)),ogD 159 148 false (.iaddr 10 (tD 157) (tD 158)),ogD 160 148 false (.faddr 2 (tD 159)),ogD 161 148 false (.load false 1 (tD 160)),ogD 162 148 false (.bin .neq (tD 156) (tD 161)),opD 163 (.pick (tD 148) (.const (.bool true)) (tD 162)),mvD 164 163,ogD 165 164 false (.faddr 4 (tD 7)),ogD 166 164 false (.load false 1 (tD 165)),ogD 167 164 false (.faddr 1 (tD 8)),ogD 168 164 false (.load false 1 (tD 167)),ogD 169 164 false (.conv .i64 (tD 168)),ogD 170 164 false (.iaddr 5 (tD 166) (tD 169)),ogD 171 164 false (.faddr 4 (tD 170)),ogD 172 164 false (.load false 1 (tD 171)),ogD 173 164 false (.mov (tD 1)),ogD 174 164 false (.mov (tD 6)),ogD 175 164 false (.iaddr 10 (tD 173) (tD 174)),ogD 176 164 false (.faddr 3 (tD 175)),ogD 177 164 false (.load false 1 (tD 176)),ogD 178 164 false (.bin .neq (tD 172) (tD 177)),opD 179 (.pick (tD 164) (.const (.bool true)) (tD 178))] [[],[0],[],[2],[3],[4],[1,5],[6],[7],[8,7],[7],[10,7],[11,7],[9,12,7],[13,7],[14,7],[7],[7],[16,17,7],[18,7],[19,7],[15,20,7],[7,21],[22,7],[23],[24,23],[23],[26,23],[27,23],[25,28,23],[29,23],[30,23],[23],[23],[32,33,23],[34,23],[35,23],[31,36,23],[23,37]] true) (.cond (.tmp 179) (.seq (.region [opD 4 (.mov (.const vB))] [[]] false) .ret) .skip)) .skip))
 (.seq (.region [opD 181 (.load true 7 (tD 7)),mvD 182 1,mvD 183 6,opD 184 (.iaddr 10 (tD 182) (tD 183)),opD 185 (.load true 10 (tD 184)),oqD 186 (.call 14 [(tD 181),(tD 185)]) (.ent (e14 fu)),mvD 180 186,opD 187 (.ext (tD 180) 0),opD 188 (.ext (tD 180) 1),opD 10 (.alloc 29 7 [vT,vT,vU,vU,vS,vS,vS]),opD 11 (.alloc 39 4 [vI,vU,vB,vS]),onD (.store 7 (tD 10) (tD 187)),onD (.store 4 (tD 11) (tD 188))] [[],[],[],[1,2],[3],[0,4],[5],[6],[6],[],[],[9,7,5,0,1,2,3,4,5,6,7,9,10],[10,8,11,0,1,2,3,4,5,6,7,8,9,10,11]] true) (.seq (.region [opD 189 (.load true 7 (tD 10)),opD 190 (.load true 7 (tD 7)),oqD 191 (.call 16 [(tD 189),(tD 190)]) (.ent (e16 fu)),mvD 12 191] [[],[],[0,1],[2,2,0,1,2]] false) (.seq (.seq (.region [mvD 192 12,opD 193 (.not (tD 192)),mvD 194 193,ogD 195 194 false (.faddr 0 (tD 11)),ogD 196 194 false (.load false 1 (tD 195)),ogD 197 194 false (.faddr 0 (tD 8)),ogD 198 194 false (.load false 1 (tD 197)),ogD 199 194 false (.bin .neq (tD 196) (tD 198)),opD 200 (.pick (tD 194) (.const (.bool true)) (tD 199)),mvD 201 200,ogD 202 201 false (.faddr 0 (tD 8)),ogD 203 201 false (.load false 1 (tD 202)),ogD 204 201 false (.bin .eql (tD 203) (cD 0)),ogD 205 201 false (.mov (tD 204)),ogD 206 205 true (.mov (tD 1)),ogD 207 205 true (.mov (tD 6)),ogD 208 205 true (.iaddr 10 (tD 206) (tD 207)),ogD 209 205 true (.faddr 0 (tD 208)),ogD 210 205 true (.load false 1 (tD 209)),ogD 211 205 true (.bin .eql (tD 210) (cD 3)),ogD 212 201 false (.pick (tD 205) (tD 211) (.const vB)),ogD 213 201 false (.mov (tD 212)),ogD 214 213 true (.faddr 2 (tD 11)),ogD 215 213 true (.load false 1 (tD 214)),ogD 216 213 true (.not (tD 215)),ogD 217 201 false (.pick (tD 213) (tD 216) (.const vB)),opD 218 (.pick (tD 201) (.const (.bool true)) (tD 217))] [[],[0],[1],[2],[3,2],[2],[5,2],[4,6,2],[2,7],[8,2],[9],[10,9],[11,9],[12,9,9],[13],[13],[14,15,13],[16,13],[17,13],[18,13],[13,19,9],[20,13,9],[21],[22,21],[23,21],[21,24,9],[9,25]] false) (.cond (.tmp 218) (.seq (.region [opD 4 (.mov (.const vB))] [[]] false) .ret) .skip)) (.region [opD 219 (.load true 7 (tD 7)),onD (.store 7 (tD 2) (tD 219))] [[],[0,0]] false))))))))) (.region [mvD 24 6,opD 25 (.bin .add (tD 24) (cD 1)),mvD 6 25] [[],[0],[1,0,1]] false)))))) (.seq (.seq (.region [opD 13 (.mov (cD 0))] [[]] false) (.block 4 (.loop ⟨[13],(.cons (.hole (.int .i64)) .nil),[],.nil,[2,5],[0]⟩
 (.seq (.seq (.region [mvD 220 13,opD 221 (.faddr 4 (tD 2)),opD 222 (.load false 1 (tD 221)),opD 223 (.len false (tD 222)),opD 224 (.bin .lss (tD 220) (tD 223))] [[],[],[1],[2],[0,3]] false) (.cond (.tmp 224) .skip (.exit 4))) (.seq (.block 5 (.seq (.region [opD 14 (.mov (cD 0))] [[]] false) (.block 6 (.loop ⟨[14],(.cons (.hole (.int .i64)) .nil),[],.nil,[2,5,13],[0]⟩
 (.seq (.seq (.region [mvD 227 14,mvD 228 13,opD 229 (.bin .lss (tD 227) (tD 228))] [[],[],[0,1]] false) (.cond (.tmp 229) .skip (.exit 6))) (.seq (.block 7 (.seq (.region [opD 232 (.faddr 4 (tD 2)),opD 233 (.load false 1 (tD 232)),mvD 234 13,opD 235 (.iaddr 5 (tD 233) (tD 234)),opD 236 (.faddr 3 (tD 235)),opD 237 (.load false 1 (tD 236)),opD 238 (.faddr 4 (tD 2)),opD 239 (.load false 1 (tD 238)),mvD 240 14,opD 241 (.iaddr 5 (tD 239) (tD 240)),opD 242 (.faddr 3 (tD 241)),opD 243 (.load false 1 (tD 242)),opD 244 (.bin .eql (tD 237) (tD 243)),mvD 245 244,ogD 246 245 true (.faddr 4 (tD 2)),ogD 247 245 true (.load false 1 (tD 246)),ogD 248 245 true (.mov (tD 13)),ogD 249 245 true (.iaddr 5 (tD 247) (tD 248)),ogD 250 245 true (.faddr 4 (tD 249)),ogD 251 245 true (.load false 1 (tD 250)),ogD 252 245 true (.faddr 4 (tD 2)),ogD 253 245 true (.load false 1 (tD 252)),ogD 254 245 true (.mov (tD 14)),ogD 255 245 true (.iaddr 5 (tD 253) (tD 254)),ogD 256 245 true (.faddr 4 (tD 255)),ogD 257 245 true (.load false 1 (tD 256)),ogD 258 245 true (.bin .leq (tD 251) (tD 257)),opD 259 (.pick (tD 245) (tD 258) (.const vB))] [[],[0],[],[1,2],[3],[4],[],[6],[],[7,8],[9],[10],[5,11],[12],[13],[14,13],[13],[15,16,13],[17,13],[18,13],[13],[20,13],[13],[21,22,13],[23,13],[24,13],[19,25,13],[13,26]] true) (.cond (.tmp 259) (.seq (.region [opD 4 (.mov (.const vB))] [[]] false) .ret) .skip))) (.region [mvD 230 14,opD 231 (.bin .add (tD 230) (cD 1)),mvD 14 231] [[],[0],[1,0,1]] false))))))) (.region [mvD 225 13,opD 226 (.bin .add (tD 225) (cD 1)),mvD 13 226] [[],[0],[1,0,1]] false)))))) (.seq (.region [mvD 260 5,mvD 4 260] [[],[0,0]] false) .ret))))))
theorem v6 (fu:Nat):evF fu (d6 fu) rs6 261 (e6 fu).ash (e6 fu).osh (e6 fu).vsh=p6 fu := by kernel_rfl
theorem b6 (fu:Nat):BodyD Tryz.prog 6 261 (d6 fu).erase rs6 := bodyD_mk Tryz.func6 (by kernel_rfl) (by kernel_rfl) (by kernel_rfl) (by kernel_rfl)
theorem g6 (fu:Nat):(e6 fu).Good Tryz.prog := good_by orders (b6 fu) (l := [e9 fu,e10 fu,e14 fu,e14 fu,e16 fu]) (by kernel_rfl) ⟨g9 fu,g10 fu,g14 fu,g14 fu,g16 fu,trivial⟩ (by kernel_rfl) (v6 fu)
end Go.Proofs.YthlgaodaofpgoaaGreatDoor
