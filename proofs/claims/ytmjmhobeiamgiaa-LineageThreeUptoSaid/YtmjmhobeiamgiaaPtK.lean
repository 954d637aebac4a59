/-
  The functions, typed, continued.
-/
import Derived.Test.YtmjmhobeiamgiaaPtKA
namespace Go.Proofs.Ytmjmhobeiamgiaa
set_option maxRecDepth 1000000
open Go.RowKit
def rs8:List RVx := [(.tmp 6)]
def p8 (fu:Nat):(Z0)×((ByteArray)×((ByteArray)×(Unit)))→Option ((Unit)×(Bool)) := fun ⟨⟨a,c,f,h,i,j,k,_⟩,l,m,_⟩ =>
Option.bind (p9 fu ()) fun ⟨_,n⟩ =>
Option.bind (p10 fu ((a,c,f,h,i,j,k,()),(smm false l m),())) fun ⟨_,⟨⟨_,_,_,_,_,_,_,_⟩,⟨o,q,s,_,t,u,w,_⟩,x,_⟩⟩ =>
Option.bind (p10 fu ((a,c,f,h,i,j,k,()),(smm true l m),())) fun ⟨_,⟨⟨y,z,a0,_,c0,f0,h0,_⟩,⟨_,_,_,_,_,_,_,_⟩,i0,_⟩⟩ =>
bif (x != (0:Int)) then
 some ((),n)
else
 bif (i0 != (0:Int)) then
 some ((),n)
 else
 bif decide (List.length t=List.length t) then
 bif decide (List.length u=List.length u) then
 bif decide (List.length w=List.length w) then
 Option.bind (p10 fu ((o,q,s,(1:Int),t,u,w,()),(smm true l m),())) fun ⟨_,⟨⟨j0,k0,l0,m0,n0,o0,q0,_⟩,⟨_,_,_,_,_,_,_,_⟩,s0,_⟩⟩ =>
 bif decide (List.length c0=List.length c0) then
 bif decide (List.length f0=List.length f0) then
 bif decide (List.length h0=List.length h0) then
 Option.bind (p10 fu ((y,z,a0,(1:Int),c0,f0,h0,()),(smm false l m),())) fun ⟨_,⟨⟨_,_,_,_,_,_,_,_⟩,⟨t0,u0,w0,x0,y0,z0,a1,_⟩,c1,_⟩⟩ =>
 bif n then
 bif (s0==c1) then
 bif decide (List.length n0=List.length n0) then
 bif decide (List.length o0=List.length o0) then
 bif decide (List.length q0=List.length q0) then
 bif decide (List.length y0=List.length y0) then
 bif decide (List.length z0=List.length z0) then
 bif decide (List.length a1=List.length a1) then
 Option.bind (p12 fu ((j0,k0,l0,m0,n0,o0,q0,()),(t0,u0,w0,x0,y0,z0,a1,()),())) fun ⟨_,f1⟩ =>
 bif f1 then
 bif (s0==(0:Int)) then
 some ((),true)
 else
 bif ByteArray.toList (smm false l m)==ByteArray.toList (smm true l m) then
 some ((),true)
 else
 some ((),((IntKind.wrap .u64 (f+(2:Int)))==(0:Int)))
 else
 some ((),false)
 else none
 else none
 else none
 else none
 else none
 else none
 else
 some ((),false)
 else
 some ((),false)
 else none
 else none
 else none
 else none
 else none
 else none
def e8 (fu:Nat):Ent := ⟨8,(.cons Y3 (.cons (.hole .str) (.cons (.hole .str) .nil))),.nil,(.hole .bool),p8 fu⟩
def d8 (fu:Nat):DC := (.seq (.region [opD 3 (.box 30 7 (tD 0)),opD 6 (.mov (.const vB))] [[],[]] false) (.seq (.region [oqD 22 (.call 9 []) (.ent (e9 fu)),mvD 7 22] [[],[0,0,0]] false) (.seq (.region [mvD 23 1,mvD 24 2,opD 25 (.mm false (tD 23) (tD 24)),mvD 8 25] [[],[],[0,1],[2,0,1,2]] false) (.seq (.region [mvD 26 1,mvD 27 2,opD 28 (.mm true (tD 26) (tD 27)),mvD 9 28] [[],[],[0,1],[2,0,1,2]] false) (.seq (.region [opD 30 (.load true 7 (tD 3)),mvD 31 8,oqD 32 (.call 10 [(tD 30),(tD 31)]) (.ent (e10 fu)),mvD 29 32,opD 33 (.ext (tD 29) 0),opD 34 (.ext (tD 29) 1),opD 35 (.ext (tD 29) 2),opD 10 (.alloc 30 7 [vT,vT,vU,vU,vS,vS,vS]),opD 11 (.alloc 30 7 [vT,vT,vU,vU,vS,vS,vS]),onD (.store 7 (tD 10) (tD 33)),onD (.store 7 (tD 11) (tD 34)),mvD 12 35] [[],[],[0,1],[2],[3],[3],[3],[],[],[7,4,2,0,1,2,3,4,7,8],[8,5,9,0,1,2,3,4,5,7,8,9],[6,10,0,1,2,3,4,5,6,7,8,9,10]] false) (.seq (.region [opD 37 (.load true 7 (tD 3)),mvD 38 9,oqD 39 (.call 10 [(tD 37),(tD 38)]) (.ent (e10 fu)),mvD 36 39,opD 40 (.ext (tD 36) 0),opD 41 (.ext (tD 36) 1),opD 42 (.ext (tD 36) 2),opD 13 (.alloc 30 7 [vT,vT,vU,vU,vS,vS,vS]),opD 14 (.alloc 30 7 [vT,vT,vU,vU,vS,vS,vS]),onD (.store 7 (tD 13) (tD 40)),onD (.store 7 (tD 14) (tD 41)),mvD 15 42] [[],[],[0,1],[2],[3],[3],[3],[],[],[7,4,2,0,1,2,3,4,7,8],[8,5,9,0,1,2,3,4,5,7,8,9],[6,10,0,1,2,3,4,5,6,7,8,9,10]] false) (.seq (.region [opD 43 (.faddr 3 (tD 11)),onD (.store 1 (tD 43) (.const (.int .u64 1)))] [[],[0]] false) (.seq (.region [opD 44 (.faddr 3 (tD 13)),onD (.store 1 (tD 44) (.const (.int .u64 1)))] [[],[0]] false) (.seq (.seq (.region [mvD 45 12,opD 46 (.bin .neq (tD 45) (cD 0)),mvD 47 46,ogD 48 47 false (.mov (tD 15)),ogD 49 47 false (.bin .neq (tD 48) (cD 0)),opD 50 (.pick (tD 47) (.const (.bool true)) (tD 49))] [[],[0],[1],[2],[3,2],[2,4]] false) (.cond (.tmp 50) (.seq (.region [mvD 51 7,mvD 6 51] [[],[0,0]] false) .ret) .skip)) (.seq (.region [opD 53 (.load true 7 (tD 11)),mvD 54 9,oqD 55 (.call 10 [(tD 53),(tD 54)]) (.ent (e10 fu)),mvD 52 55,opD 56 (.ext (tD 52) 0),opD 57 (.ext (tD 52) 1),opD 58 (.ext (tD 52) 2),opD 16 (.alloc 30 7 [vT,vT,vU,vU,vS,vS,vS]),opD 17 (.alloc 30 7 [vT,vT,vU,vU,vS,vS,vS]),onD (.store 7 (tD 16) (tD 56)),onD (.store 7 (tD 17) (tD 57)),mvD 18 58] [[],[],[0,1],[2],[3],[3],[3],[],[],[7,4,2,0,1,2,3,4,7,8],[8,5,9,0,1,2,3,4,5,7,8,9],[6,10,0,1,2,3,4,5,6,7,8,9,10]] false) (.seq (.region [opD 60 (.load true 7 (tD 13)),mvD 61 8,oqD 62 (.call 10 [(tD 60),(tD 61)]) (.ent (e10 fu)),mvD 59 62,opD 63 (.ext (tD 59) 0),opD 64 (.ext (tD 59) 1),opD 65 (.ext (tD 59) 2),opD 19 (.alloc 30 7 [vT,vT,vU,vU,vS,vS,vS]),opD 20 (.alloc 30 7 [vT,vT,vU,vU,vS,vS,vS]),onD (.store 7 (tD 19) (tD 63)),onD (.store 7 (tD 20) (tD 64)),mvD 21 65] [[],[],[0,1],[2],[3],[3],[3],[],[],[7,4,2,0,1,2,3,4,7,8],[8,5,9,0,1,2,3,4,5,7,8,9],[6,10,0,1,2,3,4,5,6,7,8,9,10]] false) (.seq (.region [mvD 66 7,mvD 67 66,ogD 68 67 true (.mov (tD 18)),ogD 69 67 true (.mov (tD 21)),ogD 70 67 true (.bin .eql (tD 68) (tD 69)),opD 71 (.pick (tD 67) (tD 70) (.const vB)),mvD 72 71,ogD 73 72 true (.load true 7 (tD 16)),ogD 74 72 true (.load true 7 (tD 20)),(⟨(some 75),(some (72,true)),(.call 12 [(tD 73),(tD 74)])⟩,(.ent (e12 fu))),opD 76 (.pick (tD 72) (tD 75) (.const vB)),mvD 77 76,ogD 78 77 true (.mov (tD 18)),ogD 79 77 true (.bin .eql (tD 78) (cD 0)),ogD 80 77 true (.mov (tD 79)),ogD 81 80 false (.mov (tD 8)),ogD 82 80 false (.mov (tD 9)),ogD 83 80 false (.bin .eql (tD 81) (tD 82)),ogD 84 77 true (.pick (tD 80) (.const (.bool true)) (tD 83)),ogD 85 77 true (.mov (tD 84)),ogD 86 85 false (.faddr 2 (tD 3)),ogD 87 85 false (.load false 1 (tD 86)),ogD 88 85 false (.bin .add (tD 87) (.const (.int .u64 2))),ogD 89 85 false (.bin .eql (tD 88) (.const vU)),ogD 90 77 true (.pick (tD 85) (.const (.bool true)) (tD 89)),opD 91 (.pick (tD 77) (tD 90) (.const vB)),mvD 6 91] [[],[0],[1],[1],[2,3,1],[1,4],[5,1],[6],[6],[7,8,6,6],[6,9],[10,9],[11],[12,11],[13,11,11],[14],[14],[15,16,14],[14,17,11],[18,14,11],[19],[20,19],[21,19],[22,19],[19,23,11],[11,24],[25,19,0,1,2,3,4,5,6,7,8,9,10,11,12,13,14,15,16,17,18,19,20,21,22,23,24,25]] false) .ret))))))))))))
theorem g8 (fu:Nat):(e8 fu).Good Try.prog := good_fn orders Try.func8 fu (d8 fu) rs8 92 (l := [e9 fu,e10 fu,e10 fu,e10 fu,e10 fu,e12 fu]) ⟨g9 fu,g10 fu,g10 fu,g10 fu,g10 fu,g12 fu,trivial⟩
end Go.Proofs.Ytmjmhobeiamgiaa
