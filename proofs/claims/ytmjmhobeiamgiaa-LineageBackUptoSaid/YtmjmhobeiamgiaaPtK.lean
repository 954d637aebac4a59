/-
  The functions, typed, continued.
-/
import Derived.Test.YtmjmhobeiamgiaaPtKA
namespace Go.Proofs.Ytmjmhobeiamgiaa
set_option maxRecDepth 1000000
open Go.RowKit
def rs7:List RVx := [(.tmp 4)]
def p7 (fu:Nat):(Z0)×((ByteArray)×(Unit))→Option ((Unit)×(Bool)) := fun ⟨⟨a,c,f,h,i,j,k,_⟩,l,_⟩ =>
Option.bind (p9 fu ()) fun ⟨_,m⟩ =>
Option.bind (p10 fu ((a,c,f,h,i,j,k,()),l,())) fun ⟨_,⟨⟨n,o,q,_,s,t,u,_⟩,⟨w,x,y,_,z,a0,c0,_⟩,f0,_⟩⟩ =>
bif (f0 != (0:Int)) then
 some ((),m)
else
 bif decide ((IntKind.wrap .u64 (f+(2:Int)))<(2:Int)) then
 some ((),m)
 else
 bif decide (List.length s=List.length s) then
 bif decide (List.length t=List.length t) then
 bif decide (List.length u=List.length u) then
 bif decide (List.length z=List.length z) then
 bif decide (List.length a0=List.length a0) then
 bif decide (List.length c0=List.length c0) then
 Option.bind (p13 fu ((n,o,q,(1:Int),s,t,u,()),(w,x,y,(1:Int),z,a0,c0,()),())) fun ⟨_,⟨⟨h0,i0,_,_,j0,k0,l0,_⟩,m0,_⟩⟩ =>
 bif (m0 != (0:Int)) then
 some ((),false)
 else
 bif !(h0==a && (i0==c && true)) then
 some ((),false)
 else
 bif (((List.length j0):Int) != (List.length i:Int)) then
 some ((),false)
 else
 bif (((List.length k0):Int) != (List.length j:Int)) then
 some ((),false)
 else
 bif (((List.length l0):Int) != (List.length k:Int)) then
 some ((),false)
 else
 loopO (S := ((Int)×(Unit))×(Unit)) fu (fun ⟨⟨n0,_⟩,_⟩ =>
 bif decide (n0<((List.length k0):Int)) then
 bif decide ((0:Int)≤n0∧n0<(List.length k0:Int)) then
 bif decide (Int.toNat n0<List.length k0) then
 bif decide ((0:Int)≤n0∧n0<(List.length j:Int)) then
 bif decide (Int.toNat n0<List.length j) then
 bif (((List.getD k0 (Int.toNat n0) (dflt T_api_Producer)).1) != ((List.getD j (Int.toNat n0) (dflt T_api_Producer)).1)) then
 inrO (some ((),false))
 else
 bif decide ((0:Int)≤n0∧n0<(List.length k0:Int)) then
 bif decide (Int.toNat n0<List.length k0) then
 bif decide ((0:Int)≤n0∧n0<(List.length j:Int)) then
 bif decide (Int.toNat n0<List.length j) then
 bif ((((List.getD k0 (Int.toNat n0) (dflt T_api_Producer)).2).1) != (((List.getD j (Int.toNat n0) (dflt T_api_Producer)).2).1)) then
 inrO (some ((),false))
 else
 bif decide ((0:Int)≤n0∧n0<(List.length k0:Int)) then
 bif decide (Int.toNat n0<List.length k0) then
 bif decide ((0:Int)≤n0∧n0<(List.length j:Int)) then
 bif decide (Int.toNat n0<List.length j) then
 bif !(((((List.getD k0 (Int.toNat n0) (dflt T_api_Producer)).2).2).1)==((((List.getD j (Int.toNat n0) (dflt T_api_Producer)).2).2).1)) then
 inrO (some ((),false))
 else
 some (.inl ((IntKind.wrap .i64 (n0+(1:Int)),()),()))
 else none
 else none
 else none
 else none
 else none
 else none
 else none
 else none
 else none
 else none
 else none
 else none
 else
 inrO (loopO (S := ((Int)×(Unit))×(Unit)) fu (fun ⟨⟨o0,_⟩,_⟩ =>
 bif decide (o0<(List.length k:Int)) then
 bif decide ((0:Int)≤o0∧o0<(List.length l0:Int)) then
 bif decide (Int.toNat o0<List.length l0) then
 bif decide ((0:Int)≤o0∧o0<(List.length k:Int)) then
 bif decide (Int.toNat o0<List.length k) then
 bif !(ByteArray.toList ((List.getD l0 (Int.toNat o0) (dflt T_runtime_errorAddressString)).1)==ByteArray.toList ((List.getD k (Int.toNat o0) (dflt T_runtime_errorAddressString)).1)) then
 inrO (some ((),false))
 else
 bif decide ((0:Int)≤o0∧o0<(List.length l0:Int)) then
 bif decide (Int.toNat o0<List.length l0) then
 bif decide (((List.getD l0 (Int.toNat o0) (dflt T_runtime_errorAddressString)).2)>(IntKind.wrap .u64 ((List.length j0):Int))) then
 inrO (some ((),false))
 else
 bif decide ((0:Int)≤o0∧o0<(List.length l0:Int)) then
 bif decide (Int.toNat o0<List.length l0) then
 bif decide ((0:Int)≤IntKind.wrap .i64 ((List.getD l0 (Int.toNat o0) (dflt T_runtime_errorAddressString)).2)) then
 bif decide (Int.toNat (IntKind.wrap .i64 ((List.getD l0 (Int.toNat o0) (dflt T_runtime_errorAddressString)).2))≤List.length j0∧0+(List.length j0)≤List.length j0) then
 bif decide ((0:Int)≤o0∧o0<(List.length k:Int)) then
 bif decide (Int.toNat o0<List.length k) then
 loopO (S := ((Int)×(Unit))×(Unit)) fu (fun ⟨⟨q0,_⟩,_⟩ =>
 bif decide (q0<(List.length i:Int)) then
 bif decide ((0:Int)≤q0) then
 bif decide ((0:Int)≤IntKind.wrap .i64 (q0+(1:Int))) then
 bif decide (Int.toNat q0≤Int.toNat (IntKind.wrap .i64 (q0+(1:Int)))∧Int.toNat (IntKind.wrap .i64 (q0+(1:Int)))≤List.length i) then
 bif decide ((Int.toNat (IntKind.wrap .i64 ((List.getD l0 (Int.toNat o0) (dflt T_runtime_errorAddressString)).2)))+((List.length j0)-(Int.toNat (IntKind.wrap .i64 ((List.getD l0 (Int.toNat o0) (dflt T_runtime_errorAddressString)).2))))≤List.length j0) then
 Option.bind (p17 fu (slice' i (Int.toNat q0) (some (Int.toNat (IntKind.wrap .i64 (q0+(1:Int))))),sub' j0 (Int.toNat (IntKind.wrap .i64 ((List.getD l0 (Int.toNat o0) (dflt T_runtime_errorAddressString)).2))) ((List.length j0)-(Int.toNat (IntKind.wrap .i64 ((List.getD l0 (Int.toNat o0) (dflt T_runtime_errorAddressString)).2)))),())) fun ⟨_,s0⟩ =>
 bif !s0 then
 inrO (inrO (some ((),false)))
 else
 some (.inl ((IntKind.wrap .i64 (q0+(1:Int)),()),()))
 else none
 else none
 else none
 else none
 else
 inrO (some (.inl ((IntKind.wrap .i64 (o0+(1:Int)),()),()))))
 ((IntKind.wrap .i64 ((List.getD k (Int.toNat o0) (dflt T_runtime_errorAddressString)).2),()),())
 else none
 else none
 else none
 else none
 else none
 else none
 else none
 else none
 else none
 else none
 else none
 else none
 else
 inrO (loopO (S := ((Int)×(Unit))×(Unit)) fu (fun ⟨⟨t0,_⟩,_⟩ =>
 bif decide (t0<(List.length i:Int)) then
 loopO (S := ((List (D_api_Record))×((List (D_api_Record))×((Int)×(Unit))))×(Unit)) fu (fun ⟨⟨u0,w0,x0,_⟩,_⟩ =>
 bif decide (x0<(List.length i:Int)) then
 orK (E := ((List (D_api_Record))×(Unit))×(Unit))
 (bif decide ((0:Int)≤x0∧x0<(List.length i:Int)) then
 bif decide (Int.toNat x0<List.length i) then
 bif decide ((0:Int)≤t0∧t0<(List.length i:Int)) then
 bif decide (Int.toNat t0<List.length i) then
 bif ByteArray.toList (((List.getD i (Int.toNat x0) (dflt T_api_Record)).2).1)==ByteArray.toList (((List.getD i (Int.toNat t0) (dflt T_api_Record)).2).1) then
 bif decide ((0:Int)≤x0∧x0<(List.length i:Int)) then
 bif decide (Int.toNat x0<List.length i) then
 bif decide (List.length u0=List.length u0) then
 bif decide (List.length u0+List.length ([((List.getD i (Int.toNat x0) (dflt T_api_Record)).1,((List.getD i (Int.toNat x0) (dflt T_api_Record)).2).1,(((List.getD i (Int.toNat x0) (dflt T_api_Record)).2).2).1,((((List.getD i (Int.toNat x0) (dflt T_api_Record)).2).2).2).1,((((List.getD i (Int.toNat x0) (dflt T_api_Record)).2).2).2).2)])≤maxLen∧(List.length u0+List.length ([((List.getD i (Int.toNat x0) (dflt T_api_Record)).1,((List.getD i (Int.toNat x0) (dflt T_api_Record)).2).1,(((List.getD i (Int.toNat x0) (dflt T_api_Record)).2).2).1,((((List.getD i (Int.toNat x0) (dflt T_api_Record)).2).2).2).1,((((List.getD i (Int.toNat x0) (dflt T_api_Record)).2).2).2).2)])) * 64≤140737488355328) then
 bif decide (List.length (u0 ++ [((List.getD i (Int.toNat x0) (dflt T_api_Record)).1,((List.getD i (Int.toNat x0) (dflt T_api_Record)).2).1,(((List.getD i (Int.toNat x0) (dflt T_api_Record)).2).2).1,((((List.getD i (Int.toNat x0) (dflt T_api_Record)).2).2).2).1,((((List.getD i (Int.toNat x0) (dflt T_api_Record)).2).2).2).2)])=List.length (u0 ++ [((List.getD i (Int.toNat x0) (dflt T_api_Record)).1,((List.getD i (Int.toNat x0) (dflt T_api_Record)).2).1,(((List.getD i (Int.toNat x0) (dflt T_api_Record)).2).2).1,((((List.getD i (Int.toNat x0) (dflt T_api_Record)).2).2).2).1,((((List.getD i (Int.toNat x0) (dflt T_api_Record)).2).2).2).2)])) then
 some (.inl (((u0 ++ [((List.getD i (Int.toNat x0) (dflt T_api_Record)).1,((List.getD i (Int.toNat x0) (dflt T_api_Record)).2).1,(((List.getD i (Int.toNat x0) (dflt T_api_Record)).2).2).1,((((List.getD i (Int.toNat x0) (dflt T_api_Record)).2).2).2).1,((((List.getD i (Int.toNat x0) (dflt T_api_Record)).2).2).2).2)]),()),()))
 else none
 else none
 else none
 else none
 else none
 else
 bif decide (List.length u0=List.length u0) then
 some (.inl ((u0,()),()))
 else none
 else none
 else none
 else none
 else none)
 fun ⟨⟨u0,_⟩,_⟩ =>
 bif decide ((0:Int)≤x0∧x0<(List.length j0:Int)) then
 bif decide (Int.toNat x0<List.length j0) then
 bif decide ((0:Int)≤t0∧t0<(List.length i:Int)) then
 bif decide (Int.toNat t0<List.length i) then
 bif ByteArray.toList (((List.getD j0 (Int.toNat x0) (dflt T_api_Record)).2).1)==ByteArray.toList (((List.getD i (Int.toNat t0) (dflt T_api_Record)).2).1) then
 bif decide ((0:Int)≤x0∧x0<(List.length j0:Int)) then
 bif decide (Int.toNat x0<List.length j0) then
 bif decide (List.length w0=List.length w0) then
 bif decide (List.length w0+List.length ([((List.getD j0 (Int.toNat x0) (dflt T_api_Record)).1,((List.getD j0 (Int.toNat x0) (dflt T_api_Record)).2).1,(((List.getD j0 (Int.toNat x0) (dflt T_api_Record)).2).2).1,((((List.getD j0 (Int.toNat x0) (dflt T_api_Record)).2).2).2).1,((((List.getD j0 (Int.toNat x0) (dflt T_api_Record)).2).2).2).2)])≤maxLen∧(List.length w0+List.length ([((List.getD j0 (Int.toNat x0) (dflt T_api_Record)).1,((List.getD j0 (Int.toNat x0) (dflt T_api_Record)).2).1,(((List.getD j0 (Int.toNat x0) (dflt T_api_Record)).2).2).1,((((List.getD j0 (Int.toNat x0) (dflt T_api_Record)).2).2).2).1,((((List.getD j0 (Int.toNat x0) (dflt T_api_Record)).2).2).2).2)])) * 64≤140737488355328) then
 bif decide (List.length u0=List.length u0) then
 bif decide (List.length (w0 ++ [((List.getD j0 (Int.toNat x0) (dflt T_api_Record)).1,((List.getD j0 (Int.toNat x0) (dflt T_api_Record)).2).1,(((List.getD j0 (Int.toNat x0) (dflt T_api_Record)).2).2).1,((((List.getD j0 (Int.toNat x0) (dflt T_api_Record)).2).2).2).1,((((List.getD j0 (Int.toNat x0) (dflt T_api_Record)).2).2).2).2)])=List.length (w0 ++ [((List.getD j0 (Int.toNat x0) (dflt T_api_Record)).1,((List.getD j0 (Int.toNat x0) (dflt T_api_Record)).2).1,(((List.getD j0 (Int.toNat x0) (dflt T_api_Record)).2).2).1,((((List.getD j0 (Int.toNat x0) (dflt T_api_Record)).2).2).2).1,((((List.getD j0 (Int.toNat x0) (dflt T_api_Record)).2).2).2).2)])) then
 some (.inl ((u0,(w0 ++ [((List.getD j0 (Int.toNat x0) (dflt T_api_Record)).1,((List.getD j0 (Int.toNat x0) (dflt T_api_Record)).2).1,(((List.getD j0 (Int.toNat x0) (dflt T_api_Record)).2).2).1,((((List.getD j0 (Int.toNat x0) (dflt T_api_Record)).2).2).2).1,((((List.getD j0 (Int.toNat x0) (dflt T_api_Record)).2).2).2).2)]),IntKind.wrap .i64 (x0+(1:Int)),()),()))
 else none
 else none
 else none
 else none
 else none
 else none
 else
 bif decide (List.length u0=List.length u0) then
 bif decide (List.length w0=List.length w0) then
 some (.inl ((u0,w0,IntKind.wrap .i64 (x0+(1:Int)),()),()))
 else none
 else none
 else none
 else none
 else none
 else none
 else
 inrO (bif decide (List.length u0=List.length u0) then
 bif decide (List.length w0=List.length w0) then
 Option.bind (p17 fu (u0,w0,())) fun ⟨_,y0⟩ =>
 bif !y0 then
 inrO (some ((),false))
 else
 bif (((List.length u0):Int) != ((List.length w0):Int)) then
 inrO (some ((),false))
 else
 some (.inl ((IntKind.wrap .i64 (t0+(1:Int)),()),()))
 else none
 else none))
 (([],[],(0:Int),()),())
 else
 inrO (some ((),m)))
 (((0:Int),()),())))
 (((0:Int),()),())))
 (((0:Int),()),())
 else none
 else none
 else none
 else none
 else none
 else none
def e7 (fu:Nat):Ent := ⟨7,(.cons Y3 (.cons (.hole .str) .nil)),.nil,(.hole .bool),p7 fu⟩
def d7 (fu:Nat):DC := (.seq (.region [opD 2 (.box 30 7 (tD 0)),opD 4 (.mov (.const vB))] [[],[]] false) (.seq (.region [oqD 21 (.call 9 []) (.ent (e9 fu)),mvD 5 21] [[],[0,0,0]] false) (.seq (.region [opD 23 (.load true 7 (tD 2)),mvD 24 1,oqD 25 (.call 10 [(tD 23),(tD 24)]) (.ent (e10 fu)),mvD 22 25,opD 26 (.ext (tD 22) 0),opD 27 (.ext (tD 22) 1),opD 28 (.ext (tD 22) 2),opD 6 (.alloc 30 7 [vT,vT,vU,vU,vS,vS,vS]),opD 7 (.alloc 30 7 [vT,vT,vU,vU,vS,vS,vS]),onD (.store 7 (tD 6) (tD 26)),onD (.store 7 (tD 7) (tD 27)),mvD 8 28] [[],[],[0,1],[2],[3],[3],[3],[],[],[7,4,2,0,1,2,3,4,7,8],[8,5,9,0,1,2,3,4,5,7,8,9],[6,10,0,1,2,3,4,5,6,7,8,9,10]] false) (.seq (.seq (.region [mvD 29 8,opD 30 (.bin .neq (tD 29) (cD 0)),mvD 31 30,ogD 32 31 false (.faddr 2 (tD 2)),ogD 33 31 false (.load false 1 (tD 32)),ogD 34 31 false (.bin .add (tD 33) (.const (.int .u64 2))),ogD 35 31 false (.bin .lss (tD 34) (.const (.int .u64 2))),opD 36 (.pick (tD 31) (.const (.bool true)) (tD 35))] [[],[0],[1],[2],[3,2],[4,2],[5,2],[2,6]] false) (.cond (.tmp 36) (.seq (.region [mvD 37 5,mvD 4 37] [[],[0,0]] false) .ret) .skip)) (.seq (.region [opD 38 (.faddr 3 (tD 6)),onD (.store 1 (tD 38) (.const (.int .u64 1)))] [[],[0]] false) (.seq (.region [opD 39 (.faddr 3 (tD 7)),onD (.store 1 (tD 39) (.const (.int .u64 1)))] [[],[0]] false) (.seq (.region [opD 41 (.load true 7 (tD 6)),opD 42 (.load true 7 (tD 7)),oqD 43 (.call 13 [(tD 41),(tD 42)]) (.ent (e13 fu)),mvD 40 43,opD 44 (.ext (tD 40) 0),opD 45 (.ext (tD 40) 1),opD 9 (.alloc 30 7 [vT,vT,vU,vU,vS,vS,vS]),onD (.store 7 (tD 9) (tD 44)),mvD 10 45] [[],[],[0,1],[2],[3],[3],[],[6,4,2,0,1,2,3,4,6],[5,7,0,1,2,3,4,5,6,7]] false) (.seq (.seq (.region [mvD 46 10,opD 47 (.bin .neq (tD 46) (cD 0)),mvD 48 47,ogD 49 48 false (.faddr 0 (tD 9)),ogD 50 48 false (.load true 2 (tD 49)),ogD 51 48 false (.faddr 0 (tD 2)),ogD 52 48 false (.load true 2 (tD 51)),ogD 53 48 false (.seq true [.str,.str] (tD 50) (tD 52)),opD 54 (.pick (tD 48) (.const (.bool true)) (tD 53)),mvD 55 54,ogD 56 55 false (.faddr 4 (tD 9)),ogD 57 55 false (.load false 1 (tD 56)),ogD 58 55 false (.len false (tD 57)),ogD 59 55 false (.faddr 4 (tD 2)),ogD 60 55 false (.load false 1 (tD 59)),ogD 61 55 false (.len false (tD 60)),ogD 62 55 false (.bin .neq (tD 58) (tD 61)),opD 63 (.pick (tD 55) (.const (.bool true)) (tD 62)),mvD 64 63,ogD 65 64 false (.faddr 5 (tD 9)),ogD 66 64 false (.load false 1 (tD 65)),ogD 67 64 false (.len false (tD 66)),ogD 68 64 false (.faddr 5 (tD 2)),ogD 69 64 false (.load false 1 (tD 68)),ogD 70 64 false (.len false (tD 69)),ogD 71 64 false (.bin .neq (tD 67) (tD 70)),opD 72 (.pick (tD 64) (.const (.bool true)) (tD 71)),mvD 73 72,ogD 74 73 false (.faddr 6 (tD 9)),ogD 75 73 false (.load false 1 (tD 74)),ogD 76 73 false (.len false (tD 75)),ogD 77 73 false (.faddr 6 (tD 2)),ogD 78 73 false (.load false 1 (tD 77)),ogD 79 73 false (.len false (tD 78)),ogD 80 73 false (.bin .neq (tD 76) (tD 79)),opD 81 (.pick (tD 73) (.const (.bool true)) (tD 80))] [[],[0],[1],[2],[3,2],[2],[5,2],[4,6,2],[2,7],[8,2],[9],[10,9],[11,9],[9],[13,9],[14,9],[12,15,9],[9,16],[17,9],[18],[19,18],[20,18],[18],[22,18],[23,18],[21,24,18],[18,25],[26,18],[27],[28,27],[29,27],[27],[31,27],[32,27],[30,33,27],[27,34]] false) (.cond (.tmp 81) (.seq (.region [opD 4 (.mov (.const vB))] [[]] false) .ret) .skip)) (.seq (.seq (.region [opD 11 (.mov (cD 0))] [[]] false) (.block 0 (.loop ⟨[11],(.cons (.hole (.int .i64)) .nil),[],.nil,[2,5,9],[0,480,481,482,544]⟩
 (.seq (.seq (.region [mvD 82 11,opD 83 (.faddr 5 (tD 9)),opD 84 (.load false 1 (tD 83)),opD 85 (.len false (tD 84)),opD 86 (.bin .lss (tD 82) (tD 85))] [[],[],[1],[2],[0,3]] false) (.cond (.tmp 86) .skip (.exit 0))) (.seq (.block 1 (.seq (.region [opD 89 (.faddr 5 (tD 9)),opD 90 (.load false 1 (tD 89)),mvD 91 11,opD 92 (.iaddr 4 (tD 90) (tD 91)),opD 93 (.faddr 0 (tD 92)),opD 94 (.load false 1 (tD 93)),opD 95 (.faddr 5 (tD 2)),opD 96 (.load false 1 (tD 95)),mvD 97 11,opD 98 (.iaddr 4 (tD 96) (tD 97)),opD 99 (.faddr 0 (tD 98)),opD 100 (.load false 1 (tD 99)),opD 101 (.bin .neq (tD 94) (tD 100)),mvD 102 101,ogD 103 102 false (.faddr 5 (tD 9)),ogD 104 102 false (.load false 1 (tD 103)),ogD 105 102 false (.mov (tD 11)),ogD 106 102 false (.iaddr 4 (tD 104) (tD 105)),ogD 107 102 false (.faddr 1 (tD 106)),ogD 108 102 false (.load false 1 (tD 107)),ogD 109 102 false (.faddr 5 (tD 2)),ogD 110 102 false (.load false 1 (tD 109)),ogD 111 102 false (.mov (tD 11)),ogD 112 102 false (.iaddr 4 (tD 110) (tD 111)),ogD 113 102 false (.faddr 1 (tD 112)),ogD 114 102 false (.load false 1 (tD 113)),ogD 115 102 false (.bin .neq (tD 108) (tD 114)),opD 116 (.pick (tD 102) (.const (.bool true)) (tD 115)),mvD 117 116,ogD 118 117 false (.faddr 5 (tD 9)),ogD 119 117 false (.load false 1 (tD 118)),ogD 120 117 false (.mov (tD 11)),ogD 121 117 false (.iaddr 4 (tD 119) (tD 120)),ogD 122 117 false (.faddr 2 (tD 121)),ogD 123 117 false (.load false 1 (tD 122)),ogD 124 117 false (.faddr 5 (tD 2)),ogD 125 117 false (.load false 1 (tD 124)),ogD 126 117 false (.mov (tD 11)),ogD 127 117 false (.iaddr 4 (tD 125) (tD 126)),ogD 128 117 false (.faddr 2 (tD 127)),ogD 129 117 false (.load false 1 (tD 128)),ogD 130 117 false (.beq true (tD 123) (tD 129)),opD 131 (.pick (tD 117) (.const (.bool true)) (tD 130))] [[],[0],[],[1,2],[3],[4],[],[6],[],[7,8],[9],[10],[5,11],[12],[13],[14,13],[13],[15,16,13],[17,13],[18,13],[13],[20,13],[13],[21,22,13],[23,13],[24,13],[19,25,13],[13,26],[27,13],[28],[29,28],[28],[30,31,28],[32,28],[33,28],[28],[35,28],[28],[36,37,28],[38,28],[39,28],[34,40,28],[28,41]] true) (.cond (.tmp 131) (.seq (.region [opD 4 (.mov (.const vB))] [[]] false) .ret) .skip))) (.region [mvD 87 11,opD 88 (.bin .add (tD 87) (cD 1)),mvD 11 88] [[],[0],[1,0,1]] false)))))) (.seq (.seq (.region [opD 12 (.mov (cD 0))] [[]] false) (.block 2 (.loop ⟨[12],(.cons (.hole (.int .i64)) .nil),[],.nil,[2,5,9],[0,480,481,482,544]⟩
 (.seq (.seq (.region [mvD 132 12,opD 133 (.faddr 6 (tD 2)),opD 134 (.load false 1 (tD 133)),opD 135 (.len false (tD 134)),opD 136 (.bin .lss (tD 132) (tD 135))] [[],[],[1],[2],[0,3]] false) (.cond (.tmp 136) .skip (.exit 2))) (.seq (.block 3 (.seq (.seq (.region [opD 139 (.faddr 6 (tD 9)),opD 140 (.load false 1 (tD 139)),mvD 141 12,opD 142 (.iaddr 2 (tD 140) (tD 141)),opD 143 (.faddr 0 (tD 142)),opD 144 (.load false 1 (tD 143)),opD 145 (.faddr 6 (tD 2)),opD 146 (.load false 1 (tD 145)),mvD 147 12,opD 148 (.iaddr 2 (tD 146) (tD 147)),opD 149 (.faddr 0 (tD 148)),opD 150 (.load false 1 (tD 149)),opD 151 (.bin .neq (tD 144) (tD 150)),mvD 152 151,ogD 153 152 false (.faddr 6 (tD 9)),ogD 154 152 false (.load false 1 (tD 153)),ogD 155 152 false (.mov (tD 12)),ogD 156 152 false (.iaddr 2 (tD 154) (tD 155)),ogD 157 152 false (.faddr 1 (tD 156)),ogD 158 152 false (.load false 1 (tD 157)),ogD 159 152 false (.faddr 4 (tD 9)),ogD 160 152 false (.load false 1 (tD 159)),ogD 161 152 false (.len false (tD 160)),ogD 162 152 false (.conv .u64 (tD 161)),ogD 163 152 false (.bin .gtr (tD 158) (tD 162)),opD 164 (.pick (tD 152) (.const (.bool true)) (tD 163))] [[],[0],[],[1,2],[3],[4],[],[6],[],[7,8],[9],[10],[5,11],[12],[13],[14,13],[13],[15,16,13],[17,13],[18,13],[13],[20,13],[21,13],[22,13],[19,23,13],[13,24]] true) (.cond (.tmp 164) (.seq (.region [opD 4 (.mov (.const vB))] [[]] false) .ret) .skip)) (.seq (.region [opD 165 (.faddr 4 (tD 9)),opD 166 (.load false 1 (tD 165)),opD 167 (.faddr 6 (tD 9)),opD 168 (.load false 1 (tD 167)),mvD 169 12,opD 170 (.iaddr 2 (tD 168) (tD 169)),opD 171 (.faddr 1 (tD 170)),opD 172 (.load false 1 (tD 171)),opD 173 (.conv .i64 (tD 172)),opD 174 (.slc 5 (tD 166) (some (tD 173)) none),mvD 13 174] [[],[0],[],[2],[],[3,4],[5],[6],[7],[1,8],[9,0,1,2,3,4,5,6,7,8,9]] true) (.seq (.region [opD 175 (.faddr 6 (tD 2)),opD 176 (.load false 1 (tD 175)),mvD 177 12,opD 178 (.iaddr 2 (tD 176) (tD 177)),opD 179 (.faddr 1 (tD 178)),opD 180 (.load false 1 (tD 179)),opD 181 (.conv .i64 (tD 180)),mvD 14 181] [[],[0],[],[1,2],[3],[4],[5],[6,0,1,2,3,4,5,6]] false) (.block 4 (.loop ⟨[14],(.cons (.hole (.int .i64)) .nil),[],.nil,[2,5,9,12,13,163],[0,480,481,482,544]⟩
 (.seq (.seq (.region [mvD 182 14,opD 183 (.faddr 4 (tD 2)),opD 184 (.load false 1 (tD 183)),opD 185 (.len false (tD 184)),opD 186 (.bin .lss (tD 182) (tD 185))] [[],[],[1],[2],[0,3]] false) (.cond (.tmp 186) .skip (.exit 4))) (.seq (.block 5 (.seq (.region [opD 189 (.faddr 4 (tD 2)),opD 190 (.load false 1 (tD 189)),mvD 191 14,mvD 192 14,opD 193 (.bin .add (tD 192) (cD 1)),opD 194 (.slc 5 (tD 190) (some (tD 191)) (some (tD 193))),mvD 195 13,oqD 196 (.call 17 [(tD 194),(tD 195)]) (.ent (e17 fu)),mvD 15 196] [[],[0],[],[],[3],[1,2,4],[],[5,6],[7,7,0,1,2,3,4,5,6,7]] false) (.seq (.region [mvD 197 15,opD 198 (.not (tD 197))] [[],[0]] false) (.cond (.tmp 198) (.seq (.region [opD 4 (.mov (.const vB))] [[]] false) .ret) .skip)))) (.region [mvD 187 14,opD 188 (.bin .add (tD 187) (cD 1)),mvD 14 188] [[],[0],[1,0,1]] false))))))))) (.region [mvD 137 12,opD 138 (.bin .add (tD 137) (cD 1)),mvD 12 138] [[],[0],[1,0,1]] false)))))) (.seq (.seq (.region [opD 16 (.mov (cD 0))] [[]] false) (.block 6 (.loop ⟨[16],(.cons (.hole (.int .i64)) .nil),[],.nil,[2,5,9],[0,480,481,482,544]⟩
 (.seq (.seq (.region [mvD 199 16,opD 200 (.faddr 4 (tD 2)),opD 201 (.load false 1 (tD 200)),opD 202 (.len false (tD 201)),opD 203 (.bin .lss (tD 199) (tD 202))] [[],[],[1],[2],[0,3]] false) (.cond (.tmp 203) .skip (.exit 6))) (.seq (.block 7 (.seq (.region [opD 17 (.mov (.const vS))] [[]] false) (.seq (.region [opD 18 (.mov (.const vS))] [[]] false) (.seq (.seq (.region [opD 19 (.mov (cD 0))] [[]] false) (.block 8 (.loop ⟨[17,18,19],(.cons (.own .own 37 T_api_Record) (.cons (.own .own 37 T_api_Record) (.cons (.hole (.int .i64)) .nil))),[],.nil,[2,5,9,16],[0,480,481,482,544]⟩
 (.seq (.seq (.region [mvD 206 19,opD 207 (.faddr 4 (tD 2)),opD 208 (.load false 1 (tD 207)),opD 209 (.len false (tD 208)),opD 210 (.bin .lss (tD 206) (tD 209))] [[],[],[1],[2],[0,3]] false) (.cond (.tmp 210) .skip (.exit 8))) (.seq (.block 9 (.join ⟨[17],(.cons (.own .own 37 T_api_Record) .nil),[],.nil,[2,5,9,16,18,19],[0,480,481,482,544,1505]⟩
 (.seq (.region [opD 213 (.faddr 4 (tD 2)),opD 214 (.load false 1 (tD 213)),mvD 215 19,opD 216 (.iaddr 5 (tD 214) (tD 215)),opD 217 (.faddr 1 (tD 216)),opD 218 (.load false 1 (tD 217)),opD 219 (.faddr 4 (tD 2)),opD 220 (.load false 1 (tD 219)),mvD 221 16,opD 222 (.iaddr 5 (tD 220) (tD 221)),opD 223 (.faddr 1 (tD 222)),opD 224 (.load false 1 (tD 223)),opD 225 (.bin .eql (tD 218) (tD 224))] [[],[0],[],[1,2],[3],[4],[],[6],[],[7,8],[9],[10],[5,11]] true) (.cond (.tmp 225) (.region [mvD 226 17,opD 227 (.faddr 4 (tD 2)),opD 228 (.load false 1 (tD 227)),mvD 229 19,opD 230 (.iaddr 5 (tD 228) (tD 229)),opD 231 (.load true 5 (tD 230)),oqD 232 (.bslice 37 5 1 [vU,vT,vS,vU,vU] [(0,(tD 231))]) (.ty T_api_Record),oqD 233 (.app 37 5 [vU,vT,vS,vU,vU] 64 (tD 226) (tD 232)) (.ty T_api_Record),mvD 17 233] [[],[],[1],[],[2,3],[4],[5],[0,6],[7,7,0,1,2,3,4,5,6,7]] false) .skip))
 (.seq (.region [opD 234 (.faddr 4 (tD 9)),opD 235 (.load false 1 (tD 234)),mvD 236 19,opD 237 (.iaddr 5 (tD 235) (tD 236)),opD 238 (.faddr 1 (tD 237)),opD 239 (.load false 1 (tD 238)),opD 240 (.faddr 4 (tD 2)),opD 241 (.load false 1 (tD 240)),mvD 242 16,opD 243 (.iaddr 5 (tD 241) (tD 242)),opD 244 (.faddr 1 (tD 243)),opD 245 (.load false 1 (tD 244)),opD 246 (.bin .eql (tD 239) (tD 245))] [[],[0],[],[1,2],[3],[4],[],[6],[],[7,8],[9],[10],[5,11]] true) (.cond (.tmp 246) (.region [mvD 247 18,opD 248 (.faddr 4 (tD 9)),opD 249 (.load false 1 (tD 248)),mvD 250 19,opD 251 (.iaddr 5 (tD 249) (tD 250)),opD 252 (.load true 5 (tD 251)),oqD 253 (.bslice 37 5 1 [vU,vT,vS,vU,vU] [(0,(tD 252))]) (.ty T_api_Record),oqD 254 (.app 37 5 [vU,vT,vS,vU,vU] 64 (tD 247) (tD 253)) (.ty T_api_Record),mvD 18 254] [[],[],[1],[],[2,3],[4],[5],[0,6],[7,7,0,1,2,3,4,5,6,7]] false) .skip)))) (.region [mvD 211 19,opD 212 (.bin .add (tD 211) (cD 1)),mvD 19 212] [[],[0],[1,0,1]] false)))))) (.seq (.region [mvD 255 17,mvD 256 18,oqD 257 (.call 17 [(tD 255),(tD 256)]) (.ent (e17 fu)),mvD 20 257] [[],[],[0,1],[2,2,0,1,2]] false) (.seq (.region [mvD 258 20,opD 259 (.not (tD 258)),mvD 260 259,ogD 261 260 false (.mov (tD 17)),ogD 262 260 false (.len false (tD 261)),ogD 263 260 false (.mov (tD 18)),ogD 264 260 false (.len false (tD 263)),ogD 265 260 false (.bin .neq (tD 262) (tD 264)),opD 266 (.pick (tD 260) (.const (.bool true)) (tD 265))] [[],[0],[1],[2],[3,2],[2],[5,2],[4,6,2],[2,7]] false) (.cond (.tmp 266) (.seq (.region [opD 4 (.mov (.const vB))] [[]] false) .ret) .skip))))))) (.region [mvD 204 16,opD 205 (.bin .add (tD 204) (cD 1)),mvD 16 205] [[],[0],[1,0,1]] false)))))) (.seq (.region [mvD 267 5,mvD 4 267] [[],[0,0]] false) .ret))))))))))))
theorem g7 (fu:Nat):(e7 fu).Good Try.prog := good_fn orders Try.func7 fu (d7 fu) rs7 268 (l := [e9 fu,e10 fu,e13 fu,e17 fu,e17 fu]) ⟨g9 fu,g10 fu,g13 fu,g17 fu,g17 fu,trivial⟩
end Go.Proofs.Ytmjmhobeiamgiaa
