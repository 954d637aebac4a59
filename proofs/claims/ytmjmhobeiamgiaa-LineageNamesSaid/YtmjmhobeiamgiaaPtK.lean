/-
  The functions, typed, continued.
-/
import Derived.Test.YtmjmhobeiamgiaaPtKA
namespace Go.Proofs.Ytmjmhobeiamgiaa
set_option maxRecDepth 1000000
open Go.RowKit
def p7 (fu:Nat):(Z0)×((ByteArray)×(Unit))→Option ((Unit)×(Bool)) := fun ⟨⟨a,c,f,h,i,j,k,_⟩,l,_⟩ =>
Option.bind (p9 fu ()) fun ⟨_,m⟩ =>
Option.bind (p10 fu ((a,c,f,h,i,j,k,()),l,())) fun ⟨_,⟨⟨n,o,q,_,s,t,u,_⟩,⟨w,x,y,_,z,a0,c0,_⟩,f0,_⟩⟩ =>
bif (f0 != (0:Int)) then
 some ((),m)
else
 bif decide ((IntKind.wrap .u64 (f+(2:Int)))<(2:Int)) then
 some ((),m)
 else
 bif decide (List.length s=List.length s) then
 bif decide (List.length t=List.length t) then
 bif decide (List.length u=List.length u) then
 bif decide (List.length z=List.length z) then
 bif decide (List.length a0=List.length a0) then
 bif decide (List.length c0=List.length c0) then
 Option.bind (p13 fu ((n,o,q,(1:Int),s,t,u,()),(w,x,y,(1:Int),z,a0,c0,()),())) fun ⟨_,⟨⟨h0,i0,_,_,j0,k0,l0,_⟩,m0,_⟩⟩ =>
 bif (m0 != (0:Int)) then
 some ((),false)
 else
 bif !(h0==a && (i0==c && true)) then
 some ((),false)
 else
 bif (((List.length j0):Int) != (List.length i:Int)) then
 some ((),false)
 else
 bif (((List.length k0):Int) != (List.length j:Int)) then
 some ((),false)
 else
 bif (((List.length l0):Int) != (List.length k:Int)) then
 some ((),false)
 else
 loopO (S := ((Int)×(Unit))×(Unit)) fu (fun ⟨⟨n0,_⟩,_⟩ =>
 bif decide (n0<((List.length k0):Int)) then
 bif decide ((0:Int)≤n0∧n0<(List.length k0:Int)) then
 bif decide (Int.toNat n0<List.length k0) then
 bif decide ((0:Int)≤n0∧n0<(List.length j:Int)) then
 bif decide (Int.toNat n0<List.length j) then
 bif (((List.getD k0 (Int.toNat n0) (dflt T_api_Producer)).1) != ((List.getD j (Int.toNat n0) (dflt T_api_Producer)).1)) then
 inrO (some ((),false))
 else
 bif decide ((0:Int)≤n0∧n0<(List.length k0:Int)) then
 bif decide (Int.toNat n0<List.length k0) then
 bif decide ((0:Int)≤n0∧n0<(List.length j:Int)) then
 bif decide (Int.toNat n0<List.length j) then
 bif ((((List.getD k0 (Int.toNat n0) (dflt T_api_Producer)).2).1) != (((List.getD j (Int.toNat n0) (dflt T_api_Producer)).2).1)) then
 inrO (some ((),false))
 else
 bif decide ((0:Int)≤n0∧n0<(List.length k0:Int)) then
 bif decide (Int.toNat n0<List.length k0) then
 bif decide ((0:Int)≤n0∧n0<(List.length j:Int)) then
 bif decide (Int.toNat n0<List.length j) then
 bif !(((((List.getD k0 (Int.toNat n0) (dflt T_api_Producer)).2).2).1)==((((List.getD j (Int.toNat n0) (dflt T_api_Producer)).2).2).1)) then
 inrO (some ((),false))
 else
 some (.inl ((IntKind.wrap .i64 (n0+(1:Int)),()),()))
 else none
 else none
 else none
 else none
 else none
 else none
 else none
 else none
 else none
 else none
 else none
 else none
 else
 inrO (loopO (S := ((Int)×(Unit))×(Unit)) fu (fun ⟨⟨o0,_⟩,_⟩ =>
 bif decide (o0<(List.length k:Int)) then
 bif decide ((0:Int)≤o0∧o0<(List.length l0:Int)) then
 bif decide (Int.toNat o0<List.length l0) then
 bif decide ((0:Int)≤o0∧o0<(List.length k:Int)) then
 bif decide (Int.toNat o0<List.length k) then
 bif !(ByteArray.toList ((List.getD l0 (Int.toNat o0) (dflt T_runtime_errorAddressString)).1)==ByteArray.toList ((List.getD k (Int.toNat o0) (dflt T_runtime_errorAddressString)).1)) then
 inrO (some ((),false))
 else
 bif decide ((0:Int)≤o0∧o0<(List.length l0:Int)) then
 bif decide (Int.toNat o0<List.length l0) then
 bif decide (((List.getD l0 (Int.toNat o0) (dflt T_runtime_errorAddressString)).2)>(IntKind.wrap .u64 ((List.length j0):Int))) then
 inrO (some ((),false))
 else
 bif decide ((0:Int)≤o0∧o0<(List.length l0:Int)) then
 bif decide (Int.toNat o0<List.length l0) then
 bif decide ((0:Int)≤IntKind.wrap .i64 ((List.getD l0 (Int.toNat o0) (dflt T_runtime_errorAddressString)).2)) then
 bif decide (Int.toNat (IntKind.wrap .i64 ((List.getD l0 (Int.toNat o0) (dflt T_runtime_errorAddressString)).2))≤List.length j0∧0+(List.length j0)≤List.length j0) then
 bif decide ((0:Int)≤o0∧o0<(List.length k:Int)) then
 bif decide (Int.toNat o0<List.length k) then
 loopO (S := ((Int)×(Unit))×(Unit)) fu (fun ⟨⟨q0,_⟩,_⟩ =>
 bif decide (q0<(List.length i:Int)) then
 bif decide ((0:Int)≤q0) then
 bif decide ((0:Int)≤IntKind.wrap .i64 (q0+(1:Int))) then
 bif decide (Int.toNat q0≤Int.toNat (IntKind.wrap .i64 (q0+(1:Int)))∧Int.toNat (IntKind.wrap .i64 (q0+(1:Int)))≤List.length i) then
 bif decide ((Int.toNat (IntKind.wrap .i64 ((List.getD l0 (Int.toNat o0) (dflt T_runtime_errorAddressString)).2)))+((List.length j0)-(Int.toNat (IntKind.wrap .i64 ((List.getD l0 (Int.toNat o0) (dflt T_runtime_errorAddressString)).2))))≤List.length j0) then
 Option.bind (p17 fu (slice' i (Int.toNat q0) (some (Int.toNat (IntKind.wrap .i64 (q0+(1:Int))))),sub' j0 (Int.toNat (IntKind.wrap .i64 ((List.getD l0 (Int.toNat o0) (dflt T_runtime_errorAddressString)).2))) ((List.length j0)-(Int.toNat (IntKind.wrap .i64 ((List.getD l0 (Int.toNat o0) (dflt T_runtime_errorAddressString)).2)))),())) fun ⟨_,s0⟩ =>
 bif !s0 then
 inrO (inrO (some ((),false)))
 else
 some (.inl ((IntKind.wrap .i64 (q0+(1:Int)),()),()))
 else none
 else none
 else none
 else none
 else
 inrO (some (.inl ((IntKind.wrap .i64 (o0+(1:Int)),()),()))))
 ((IntKind.wrap .i64 ((List.getD k (Int.toNat o0) (dflt T_runtime_errorAddressString)).2),()),())
 else none
 else none
 else none
 else none
 else none
 else none
 else none
 else none
 else none
 else none
 else none
 else none
 else
 inrO (loopO (S := ((Int)×(Unit))×(Unit)) fu (fun ⟨⟨t0,_⟩,_⟩ =>
 bif decide (t0<(List.length i:Int)) then
 loopO (S := ((List (D_api_Record))×((List (D_api_Record))×((Int)×(Unit))))×(Unit)) fu (fun ⟨⟨u0,w0,x0,_⟩,_⟩ =>
 bif decide (x0<(List.length i:Int)) then
 orK (E := ((List (D_api_Record))×(Unit))×(Unit))
 (bif decide ((0:Int)≤x0∧x0<(List.length i:Int)) then
 bif decide (Int.toNat x0<List.length i) then
 bif decide ((0:Int)≤t0∧t0<(List.length i:Int)) then
 bif decide (Int.toNat t0<List.length i) then
 bif ByteArray.toList (((List.getD i (Int.toNat x0) (dflt T_api_Record)).2).1)==ByteArray.toList (((List.getD i (Int.toNat t0) (dflt T_api_Record)).2).1) then
 bif decide ((0:Int)≤x0∧x0<(List.length i:Int)) then
 bif decide (Int.toNat x0<List.length i) then
 bif decide (List.length u0=List.length u0) then
 bif decide (List.length u0+List.length ([((List.getD i (Int.toNat x0) (dflt T_api_Record)).1,((List.getD i (Int.toNat x0) (dflt T_api_Record)).2).1,(((List.getD i (Int.toNat x0) (dflt T_api_Record)).2).2).1,((((List.getD i (Int.toNat x0) (dflt T_api_Record)).2).2).2).1,((((List.getD i (Int.toNat x0) (dflt T_api_Record)).2).2).2).2)])≤maxLen∧(List.length u0+List.length ([((List.getD i (Int.toNat x0) (dflt T_api_Record)).1,((List.getD i (Int.toNat x0) (dflt T_api_Record)).2).1,(((List.getD i (Int.toNat x0) (dflt T_api_Record)).2).2).1,((((List.getD i (Int.toNat x0) (dflt T_api_Record)).2).2).2).1,((((List.getD i (Int.toNat x0) (dflt T_api_Record)).2).2).2).2)])) * 64≤140737488355328) then
 bif decide (List.length (u0 ++ [((List.getD i (Int.toNat x0) (dflt T_api_Record)).1,((List.getD i (Int.toNat x0) (dflt T_api_Record)).2).1,(((List.getD i (Int.toNat x0) (dflt T_api_Record)).2).2).1,((((List.getD i (Int.toNat x0) (dflt T_api_Record)).2).2).2).1,((((List.getD i (Int.toNat x0) (dflt T_api_Record)).2).2).2).2)])=List.length (u0 ++ [((List.getD i (Int.toNat x0) (dflt T_api_Record)).1,((List.getD i (Int.toNat x0) (dflt T_api_Record)).2).1,(((List.getD i (Int.toNat x0) (dflt T_api_Record)).2).2).1,((((List.getD i (Int.toNat x0) (dflt T_api_Record)).2).2).2).1,((((List.getD i (Int.toNat x0) (dflt T_api_Record)).2).2).2).2)])) then
 some (.inl (((u0 ++ [((List.getD i (Int.toNat x0) (dflt T_api_Record)).1,((List.getD i (Int.toNat x0) (dflt T_api_Record)).2).1,(((List.getD i (Int.toNat x0) (dflt T_api_Record)).2).2).1,((((List.getD i (Int.toNat x0) (dflt T_api_Record)).2).2).2).1,((((List.getD i (Int.toNat x0) (dflt T_api_Record)).2).2).2).2)]),()),()))
 else none
 else none
 else none
 else none
 else none
 else
 bif decide (List.length u0=List.length u0) then
 some (.inl ((u0,()),()))
 else none
 else none
 else none
 else none
 else none)
 fun ⟨⟨u0,_⟩,_⟩ =>
 bif decide ((0:Int)≤x0∧x0<(List.length j0:Int)) then
 bif decide (Int.toNat x0<List.length j0) then
 bif decide ((0:Int)≤t0∧t0<(List.length i:Int)) then
 bif decide (Int.toNat t0<List.length i) then
 bif ByteArray.toList (((List.getD j0 (Int.toNat x0) (dflt T_api_Record)).2).1)==ByteArray.toList (((List.getD i (Int.toNat t0) (dflt T_api_Record)).2).1) then
 bif decide ((0:Int)≤x0∧x0<(List.length j0:Int)) then
 bif decide (Int.toNat x0<List.length j0) then
 bif decide (List.length w0=List.length w0) then
 bif decide (List.length w0+List.length ([((List.getD j0 (Int.toNat x0) (dflt T_api_Record)).1,((List.getD j0 (Int.toNat x0) (dflt T_api_Record)).2).1,(((List.getD j0 (Int.toNat x0) (dflt T_api_Record)).2).2).1,((((List.getD j0 (Int.toNat x0) (dflt T_api_Record)).2).2).2).1,((((List.getD j0 (Int.toNat x0) (dflt T_api_Record)).2).2).2).2)])≤maxLen∧(List.length w0+List.length ([((List.getD j0 (Int.toNat x0) (dflt T_api_Record)).1,((List.getD j0 (Int.toNat x0) (dflt T_api_Record)).2).1,(((List.getD j0 (Int.toNat x0) (dflt T_api_Record)).2).2).1,((((List.getD j0 (Int.toNat x0) (dflt T_api_Record)).2).2).2).1,((((List.getD j0 (Int.toNat x0) (dflt T_api_Record)).2).2).2).2)])) * 64≤140737488355328) then
 bif decide (List.length u0=List.length u0) then
 bif decide (List.length (w0 ++ [((List.getD j0 (Int.toNat x0) (dflt T_api_Record)).1,((List.getD j0 (Int.toNat x0) (dflt T_api_Record)).2).1,(((List.getD j0 (Int.toNat x0) (dflt T_api_Record)).2).2).1,((((List.getD j0 (Int.toNat x0) (dflt T_api_Record)).2).2).2).1,((((List.getD j0 (Int.toNat x0) (dflt T_api_Record)).2).2).2).2)])=List.length (w0 ++ [((List.getD j0 (Int.toNat x0) (dflt T_api_Record)).1,((List.getD j0 (Int.toNat x0) (dflt T_api_Record)).2).1,(((List.getD j0 (Int.toNat x0) (dflt T_api_Record)).2).2).1,((((List.getD j0 (Int.toNat x0) (dflt T_api_Record)).2).2).2).1,((((List.getD j0 (Int.toNat x0) (dflt T_api_Record)).2).2).2).2)])) then
 some (.inl ((u0,(w0 ++ [((List.getD j0 (Int.toNat x0) (dflt T_api_Record)).1,((List.getD j0 (Int.toNat x0) (dflt T_api_Record)).2).1,(((List.getD j0 (Int.toNat x0) (dflt T_api_Record)).2).2).1,((((List.getD j0 (Int.toNat x0) (dflt T_api_Record)).2).2).2).1,((((List.getD j0 (Int.toNat x0) (dflt T_api_Record)).2).2).2).2)]),IntKind.wrap .i64 (x0+(1:Int)),()),()))
 else none
 else none
 else none
 else none
 else none
 else none
 else
 bif decide (List.length u0=List.length u0) then
 bif decide (List.length w0=List.length w0) then
 some (.inl ((u0,w0,IntKind.wrap .i64 (x0+(1:Int)),()),()))
 else none
 else none
 else none
 else none
 else none
 else none
 else
 inrO (bif decide (List.length u0=List.length u0) then
 bif decide (List.length w0=List.length w0) then
 Option.bind (p17 fu (u0,w0,())) fun ⟨_,y0⟩ =>
 bif !y0 then
 inrO (some ((),false))
 else
 bif (((List.length u0):Int) != ((List.length w0):Int)) then
 inrO (some ((),false))
 else
 some (.inl ((IntKind.wrap .i64 (t0+(1:Int)),()),()))
 else none
 else none))
 (([],[],(0:Int),()),())
 else
 inrO (some ((),m)))
 (((0:Int),()),())))
 (((0:Int),()),())))
 (((0:Int),()),())
 else none
 else none
 else none
 else none
 else none
 else none
def e7 (fu:Nat):Ent := ⟨7,(.cons Y3 (.cons (.hole .str) .nil)),.nil,(.hole .bool),p7 fu⟩
end Go.Proofs.Ytmjmhobeiamgiaa
