/-
  The functions, typed, continued.
-/
import Derived.Test.YtnhniiannbimgaaPtCA
namespace Go.Proofs.Ytnhniiannbimgaa
set_option maxRecDepth 1000000
open Go.RowKit
def rs6:List RVx := [(.cell 6 true 33),(.tmp 7)]
def p6 (fu:Nat):(Int)×((List (Int))×((Int)×(Unit)))→Option ((Unit)×((Z6)×((Int)×(Unit)))) := fun ⟨a,c,f,_⟩ =>
orK (E := ((Bool)×(Unit))×(Unit))
 (bif decide (a<(1:Int)) then
 some (.inl ((true,()),()))
 else
 bif decide (a>(7:Int)) then
 some (.inl ((true,()),()))
 else
 bif ((List.length c:Int)==(0:Int)) then
 some (.inl ((true,()),()))
 else
 some (.inl (((f==(0:Int)),()),())))
 fun ⟨⟨h,_⟩,_⟩ =>
bif h then
 some ((),(((0:Int),[],(0:Int),(0:Int),[],[],false,(0:Int),(⟨#[]⟩:ByteArray),(⟨#[]⟩:ByteArray),[],(0:Int),(0:Int),(⟨#[]⟩:ByteArray),(0:Int),(0:Int),(0:Int),(⟨#[]⟩:ByteArray),[],(0:Int),(0:Int),(⟨#[]⟩:ByteArray),(0:Int),(0:Int),(0:Int),(0:Int),(0:Int),false,(0:Int),(0:Int),(0:Int),false,(0:Int),()),(1:Int),()))
else
 loopO (S := ((Int)×(Unit))×(Unit)) fu (fun ⟨⟨i,_⟩,_⟩ =>
 bif decide (i<(List.length c:Int)) then
 orK (E := ((Bool)×(Unit))×(Unit))
 (bif decide ((0:Int)≤i∧i<(List.length c:Int)) then
 bif decide (Int.toNat i<List.length c) then
 bif decide ((List.getD c (Int.toNat i) (dflt (.int .i64)))<(1:Int)) then
 some (.inl ((true,()),()))
 else
 bif decide ((0:Int)≤i∧i<(List.length c:Int)) then
 bif decide (Int.toNat i<List.length c) then
 bif decide ((List.getD c (Int.toNat i) (dflt (.int .i64)))>(7:Int)) then
 some (.inl ((true,()),()))
 else
 bif decide ((0:Int)≤i∧i<(List.length c:Int)) then
 bif decide (Int.toNat i<List.length c) then
 some (.inl ((((List.getD c (Int.toNat i) (dflt (.int .i64)))==a),()),()))
 else none
 else none
 else none
 else none
 else none
 else none)
 fun ⟨⟨j,_⟩,_⟩ =>
 bif j then
 inrO (some ((),(((0:Int),[],(0:Int),(0:Int),[],[],false,(0:Int),(⟨#[]⟩:ByteArray),(⟨#[]⟩:ByteArray),[],(0:Int),(0:Int),(⟨#[]⟩:ByteArray),(0:Int),(0:Int),(0:Int),(⟨#[]⟩:ByteArray),[],(0:Int),(0:Int),(⟨#[]⟩:ByteArray),(0:Int),(0:Int),(0:Int),(0:Int),(0:Int),false,(0:Int),(0:Int),(0:Int),false,(0:Int),()),(1:Int),())))
 else
 loopO (S := ((Int)×(Unit))×(Unit)) fu (fun ⟨⟨k,_⟩,_⟩ =>
 bif decide (k<i) then
 bif decide ((0:Int)≤k∧k<(List.length c:Int)) then
 bif decide (Int.toNat k<List.length c) then
 bif decide ((0:Int)≤i∧i<(List.length c:Int)) then
 bif decide (Int.toNat i<List.length c) then
 bif ((List.getD c (Int.toNat k) (dflt (.int .i64)))==(List.getD c (Int.toNat i) (dflt (.int .i64)))) then
 inrO (inrO (some ((),(((0:Int),[],(0:Int),(0:Int),[],[],false,(0:Int),(⟨#[]⟩:ByteArray),(⟨#[]⟩:ByteArray),[],(0:Int),(0:Int),(⟨#[]⟩:ByteArray),(0:Int),(0:Int),(0:Int),(⟨#[]⟩:ByteArray),[],(0:Int),(0:Int),(⟨#[]⟩:ByteArray),(0:Int),(0:Int),(0:Int),(0:Int),(0:Int),false,(0:Int),(0:Int),(0:Int),false,(0:Int),()),(1:Int),()))))
 else
 some (.inl ((IntKind.wrap .i64 (k+(1:Int)),()),()))
 else none
 else none
 else none
 else none
 else
 inrO (some (.inl ((IntKind.wrap .i64 (i+(1:Int)),()),()))))
 (((0:Int),()),())
 else
 inrO (bif decide (0=List.length ([]:List (Int))) then
 bif decide (List.length ([]:List (Int))+List.length c≤maxLen∧(List.length ([]:List (Int))+List.length c) * 8≤140737488355328) then
 bif decide (List.length (([]:List (Int)) ++ c)=List.length (([]:List (Int)) ++ c)) then
 some ((),((a,(([]:List (Int)) ++ c),f,(0:Int),[],[],false,(0:Int),(⟨#[]⟩:ByteArray),(⟨#[]⟩:ByteArray),[],(0:Int),(0:Int),(⟨#[]⟩:ByteArray),(0:Int),(0:Int),(0:Int),(⟨#[]⟩:ByteArray),[],(0:Int),(0:Int),(⟨#[]⟩:ByteArray),(0:Int),(0:Int),(0:Int),(0:Int),(0:Int),false,(0:Int),(0:Int),(0:Int),false,(0:Int),()),(0:Int),()))
 else none
 else none
 else none))
 (((0:Int),()),())
def e6 (fu:Nat):Ent := ⟨6,(.cons (.hole (.int .i64)) (.cons (.hole (.sl .any (.int .i64))) (.cons (.hole (.int .u64)) .nil))),.nil,(.tup 2 (.cons Y7 (.cons (.hole (.int .i64)) .nil))),p6 fu⟩
theorem g6 (fu:Nat):(e6 fu).Good Try.prog := good_fx orders Try.func6 fu [(71,(.ty (.int .i64))),(73,(.ty (.int .i64)))] [(2,⟨[24],(.cons (.hole .bool) .nil),[],.nil,[0,1,2,6],[0]⟩),(6,⟨[8],(.cons (.hole (.int .i64)) .nil),[],.nil,[0,1,2,6],[0]⟩),(11,⟨[51],(.cons (.hole .bool) .nil),[],.nil,[0,1,2,6,8],[0]⟩),(14,⟨[9],(.cons (.hole (.int .i64)) .nil),[],.nil,[0,1,2,6,8],[0]⟩)] rs6 74 (l := []) trivial
def rs7:List RVx := [(.cell 2 true 19)]
def p7 (_:Nat):(Z14)×(Unit)→Option ((Unit)×((Int)×((ByteArray)×((ByteArray)×((List (Int))×((Int)×((Int)×((ByteArray)×((Int)×((Int)×((Int)×((ByteArray)×((List (Int))×((Int)×((Int)×((ByteArray)×((Int)×((Int)×((Int)×((Int)×(Unit))))))))))))))))))))) := fun ⟨⟨a,c,f,h,i,j,k,l,m,n,o,q,s,t,u,w,x,y,z,_⟩,_⟩ =>
bif decide (0=List.length ([]:List (Int))) then
 bif decide (List.length ([]:List (Int))+List.length h≤maxLen∧(List.length ([]:List (Int))+List.length h) * 1≤140737488355328) then
 bif decide (0=List.length ([]:List (Int))) then
 bif decide (List.length ([]:List (Int))+List.length q≤maxLen∧(List.length ([]:List (Int))+List.length q) * 8≤140737488355328) then
 bif decide (List.length (([]:List (Int)) ++ h)=List.length (([]:List (Int)) ++ h)) then
 bif decide (List.length (([]:List (Int)) ++ q)=List.length (([]:List (Int)) ++ q)) then
 some ((),(a,c,f,(([]:List (Int)) ++ h),i,j,k,l,m,n,o,(([]:List (Int)) ++ q),s,t,u,w,x,y,z,()))
 else none
 else none
 else none
 else none
 else none
else none
def e7 (fu:Nat):Ent := ⟨7,(.cons Y19 .nil),.nil,Y16,p7 fu⟩
theorem g7 (fu:Nat):(e7 fu).Good Try.prog := good_fx orders Try.func7 fu [(2,(.ty (.int .u8))),(5,(.ty (.int .u8))),(8,(.ty (.int .i64))),(12,(.ty (.int .i64)))] [] rs7 16 (l := []) trivial
def rs8:List RVx := [(.tmp 2)]
def p8 (fu:Nat):(List (D_api_Shard))×(Unit)→Option ((Unit)×(List (D_api_Shard))) := fun ⟨a,_⟩ =>
loopO (S := ((List (D_api_Shard))×((Int)×(Unit)))×(Unit)) fu (fun ⟨⟨c,f,_⟩,_⟩ =>
 bif decide (f<(List.length a:Int)) then
 bif decide ((0:Int)≤f∧f<(List.length a:Int)) then
 bif decide (Int.toNat f<List.length a) then
 bif decide (0=List.length ([]:List (Int))) then
 bif decide (List.length ([]:List (Int))+List.length (((((List.getD a (Int.toNat f) (dflt T_api_Shard)).2).2).2).1)≤maxLen∧(List.length ([]:List (Int))+List.length (((((List.getD a (Int.toNat f) (dflt T_api_Shard)).2).2).2).1)) * 8≤140737488355328) then
 bif decide (0=List.length ([]:List (Int))) then
 bif decide (List.length ([]:List (Int))+List.length ((((((List.getD a (Int.toNat f) (dflt T_api_Shard)).2).2).2).2).1)≤maxLen∧(List.length ([]:List (Int))+List.length ((((((List.getD a (Int.toNat f) (dflt T_api_Shard)).2).2).2).2).1)) * 8≤140737488355328) then
 bif decide (List.length (([]:List (Int)) ++ ((((List.getD a (Int.toNat f) (dflt T_api_Shard)).2).2).2).1)=List.length (([]:List (Int)) ++ ((((List.getD a (Int.toNat f) (dflt T_api_Shard)).2).2).2).1)) then
 bif decide (List.length (([]:List (Int)) ++ (((((List.getD a (Int.toNat f) (dflt T_api_Shard)).2).2).2).2).1)=List.length (([]:List (Int)) ++ (((((List.getD a (Int.toNat f) (dflt T_api_Shard)).2).2).2).2).1)) then
 bif decide (List.length c=List.length c) then
 bif decide (List.length c+List.length ([((List.getD a (Int.toNat f) (dflt T_api_Shard)).1,((((List.getD a (Int.toNat f) (dflt T_api_Shard)).2).1).1,(((List.getD a (Int.toNat f) (dflt T_api_Shard)).2).1).2),(((List.getD a (Int.toNat f) (dflt T_api_Shard)).2).2).1,(([]:List (Int)) ++ ((((List.getD a (Int.toNat f) (dflt T_api_Shard)).2).2).2).1),(([]:List (Int)) ++ (((((List.getD a (Int.toNat f) (dflt T_api_Shard)).2).2).2).2).1),(((((List.getD a (Int.toNat f) (dflt T_api_Shard)).2).2).2).2).2)])≤maxLen∧(List.length c+List.length ([((List.getD a (Int.toNat f) (dflt T_api_Shard)).1,((((List.getD a (Int.toNat f) (dflt T_api_Shard)).2).1).1,(((List.getD a (Int.toNat f) (dflt T_api_Shard)).2).1).2),(((List.getD a (Int.toNat f) (dflt T_api_Shard)).2).2).1,(([]:List (Int)) ++ ((((List.getD a (Int.toNat f) (dflt T_api_Shard)).2).2).2).1),(([]:List (Int)) ++ (((((List.getD a (Int.toNat f) (dflt T_api_Shard)).2).2).2).2).1),(((((List.getD a (Int.toNat f) (dflt T_api_Shard)).2).2).2).2).2)])) * 104≤140737488355328) then
 bif decide (List.length (c ++ [((List.getD a (Int.toNat f) (dflt T_api_Shard)).1,((((List.getD a (Int.toNat f) (dflt T_api_Shard)).2).1).1,(((List.getD a (Int.toNat f) (dflt T_api_Shard)).2).1).2),(((List.getD a (Int.toNat f) (dflt T_api_Shard)).2).2).1,(([]:List (Int)) ++ ((((List.getD a (Int.toNat f) (dflt T_api_Shard)).2).2).2).1),(([]:List (Int)) ++ (((((List.getD a (Int.toNat f) (dflt T_api_Shard)).2).2).2).2).1),(((((List.getD a (Int.toNat f) (dflt T_api_Shard)).2).2).2).2).2)])=List.length (c ++ [((List.getD a (Int.toNat f) (dflt T_api_Shard)).1,((((List.getD a (Int.toNat f) (dflt T_api_Shard)).2).1).1,(((List.getD a (Int.toNat f) (dflt T_api_Shard)).2).1).2),(((List.getD a (Int.toNat f) (dflt T_api_Shard)).2).2).1,(([]:List (Int)) ++ ((((List.getD a (Int.toNat f) (dflt T_api_Shard)).2).2).2).1),(([]:List (Int)) ++ (((((List.getD a (Int.toNat f) (dflt T_api_Shard)).2).2).2).2).1),(((((List.getD a (Int.toNat f) (dflt T_api_Shard)).2).2).2).2).2)])) then
 some (.inl (((c ++ [((List.getD a (Int.toNat f) (dflt T_api_Shard)).1,((((List.getD a (Int.toNat f) (dflt T_api_Shard)).2).1).1,(((List.getD a (Int.toNat f) (dflt T_api_Shard)).2).1).2),(((List.getD a (Int.toNat f) (dflt T_api_Shard)).2).2).1,(([]:List (Int)) ++ ((((List.getD a (Int.toNat f) (dflt T_api_Shard)).2).2).2).1),(([]:List (Int)) ++ (((((List.getD a (Int.toNat f) (dflt T_api_Shard)).2).2).2).2).1),(((((List.getD a (Int.toNat f) (dflt T_api_Shard)).2).2).2).2).2)]),IntKind.wrap .i64 (f+(1:Int)),()),()))
 else none
 else none
 else none
 else none
 else none
 else none
 else none
 else none
 else none
 else none
 else none
 else
 inrO (bif decide (List.length c=List.length c) then
 some ((),c)
 else none))
 (([],(0:Int),()),())
def e8 (fu:Nat):Ent := ⟨8,(.cons (.hole (.sl .any T_api_Shard)) .nil),.nil,(.own .own 66 T_api_Shard_n),p8 fu⟩
theorem g8 (fu:Nat):(e8 fu).Good Try.prog := good_fx orders Try.func8 fu [(13,(.ty (.int .i64))),(16,(.ty (.int .i64))),(19,(.ty (.int .i64))),(22,(.ty (.int .i64))),(27,(.ty T_api_Shard_n)),(28,(.ty T_api_Shard_n))] [(4,⟨[3,4],(.cons (.own .own 66 T_api_Shard_n) (.cons (.hole (.int .i64)) .nil)),[],.nil,[0],[]⟩)] rs8 31 (l := []) trivial
def rs9:List RVx := [(.cell 2 true 33)]
def p9 (fu:Nat):(Z6)×(Unit)→Option ((Unit)×((Int)×((List (Int))×((Int)×((Int)×((List (D_api_Topic))×((List (D_api_Site))×((Bool)×((Int)×((ByteArray)×((ByteArray)×((List (Int))×((Int)×((Int)×((ByteArray)×((Int)×((Int)×((Int)×((ByteArray)×((List (Int))×((Int)×((Int)×((ByteArray)×((Int)×((Int)×((Int)×((Int)×((Int)×((Bool)×((Int)×((Int)×((Int)×((Bool)×((Int)×(Unit))))))))))))))))))))))))))))))))))) := fun ⟨⟨a,c,f,h,i,j,k,l,m,n,o,q,s,t,u,w,x,y,z,a0,c0,f0,h0,i0,j0,k0,l0,m0,n0,o0,q0,s0,t0,_⟩,_⟩ =>
bif decide (0=List.length ([]:List (Int))) then
 bif decide (List.length ([]:List (Int))+List.length c≤maxLen∧(List.length ([]:List (Int))+List.length c) * 8≤140737488355328) then
 loopO (S := ((List (D_api_Topic))×((Int)×(Unit)))×(Unit)) fu (fun ⟨⟨u0,w0,_⟩,_⟩ =>
 bif decide (w0<(List.length i:Int)) then
 bif decide ((0:Int)≤w0∧w0<(List.length i:Int)) then
 bif decide (Int.toNat w0<List.length i) then
 bif decide ((0:Int)≤w0∧w0<(List.length i:Int)) then
 bif decide (Int.toNat w0<List.length i) then
 Option.bind (p8 fu ((List.getD i (Int.toNat w0) (dflt T_api_Topic)).2,())) fun ⟨_,x0⟩ =>
 bif decide (List.length x0=List.length x0) then
 bif decide (List.length u0=List.length u0) then
 bif decide (List.length u0+List.length ([((List.getD i (Int.toNat w0) (dflt T_api_Topic)).1,x0)])≤maxLen∧(List.length u0+List.length ([((List.getD i (Int.toNat w0) (dflt T_api_Topic)).1,x0)])) * 40≤140737488355328) then
 bif decide (List.length (u0 ++ [((List.getD i (Int.toNat w0) (dflt T_api_Topic)).1,x0)])=List.length (u0 ++ [((List.getD i (Int.toNat w0) (dflt T_api_Topic)).1,x0)])) then
 some (.inl (((u0 ++ [((List.getD i (Int.toNat w0) (dflt T_api_Topic)).1,x0)]),IntKind.wrap .i64 (w0+(1:Int)),()),()))
 else none
 else none
 else none
 else none
 else none
 else none
 else none
 else none
 else
 inrO (bif decide (0=List.length ([]:List (D_api_Site))) then
 bif decide (List.length ([]:List (D_api_Site))+List.length j≤maxLen∧(List.length ([]:List (D_api_Site))+List.length j) * 16≤140737488355328) then
 Option.bind (p7 fu ((l,m,n,o,q,s,t,u,w,x,y,z,a0,c0,f0,h0,i0,j0,k0,()),())) fun ⟨_,⟨y0,z0,a1,c1,f1,h1,i1,j1,k1,l1,m1,n1,o1,q1,s1,t1,u1,w1,x1,_⟩⟩ =>
 bif decide (List.length (([]:List (Int)) ++ c)=List.length (([]:List (Int)) ++ c)) then
 bif decide (List.length u0=List.length u0) then
 bif decide (List.length (([]:List (D_api_Site)) ++ j)=List.length (([]:List (D_api_Site)) ++ j)) then
 bif decide (List.length c1=List.length c1) then
 bif decide (List.length n1=List.length n1) then
 some ((),(a,(([]:List (Int)) ++ c),f,h,u0,(([]:List (D_api_Site)) ++ j),k,y0,z0,a1,c1,f1,h1,i1,j1,k1,l1,m1,n1,o1,q1,s1,t1,u1,w1,x1,l0,m0,n0,o0,q0,s0,t0,()))
 else none
 else none
 else none
 else none
 else none
 else none
 else none))
 (([],(0:Int),()),())
 else none
else none
def e9 (fu:Nat):Ent := ⟨9,(.cons Y44 .nil),.nil,Y18,p9 fu⟩
theorem g9 (fu:Nat):(e9 fu).Good Try.prog := good_fx orders Try.func9 fu [(2,(.ty (.int .i64))),(5,(.ty (.int .i64))),(28,(.ent (e8 fu))),(30,(.ty T_api_Topic_n)),(31,(.ty T_api_Topic_n)),(39,(.ty T_api_Site)),(42,(.ty T_api_Site)),(47,(.ent (e7 fu)))] [(5,⟨[3,4],(.cons (.own .own 72 T_api_Topic_n) (.cons (.hole (.int .i64)) .nil)),[],.nil,[1,2],[0,16,32]⟩)] rs9 46 (l := [e8 fu,e7 fu]) ⟨g8 fu,g7 fu,trivial⟩
def p10_7 (fu:Nat):(Z6)×((Z4)×(Unit))→Option ((Unit)×((Z6)×((Z5)×((Int)×(Unit))))) := fun ⟨⟨a,c,f,h,i,j,k,l,m,n,o,q,s,t,u,w,x,y,z,a0,c0,f0,h0,i0,j0,k0,l0,m0,n0,o0,q0,s0,t0,_⟩,⟨u0,w0,x0,y0,z0,a1,c1,f1,h1,i1,j1,k1,l1,m1,n1,o1,q1,s1,t1,u1,w1,x1,y1,z1,a2,c2,f2,h2,i2,j2,k2,l2,_⟩,_⟩ =>
Option.bind (p17 fu ((a,c,f,h,i,j,k,l,m,n,o,q,s,t,u,w,x,y,z,a0,c0,f0,h0,i0,j0,k0,l0,m0,n0,o0,q0,s0,t0,()),())) fun ⟨_,⟨m2,n2,o2,q2,s2,t2,u2,w2,x2,y2,z2,a3,c3,f3,h3,i3,j3,k3,l3,m3,n3,o3,q3,s3,t3,u3,w3,x3,y3,z3,a4,c4,f4,_⟩⟩ =>
orK (E := ((Z1)×(Unit))×(Unit))
 (Option.bind (p18 fu (u0,())) fun ⟨_,⟨h4,⟨_,_⟩,⟨i4,⟨_,_⟩,⟨j4,⟨_,_⟩,_⟩⟩⟩⟩ =>
 bif h4 then
 some (.inl (((true,((),()),dflt (.pair .bool (.pair (.pair .unit .unit) (.pair .bool (.pair (.pair .unit .unit) .unit))))),()),()))
 else
 bif i4 then
 some (.inl (((false,dflt (.pair .unit .unit),(true,((),()),dflt (.pair .bool (.pair (.pair .unit .unit) .unit)))),()),()))
 else
 bif j4 then
 some (.inl (((false,dflt (.pair .unit .unit),(false,dflt (.pair .unit .unit),(true,((),()),dflt .unit))),()),()))
 else
 some (.inl (((false,dflt (.pair .unit .unit),(false,dflt (.pair .unit .unit),(false,dflt (.pair .unit .unit),()))),()),())))
 fun ⟨⟨⟨k4,⟨_,_⟩,⟨l4,⟨_,_⟩,⟨m4,⟨_,_⟩,_⟩⟩⟩,_⟩,_⟩ =>
bif k4 then
 bif decide (List.length n2=List.length n2) then
 bif decide (List.length s2=List.length s2) then
 bif decide (List.length t2=List.length t2) then
 bif decide (List.length z2=List.length z2) then
 bif decide (List.length l3=List.length l3) then
 Option.bind (p33 fu ((m2,n2,o2,q2,s2,t2,u2,w2,x2,y2,z2,a3,c3,f3,h3,i3,j3,k3,l3,m3,n3,o3,q3,s3,t3,u3,w3,x3,y3,z3,a4,c4,f4,false,(0:Int),(0:Int),(0:Int),(0:Int),(0:Int),(0:Int),(0:Int),(0:Int),(⟨#[]⟩:ByteArray),(),(0:Int),(0:Int),(⟨#[]⟩:ByteArray),(0:Int),(0:Int),(0:Int),(0:Int),(⟨#[]⟩:ByteArray),(),(0:Int),(0:Int),(⟨#[]⟩:ByteArray),(0:Int),(0:Int),(0:Int),(0:Int),(⟨#[]⟩:ByteArray),false,(0:Int),(0:Int),(0:Int),(0:Int),(0:Int),false,(),(0:Int),(),(0:Int),(0:Int),(0:Int),()),(u0,w0,x0,y0,z0,a1,c1,f1,h1,i1,j1,k1,l1,m1,n1,o1,q1,s1,t1,u1,w1,x1,y1,z1,a2,c2,f2,h2,i2,j2,k2,l2,()),())) fun ⟨⟨⟨n4,o4,q4,s4,t4,u4,w4,x4,y4,z4,a5,c5,f5,h5,i5,j5,k5,l5,m5,n5,o5,q5,s5,t5,u5,w5,x5,y5,z5,a6,c6,f6,h6,i6,j6,k6,l6,m6,n6,o6,q6,s6,t6,u6,w6,x6,y6,z6,a7,c7,f7,h7,i7,j7,k7,l7,m7,n7,o7,q7,s7,t7,u7,w7,x7,y7,z7,a8,c8,f8,h8,i8,j8,k8,_⟩,_,_,_,_,_,_⟩,l8⟩ =>
 bif (l8 != (0:Int)) then
 Option.bind (p17 fu ((a,c,f,h,i,j,k,l,m,n,o,q,s,t,u,w,x,y,z,a0,c0,f0,h0,i0,j0,k0,l0,m0,n0,o0,q0,s0,t0,()),())) fun ⟨_,⟨m8,n8,o8,q8,s8,t8,u8,w8,x8,y8,z8,a9,c9,f9,h9,i9,j9,k9,l9,m9,n9,o9,q9,s9,t9,u9,w9,x9,y9,z9,a10,c10,f10,_⟩⟩ =>
 bif decide (List.length n8=List.length n8) then
 bif decide (List.length s8=List.length s8) then
 bif decide (List.length t8=List.length t8) then
 bif decide (List.length z8=List.length z8) then
 bif decide (List.length l9=List.length l9) then
 some ((),((m8,n8,o8,q8,s8,t8,u8,w8,x8,y8,z8,a9,c9,f9,h9,i9,j9,k9,l9,m9,n9,o9,q9,s9,t9,u9,w9,x9,y9,z9,a10,c10,f10,()),(false,(0:Int),(0:Int),(0:Int),(0:Int),(0:Int),(0:Int),(0:Int),(0:Int),(⟨#[]⟩:ByteArray),[],(0:Int),(0:Int),(⟨#[]⟩:ByteArray),(0:Int),(0:Int),(0:Int),(0:Int),(⟨#[]⟩:ByteArray),[],(0:Int),(0:Int),(⟨#[]⟩:ByteArray),(0:Int),(0:Int),(0:Int),(0:Int),(⟨#[]⟩:ByteArray),false,(0:Int),(0:Int),(0:Int),(0:Int),(0:Int),false,[],(0:Int),[],(0:Int),(0:Int),(0:Int),()),l8,()))
 else none
 else none
 else none
 else none
 else none
 else
 bif decide (List.length o4=List.length o4) then
 bif decide (List.length t4=List.length t4) then
 bif decide (List.length u4=List.length u4) then
 bif decide (List.length a5=List.length a5) then
 bif decide (List.length m5=List.length m5) then
 bif decide (List.length u6=List.length u6) then
 bif decide (List.length i7=List.length i7) then
 bif decide (List.length c8=List.length c8) then
 bif decide (List.length h8=List.length h8) then
 some ((),((n4,o4,q4,s4,t4,u4,w4,x4,y4,z4,a5,c5,f5,h5,i5,j5,k5,l5,m5,n5,o5,q5,s5,t5,u5,w5,x5,y5,z5,a6,c6,f6,h6,()),(i6,j6,k6,l6,m6,n6,o6,q6,s6,t6,u6,w6,x6,y6,z6,a7,c7,f7,h7,i7,j7,k7,l7,m7,n7,o7,q7,s7,t7,u7,w7,x7,y7,z7,a8,c8,f8,h8,i8,j8,k8,()),(0:Int),()))
 else none
 else none
 else none
 else none
 else none
 else none
 else none
 else none
 else none
 else none
 else none
 else none
 else none
 else none
else
 bif l4 then
 bif decide (List.length n2=List.length n2) then
 bif decide (List.length s2=List.length s2) then
 bif decide (List.length t2=List.length t2) then
 bif decide (List.length z2=List.length z2) then
 bif decide (List.length l3=List.length l3) then
 Option.bind (p34 fu ((m2,n2,o2,q2,s2,t2,u2,w2,x2,y2,z2,a3,c3,f3,h3,i3,j3,k3,l3,m3,n3,o3,q3,s3,t3,u3,w3,x3,y3,z3,a4,c4,f4,false,(0:Int),(0:Int),(0:Int),(0:Int),(0:Int),(0:Int),(0:Int),(0:Int),(⟨#[]⟩:ByteArray),(),(0:Int),(0:Int),(⟨#[]⟩:ByteArray),(0:Int),(0:Int),(0:Int),(0:Int),(⟨#[]⟩:ByteArray),(),(0:Int),(0:Int),(⟨#[]⟩:ByteArray),(0:Int),(0:Int),(0:Int),(0:Int),(⟨#[]⟩:ByteArray),false,(0:Int),(0:Int),(0:Int),(0:Int),(0:Int),false,(),(0:Int),(),(0:Int),(0:Int),(0:Int),()),(u0,w0,x0,y0,z0,a1,c1,f1,h1,i1,j1,k1,l1,m1,n1,o1,q1,s1,t1,u1,w1,x1,y1,z1,a2,c2,f2,h2,i2,j2,k2,l2,()),())) fun ⟨⟨⟨h10,i10,j10,k10,l10,m10,n10,o10,q10,s10,t10,u10,w10,x10,y10,z10,a11,c11,f11,h11,i11,j11,k11,l11,m11,n11,o11,q11,s11,t11,u11,w11,x11,y11,z11,a12,c12,f12,h12,i12,j12,k12,l12,m12,n12,o12,q12,s12,t12,u12,w12,x12,y12,z12,a13,c13,f13,h13,i13,j13,k13,l13,m13,n13,o13,q13,s13,t13,u13,w13,x13,y13,z13,a14,_⟩,_,_,_,_,_,_⟩,c14⟩ =>
 bif (c14 != (0:Int)) then
 Option.bind (p17 fu ((a,c,f,h,i,j,k,l,m,n,o,q,s,t,u,w,x,y,z,a0,c0,f0,h0,i0,j0,k0,l0,m0,n0,o0,q0,s0,t0,()),())) fun ⟨_,⟨f14,h14,i14,j14,k14,l14,m14,n14,o14,q14,s14,t14,u14,w14,x14,y14,z14,a15,c15,f15,h15,i15,j15,k15,l15,m15,n15,o15,q15,s15,t15,u15,w15,_⟩⟩ =>
 bif decide (List.length h14=List.length h14) then
 bif decide (List.length k14=List.length k14) then
 bif decide (List.length l14=List.length l14) then
 bif decide (List.length s14=List.length s14) then
 bif decide (List.length c15=List.length c15) then
 some ((),((f14,h14,i14,j14,k14,l14,m14,n14,o14,q14,s14,t14,u14,w14,x14,y14,z14,a15,c15,f15,h15,i15,j15,k15,l15,m15,n15,o15,q15,s15,t15,u15,w15,()),(false,(0:Int),(0:Int),(0:Int),(0:Int),(0:Int),(0:Int),(0:Int),(0:Int),(⟨#[]⟩:ByteArray),[],(0:Int),(0:Int),(⟨#[]⟩:ByteArray),(0:Int),(0:Int),(0:Int),(0:Int),(⟨#[]⟩:ByteArray),[],(0:Int),(0:Int),(⟨#[]⟩:ByteArray),(0:Int),(0:Int),(0:Int),(0:Int),(⟨#[]⟩:ByteArray),false,(0:Int),(0:Int),(0:Int),(0:Int),(0:Int),false,[],(0:Int),[],(0:Int),(0:Int),(0:Int),()),c14,()))
 else none
 else none
 else none
 else none
 else none
 else
 bif decide (List.length i10=List.length i10) then
 bif decide (List.length m10=List.length m10) then
 bif decide (List.length t10=List.length t10) then
 bif decide (List.length f11=List.length f11) then
 bif decide (List.length m12=List.length m12) then
 bif decide (List.length y12=List.length y12) then
 bif decide (List.length u13=List.length u13) then
 bif decide (List.length x13=List.length x13) then
 some ((),((h10,i10,j10,k10,l10,m10,n10,o10,q10,s10,t10,u10,w10,x10,y10,z10,a11,c11,f11,h11,i11,j11,k11,l11,m11,n11,o11,q11,s11,t11,u11,w11,x11,()),(y11,z11,a12,c12,f12,h12,i12,j12,k12,l12,m12,n12,o12,q12,s12,t12,u12,w12,x12,y12,z12,a13,c13,f13,h13,i13,j13,k13,l13,m13,n13,o13,q13,s13,t13,u13,w13,x13,y13,z13,a14,()),(0:Int),()))
 else none
 else none
 else none
 else none
 else none
 else none
 else none
 else none
 else none
 else none
 else none
 else none
 else none
 else
 bif m4 then
 bif decide (List.length n2=List.length n2) then
 bif decide (List.length s2=List.length s2) then
 bif decide (List.length t2=List.length t2) then
 bif decide (List.length z2=List.length z2) then
 bif decide (List.length l3=List.length l3) then
 Option.bind (p35 fu ((m2,n2,o2,q2,s2,t2,u2,w2,x2,y2,z2,a3,c3,f3,h3,i3,j3,k3,l3,m3,n3,o3,q3,s3,t3,u3,w3,x3,y3,z3,a4,c4,f4,false,(0:Int),(0:Int),(0:Int),(0:Int),(0:Int),(0:Int),(0:Int),(0:Int),(⟨#[]⟩:ByteArray),(),(0:Int),(0:Int),(⟨#[]⟩:ByteArray),(0:Int),(0:Int),(0:Int),(0:Int),(⟨#[]⟩:ByteArray),(),(0:Int),(0:Int),(⟨#[]⟩:ByteArray),(0:Int),(0:Int),(0:Int),(0:Int),(⟨#[]⟩:ByteArray),false,(0:Int),(0:Int),(0:Int),(0:Int),(0:Int),false,(),(0:Int),(),(0:Int),(0:Int),(0:Int),()),(u0,w0,x0,y0,z0,a1,c1,f1,h1,i1,j1,k1,l1,m1,n1,o1,q1,s1,t1,u1,w1,x1,y1,z1,a2,c2,f2,h2,i2,j2,k2,l2,()),())) fun ⟨⟨⟨x15,y15,z15,a16,c16,f16,h16,i16,j16,k16,l16,m16,n16,o16,q16,s16,t16,u16,w16,x16,y16,z16,a17,c17,f17,h17,i17,j17,k17,l17,m17,n17,o17,q17,s17,t17,u17,w17,x17,y17,z17,a18,c18,f18,h18,i18,j18,k18,l18,m18,n18,o18,q18,s18,t18,u18,w18,x18,y18,z18,a19,c19,f19,h19,i19,j19,k19,l19,m19,n19,o19,q19,s19,t19,_⟩,_,_,_,_,_,_⟩,u19⟩ =>
 bif (u19 != (0:Int)) then
 Option.bind (p17 fu ((a,c,f,h,i,j,k,l,m,n,o,q,s,t,u,w,x,y,z,a0,c0,f0,h0,i0,j0,k0,l0,m0,n0,o0,q0,s0,t0,()),())) fun ⟨_,⟨w19,x19,y19,z19,a20,c20,f20,h20,i20,j20,k20,l20,m20,n20,o20,q20,s20,t20,u20,w20,x20,y20,z20,a21,c21,f21,h21,i21,j21,k21,l21,m21,n21,_⟩⟩ =>
 bif decide (List.length x19=List.length x19) then
 bif decide (List.length a20=List.length a20) then
 bif decide (List.length c20=List.length c20) then
 bif decide (List.length k20=List.length k20) then
 bif decide (List.length u20=List.length u20) then
 some ((),((w19,x19,y19,z19,a20,c20,f20,h20,i20,j20,k20,l20,m20,n20,o20,q20,s20,t20,u20,w20,x20,y20,z20,a21,c21,f21,h21,i21,j21,k21,l21,m21,n21,()),(false,(0:Int),(0:Int),(0:Int),(0:Int),(0:Int),(0:Int),(0:Int),(0:Int),(⟨#[]⟩:ByteArray),[],(0:Int),(0:Int),(⟨#[]⟩:ByteArray),(0:Int),(0:Int),(0:Int),(0:Int),(⟨#[]⟩:ByteArray),[],(0:Int),(0:Int),(⟨#[]⟩:ByteArray),(0:Int),(0:Int),(0:Int),(0:Int),(⟨#[]⟩:ByteArray),false,(0:Int),(0:Int),(0:Int),(0:Int),(0:Int),false,[],(0:Int),[],(0:Int),(0:Int),(0:Int),()),u19,()))
 else none
 else none
 else none
 else none
 else none
 else
 bif decide (List.length y15=List.length y15) then
 bif decide (List.length c16=List.length c16) then
 bif decide (List.length f16=List.length f16) then
 bif decide (List.length l16=List.length l16) then
 bif decide (List.length w16=List.length w16) then
 bif decide (List.length f18=List.length f18) then
 bif decide (List.length q18=List.length q18) then
 bif decide (List.length m19=List.length m19) then
 bif decide (List.length o19=List.length o19) then
 some ((),((x15,y15,z15,a16,c16,f16,h16,i16,j16,k16,l16,m16,n16,o16,q16,s16,t16,u16,w16,x16,y16,z16,a17,c17,f17,h17,i17,j17,k17,l17,m17,n17,o17,()),(q17,s17,t17,u17,w17,x17,y17,z17,a18,c18,f18,h18,i18,j18,k18,l18,m18,n18,o18,q18,s18,t18,u18,w18,x18,y18,z18,a19,c19,f19,h19,i19,j19,k19,l19,m19,n19,o19,q19,s19,t19,()),(0:Int),()))
 else none
 else none
 else none
 else none
 else none
 else none
 else none
 else none
 else none
 else none
 else none
 else none
 else none
 else none
 else
 bif decide (List.length n2=List.length n2) then
 bif decide (List.length s2=List.length s2) then
 bif decide (List.length t2=List.length t2) then
 bif decide (List.length z2=List.length z2) then
 bif decide (List.length l3=List.length l3) then
 some ((),((m2,n2,o2,q2,s2,t2,u2,w2,x2,y2,z2,a3,c3,f3,h3,i3,j3,k3,l3,m3,n3,o3,q3,s3,t3,u3,w3,x3,y3,z3,a4,c4,f4,()),(false,(0:Int),(0:Int),(0:Int),(0:Int),(0:Int),(0:Int),(0:Int),(0:Int),(⟨#[]⟩:ByteArray),[],(0:Int),(0:Int),(⟨#[]⟩:ByteArray),(0:Int),(0:Int),(0:Int),(0:Int),(⟨#[]⟩:ByteArray),[],(0:Int),(0:Int),(⟨#[]⟩:ByteArray),(0:Int),(0:Int),(0:Int),(0:Int),(⟨#[]⟩:ByteArray),false,(0:Int),(0:Int),(0:Int),(0:Int),(0:Int),false,[],(0:Int),[],(0:Int),(0:Int),(0:Int),()),(1:Int),()))
 else none
 else none
 else none
 else none
 else none
def e10_7 (fu:Nat):Ent := ⟨10,(.cons Y17 (.cons Y45 .nil)),.nil,(.tup 3 (.cons Y42 (.cons Y43 (.cons (.hole (.int .i64)) .nil)))),p10_7 fu⟩
theorem g10_7 (fu:Nat):(e10_7 fu).Good Try.prog := good_fx orders Try.func10 fu [(6,(.ent (e17 fu))),(12,(.ent (e18 fu))),(27,(.either (.ent (e33 fu)) (.either (.ent (e34 fu)) (.ent (e35 fu))))),(32,(.ent (e17 fu)))] [(2,⟨[8],(.cons (.alt false (.clo 33 0 .nil 0 .nil) (.alt false (.clo 34 0 .nil 0 .nil) (.alt false (.clo 35 0 .nil 0 .nil) (.nilv 2)))) .nil),[],.nil,[2,3,4,5,7],[0,16,32,48,96,97,98,99,100,128]⟩)] rs10 42 (l := [e17 fu,e18 fu,e33 fu,e34 fu,e35 fu,e17 fu]) ⟨g17 fu,g18 fu,g33 fu,g34 fu,g35 fu,g17 fu,trivial⟩
def rs36:List RVx := [(.tmp 2)]
def p36 (fu:Nat):(ByteArray)×(Unit)→Option ((Unit)×(Bool)) := fun ⟨a,_⟩ =>
bif decide ((ByteArray.size a:Int)<(1:Int)) then
 some ((),false)
else
 bif decide ((ByteArray.size a:Int)>(32:Int)) then
 some ((),false)
 else
 loopO (S := ((Int)×(Unit))×(Unit)) fu (fun ⟨⟨c,_⟩,_⟩ =>
 bif decide (c<(ByteArray.size a:Int)) then
 bif decide ((0:Int)≤c∧c<(ByteArray.size a:Int)) then
 bif decide ((bAt a (Int.toNat c))<(97:Int)) then
 bif decide ((bAt a (Int.toNat c))<(48:Int)) then
 bif ((bAt a (Int.toNat c)) != (45:Int)) then
 bif ((bAt a (Int.toNat c)) != (95:Int)) then
 bif ((bAt a (Int.toNat c)) != (46:Int)) then
 inrO (some ((),false))
 else
 some (.inl ((IntKind.wrap .i64 (c+(1:Int)),()),()))
 else
 some (.inl ((IntKind.wrap .i64 (c+(1:Int)),()),()))
 else
 some (.inl ((IntKind.wrap .i64 (c+(1:Int)),()),()))
 else
 bif decide ((bAt a (Int.toNat c))>(57:Int)) then
 bif ((bAt a (Int.toNat c)) != (45:Int)) then
 bif ((bAt a (Int.toNat c)) != (95:Int)) then
 bif ((bAt a (Int.toNat c)) != (46:Int)) then
 inrO (some ((),false))
 else
 some (.inl ((IntKind.wrap .i64 (c+(1:Int)),()),()))
 else
 some (.inl ((IntKind.wrap .i64 (c+(1:Int)),()),()))
 else
 some (.inl ((IntKind.wrap .i64 (c+(1:Int)),()),()))
 else
 some (.inl ((IntKind.wrap .i64 (c+(1:Int)),()),()))
 else
 bif decide ((bAt a (Int.toNat c))>(122:Int)) then
 bif decide ((bAt a (Int.toNat c))<(48:Int)) then
 bif ((bAt a (Int.toNat c)) != (45:Int)) then
 bif ((bAt a (Int.toNat c)) != (95:Int)) then
 bif ((bAt a (Int.toNat c)) != (46:Int)) then
 inrO (some ((),false))
 else
 some (.inl ((IntKind.wrap .i64 (c+(1:Int)),()),()))
 else
 some (.inl ((IntKind.wrap .i64 (c+(1:Int)),()),()))
 else
 some (.inl ((IntKind.wrap .i64 (c+(1:Int)),()),()))
 else
 bif decide ((bAt a (Int.toNat c))>(57:Int)) then
 bif ((bAt a (Int.toNat c)) != (45:Int)) then
 bif ((bAt a (Int.toNat c)) != (95:Int)) then
 bif ((bAt a (Int.toNat c)) != (46:Int)) then
 inrO (some ((),false))
 else
 some (.inl ((IntKind.wrap .i64 (c+(1:Int)),()),()))
 else
 some (.inl ((IntKind.wrap .i64 (c+(1:Int)),()),()))
 else
 some (.inl ((IntKind.wrap .i64 (c+(1:Int)),()),()))
 else
 some (.inl ((IntKind.wrap .i64 (c+(1:Int)),()),()))
 else
 some (.inl ((IntKind.wrap .i64 (c+(1:Int)),()),()))
 else none
 else
 inrO (some ((),true)))
 (((0:Int),()),())
def e36 (fu:Nat):Ent := ⟨36,(.cons (.hole .str) .nil),.nil,(.hole .bool),p36 fu⟩
theorem g36 (fu:Nat):(e36 fu).Good Try.prog := good_fx orders Try.func36 fu [] [(6,⟨[3],(.cons (.hole (.int .i64)) .nil),[],.nil,[0],[]⟩)] rs36 48 (l := []) trivial
def rs19:List RVx := [(.tmp 2)]
def p19 (fu:Nat):(Z14)×(Unit)→Option ((Unit)×(Bool)) := fun ⟨⟨a,c,_,_,_,_,_,f,_,_,_,_,_,_,_,_,_,_,_,_⟩,_⟩ =>
bif decide (a<(1:Int)) then
 some ((),false)
else
 bif decide (a>(6:Int)) then
 some ((),false)
 else
 bif (a==(5:Int)) then
 bif decide (f≥(1:Int)) then
 some ((),decide (f≤(4:Int)))
 else
 some ((),false)
 else
 Option.bind (p36 fu (c,())) fun ⟨_,h⟩ =>
 some ((),h)
def e19 (fu:Nat):Ent := ⟨19,(.cons Y19 .nil),.nil,(.hole .bool),p19 fu⟩
theorem g19 (fu:Nat):(e19 fu).Good Try.prog := good_fx orders Try.func19 fu [(27,(.ent (e36 fu)))] [] rs19 27 (l := [e36 fu]) ⟨g36 fu,trivial⟩
def rs20:List RVx := [(.tmp 2)]
def p20 (_:Nat):(Int)×(Unit)→Option ((Unit)×(Bool)) := fun ⟨a,_⟩ =>
bif (a==(1:Int)) then
 some ((),true)
else
 bif (a==(3:Int)) then
 some ((),true)
 else
 some ((),(a==(5:Int)))
def e20 (fu:Nat):Ent := ⟨20,(.cons (.hole (.int .i64)) .nil),.nil,(.hole .bool),p20 fu⟩
theorem g20 (fu:Nat):(e20 fu).Good Try.prog := good_fx orders Try.func20 fu [] [] rs20 13 (l := []) trivial
def rs37:List RVx := []
def p37 (_:Nat):(Z0)×((Z23)×(Unit))→Option (((Z26)×((Unit)×((Unit)×((Unit)×((Unit)×((Unit)×(Unit)))))))×(Unit)) := fun ⟨⟨a,c,f,h,i,j,_,_,_,_,_,_,_,_,_,_,_,_,_,_,_,_,_,_,_,_,k,_,_,_,_,_,l,m,n,o,q,s,t,u,w,x,y,_,z,a0,c0,f0,h0,i0,j0,k0,_,l0,m0,n0,o0,q0,s0,t0,u0,_,_,_,_,_,_,_,_,_,_,_,_,_,_⟩,⟨w0,x0,y0,z0,a1,c1,f1,h1,i1,j1,k1,l1,_⟩,_⟩ =>
bif decide (List.length c=List.length c) then
 bif decide (List.length i=List.length i) then
 bif decide (List.length j=List.length j) then
 some (((a,c,f,h,i,j,false,(0:Int),(⟨#[]⟩:ByteArray),(⟨#[]⟩:ByteArray),(),(0:Int),(0:Int),(⟨#[]⟩:ByteArray),(0:Int),(0:Int),(0:Int),(⟨#[]⟩:ByteArray),(),(0:Int),(0:Int),(⟨#[]⟩:ByteArray),(0:Int),(0:Int),(0:Int),(0:Int),k,false,(0:Int),(0:Int),(0:Int),false,l,m,n,o,q,s,t,u,w,x,y,(),z,a0,c0,f0,h0,i0,j0,k0,(),l0,m0,n0,o0,q0,s0,t0,u0,true,w0,x0,y0,z0,a1,c1,f1,h1,i1,j1,k1,l1,()),(),(),(),(),(),()),())
 else none
 else none
else none
def e37 (fu:Nat):Ent := ⟨37,(.cons Y46 (.cons Y37 .nil)),(.cons Y47 (.cons .dead (.cons .dead (.cons .dead (.cons .dead (.cons .dead .nil)))))),(.tup 0 .nil),p37 fu⟩
theorem g37 (fu:Nat):(e37 fu).Good Try.prog := good_fx orders Try.func37 fu [] [] rs37 42 (l := []) trivial
def p37_3 (_:Nat):(Z0)×((Z48)×(Unit))→Option (((Z49)×((Unit)×((Unit)×((Unit)×((Unit)×((Unit)×(Unit)))))))×(Unit)) := fun ⟨⟨a,c,f,h,i,j,_,_,_,_,_,_,_,_,_,_,_,_,_,_,_,_,_,_,_,_,k,_,_,_,_,_,l,m,n,o,q,s,t,u,w,x,y,_,z,a0,c0,f0,h0,i0,j0,k0,_,l0,m0,n0,o0,q0,s0,t0,u0,_,_,_,_,_,_,_,_,_,_,_,_,_,_⟩,⟨w0,x0,y0,z0,a1,c1,_,f1,_,h1,i1,j1,_⟩,_⟩ =>
bif decide (List.length c=List.length c) then
 bif decide (List.length i=List.length i) then
 bif decide (List.length j=List.length j) then
 some (((a,c,f,h,i,j,false,(0:Int),(⟨#[]⟩:ByteArray),(⟨#[]⟩:ByteArray),(),(0:Int),(0:Int),(⟨#[]⟩:ByteArray),(0:Int),(0:Int),(0:Int),(⟨#[]⟩:ByteArray),(),(0:Int),(0:Int),(⟨#[]⟩:ByteArray),(0:Int),(0:Int),(0:Int),(0:Int),k,false,(0:Int),(0:Int),(0:Int),false,l,m,n,o,q,s,t,u,w,x,y,(),z,a0,c0,f0,h0,i0,j0,k0,(),l0,m0,n0,o0,q0,s0,t0,u0,true,w0,x0,y0,z0,a1,c1,(),f1,(),h1,i1,j1,()),(),(),(),(),(),()),())
 else none
 else none
else none
def e37_3 (fu:Nat):Ent := ⟨37,(.cons Y46 (.cons Y50 .nil)),(.cons Y51 (.cons .dead (.cons .dead (.cons .dead (.cons .dead (.cons .dead .nil)))))),(.tup 0 .nil),p37_3 fu⟩
theorem g37_3 (fu:Nat):(e37_3 fu).Good Try.prog := good_fx orders Try.func37 fu [] [] rs37 42 (l := []) trivial
def rs46:List RVx := [(.tmp 2)]
def p46 (fu:Nat):(Z3)×(Unit)→Option ((Unit)×(Int)) := fun ⟨⟨_,_,_,_,a,_,_,_,c,_,_,_,_,_,_,_,_,_,_,_,_,_,_,_,_,_,_,_,_,_,_,_,_,_,_,_,_,_,_,_,_,_,_,_,_,_,_,_,_,_,_,_,_,_,_,_,_,_,_,_,_,_,_,_,_,_,_,_,_,_,_,_,_,_,_⟩,_⟩ =>
loopO (S := ((Int)×(Unit))×(Unit)) fu (fun ⟨⟨f,_⟩,_⟩ =>
 bif decide (f<(List.length a:Int)) then
 bif decide ((0:Int)≤f∧f<(List.length a:Int)) then
 bif decide (Int.toNat f<List.length a) then
 bif ByteArray.toList ((List.getD a (Int.toNat f) (dflt T_api_Topic)).1)==ByteArray.toList c then
 inrO (some ((),f))
 else
 some (.inl ((IntKind.wrap .i64 (f+(1:Int)),()),()))
 else none
 else none
 else
 inrO (some ((),((-1):Int))))
 (((0:Int),()),())
def e46 (fu:Nat):Ent := ⟨46,(.cons (.look (.cons (.hole (.int .i64)) (.cons (.hole (.sl .any (.int .i64))) (.cons (.hole (.int .u64)) (.cons (.hole (.int .u64)) (.cons (.hole (.sl .any T_api_Topic)) (.cons (.hole (.sl .any T_api_Site)) (.cons (.hole .bool) (.cons (.hole (.int .i64)) (.cons (.hole .str) (.cons (.hole .str) (.cons (.hole (.sl .any (.int .u8))) (.cons (.hole (.int .u64)) (.cons (.hole (.int .i64)) (.cons (.hole .str) (.cons (.hole (.int .i64)) (.cons (.hole (.int .u64)) (.cons (.hole (.int .u64)) (.cons (.hole .str) (.cons (.hole (.sl .any (.int .i64))) (.cons (.hole (.int .u64)) (.cons (.hole (.int .u64)) (.cons (.hole .str) (.cons (.hole (.int .i64)) (.cons (.hole (.int .i64)) (.cons (.hole (.int .u64)) (.cons (.hole (.int .i64)) (.cons (.hole (.int .u64)) (.cons (.hole .bool) (.cons (.hole (.int .u64)) (.cons (.hole (.int .i64)) (.cons (.hole (.int .i64)) (.cons (.hole .bool) (.cons (.hole (.int .i64)) (.cons (.hole .bool) (.cons (.hole (.int .i64)) (.cons (.hole (.int .u64)) (.cons (.hole (.int .i64)) (.cons (.hole (.int .u64)) (.cons (.hole (.int .i64)) (.cons (.hole (.int .u64)) (.cons (.hole (.int .u64)) (.cons (.hole (.int .u64)) (.cons (.hole .str) (.cons (.hole (.sl .any (.int .u8))) (.cons (.hole (.int .u64)) (.cons (.hole (.int .i64)) (.cons (.hole .str) (.cons (.hole (.int .u64)) (.cons (.hole (.int .i64)) (.cons (.hole (.int .u64)) (.cons (.hole (.int .u64)) (.cons (.hole .str) (.cons (.hole (.sl .any (.int .i64))) (.cons (.hole (.int .u64)) (.cons (.hole (.int .u64)) (.cons (.hole .str) (.cons (.hole (.int .i64)) (.cons (.hole (.int .i64)) (.cons (.hole (.int .u64)) (.cons (.hole (.int .i64)) (.cons (.hole .str) (.cons (.hole .bool) (.cons (.hole (.int .u64)) (.cons (.hole (.int .i64)) (.cons (.hole (.int .i64)) (.cons (.hole (.int .i64)) (.cons (.hole (.int .u64)) (.cons (.hole .bool) (.cons (.hole (.sl .any T_api_Record)) (.cons (.hole (.int .u64)) (.cons (.hole (.sl .any T_api_Shard)) (.cons (.hole (.int .u64)) (.cons (.hole (.int .u64)) (.cons (.hole (.int .u64)) .nil))))))))))))))))))))))))))))))))))))))))))))))))))))))))))))))))))))))))))) .nil),.nil,(.hole (.int .i64)),p46 fu⟩
theorem g46 (fu:Nat):(e46 fu).Good Try.prog := good_fx orders Try.func46 fu [] [(3,⟨[3],(.cons (.hole (.int .i64)) .nil),[],.nil,[0],[]⟩)] rs46 31 (l := []) trivial
def rs83:List RVx := [(.tmp 2)]
def p83 (_:Nat):((ByteArray)×((ByteArray)×(Unit)))×(Unit)→Option ((Unit)×(Int)) := fun ⟨⟨a,c,_⟩,_⟩ =>
bif decide ((ByteArray.size a:Int)>(32:Int)) then
 some ((),(131:Int))
else
 bif decide ((ByteArray.size c:Int)>(32:Int)) then
 some ((),(131:Int))
 else
 bif !(ByteArray.toList c==ByteArray.toList (⟨#[]⟩:ByteArray)) then
 bif (Op.bytesLess (ByteArray.toList c) (ByteArray.toList a)||ByteArray.toList c==ByteArray.toList a) then
 some ((),(132:Int))
 else
 some ((),(0:Int))
 else
 some ((),(0:Int))
def e83 (fu:Nat):Ent := ⟨83,(.cons (.agg 2 (.cons (.hole .str) (.cons (.hole .str) .nil))) .nil),.nil,(.hole (.int .i64)),p83 fu⟩
theorem g83 (fu:Nat):(e83 fu).Good Try.prog := good_fx orders Try.func83 fu [] [] rs83 23 (l := []) trivial
def rs67:List RVx := [(.tmp 4)]
def p67 (fu:Nat):((ByteArray)×((ByteArray)×(Unit)))×((ByteArray)×(Unit))→Option ((Unit)×(Bool)) := fun ⟨⟨a,c,_⟩,f,_⟩ =>
Option.bind (p83 fu ((a,c,()),())) fun ⟨_,h⟩ =>
bif (h==(0:Int)) then
 bif decide ((ByteArray.size f:Int)≤(32:Int)) then
 bif !Op.bytesLess (ByteArray.toList f) (ByteArray.toList a) then
 bif ByteArray.toList c==ByteArray.toList (⟨#[]⟩:ByteArray) then
 some ((),true)
 else
 some ((),Op.bytesLess (ByteArray.toList f) (ByteArray.toList c))
 else
 some ((),false)
 else
 some ((),false)
else
 some ((),false)
def e67 (fu:Nat):Ent := ⟨67,(.cons (.agg 2 (.cons (.hole .str) (.cons (.hole .str) .nil))) (.cons (.hole .str) .nil)),.nil,(.hole .bool),p67 fu⟩
theorem g67 (fu:Nat):(e67 fu).Good Try.prog := good_fx orders Try.func67 fu [(3,(.ent (e83 fu)))] [] rs67 30 (l := [e83 fu]) ⟨g83 fu,trivial⟩
def rs38:List RVx := [(.cell 2 true 7),(.tmp 3)]
def p38_1 (fu:Nat):(Z0)×(Unit)→Option (((Z0)×(Unit))×((Z8)×((Bool)×(Unit)))) := fun ⟨⟨a,c,f,h,i,j,k,l,m,n,o,q,s,t,u,w,x,y,z,a0,c0,f0,h0,i0,j0,k0,l0,m0,n0,o0,q0,s0,t0,u0,w0,x0,y0,z0,a1,c1,f1,h1,i1,_,j1,k1,l1,m1,n1,o1,q1,s1,_,t1,u1,w1,x1,y1,z1,a2,c2,f2,h2,i2,j2,k2,l2,m2,_,n2,_,o2,q2,s2,_⟩,_⟩ =>
Option.bind (p46 fu ((a,c,f,h,i,j,k,l,m,n,o,q,s,t,u,w,x,y,z,a0,c0,f0,h0,i0,j0,k0,l0,m0,n0,o0,q0,s0,t0,u0,w0,x0,y0,z0,a1,c1,f1,h1,i1,[],j1,k1,l1,m1,n1,o1,q1,s1,[],t1,u1,w1,x1,y1,z1,a2,c2,f2,h2,i2,j2,k2,l2,m2,[],n2,[],o2,q2,s2,()),())) fun ⟨_,t2⟩ =>
bif decide (t2<(0:Int)) then
 some (((a,c,f,h,i,j,k,l,m,n,o,q,s,t,u,w,x,y,z,a0,c0,f0,h0,i0,j0,k0,l0,m0,n0,o0,q0,s0,t0,u0,w0,x0,y0,z0,a1,c1,f1,h1,i1,(),j1,k1,l1,m1,n1,o1,q1,s1,(),t1,u1,w1,x1,y1,z1,a2,c2,f2,h2,i2,j2,k2,l2,m2,(),n2,(),o2,q2,s2,()),()),(((0:Int),(⟨#[]⟩:ByteArray),(⟨#[]⟩:ByteArray),(0:Int),[],[],(0:Int),()),false,()))
else
 bif decide ((0:Int)≤t2∧t2<(List.length i:Int)) then
 bif decide (Int.toNat t2<List.length i) then
 loopO (S := ((Int)×(Unit))×(Unit)) fu (fun ⟨⟨u2,_⟩,_⟩ =>
 bif decide (u2<(List.length ((List.getD i (Int.toNat t2) (dflt T_api_Topic)).2):Int)) then
 bif decide ((0:Int)≤u2∧u2<(List.length ((List.getD i (Int.toNat t2) (dflt T_api_Topic)).2):Int)) then
 bif decide (Int.toNat u2<List.length ((List.getD i (Int.toNat t2) (dflt T_api_Topic)).2)) then
 Option.bind (p67 fu (((((List.getD ((List.getD i (Int.toNat t2) (dflt T_api_Topic)).2) (Int.toNat u2) (dflt T_api_Shard)).2).1).1,(((List.getD ((List.getD i (Int.toNat t2) (dflt T_api_Topic)).2) (Int.toNat u2) (dflt T_api_Shard)).2).1).2,()),n,())) fun ⟨_,w2⟩ =>
 bif w2 then
 bif decide ((0:Int)≤u2∧u2<(List.length ((List.getD i (Int.toNat t2) (dflt T_api_Topic)).2):Int)) then
 bif decide (Int.toNat u2<List.length ((List.getD i (Int.toNat t2) (dflt T_api_Topic)).2)) then
 inrO (some (((a,c,f,h,i,j,k,l,m,n,o,q,s,t,u,w,x,y,z,a0,c0,f0,h0,i0,j0,k0,l0,m0,n0,o0,q0,s0,t0,u0,w0,x0,y0,z0,a1,c1,f1,h1,i1,(),j1,k1,l1,m1,n1,o1,q1,s1,(),t1,u1,w1,x1,y1,z1,a2,c2,f2,h2,i2,j2,k2,l2,m2,(),n2,(),o2,q2,s2,()),()),(((List.getD ((List.getD i (Int.toNat t2) (dflt T_api_Topic)).2) (Int.toNat u2) (dflt T_api_Shard)).1,(((List.getD ((List.getD i (Int.toNat t2) (dflt T_api_Topic)).2) (Int.toNat u2) (dflt T_api_Shard)).2).1).1,(((List.getD ((List.getD i (Int.toNat t2) (dflt T_api_Topic)).2) (Int.toNat u2) (dflt T_api_Shard)).2).1).2,(((List.getD ((List.getD i (Int.toNat t2) (dflt T_api_Topic)).2) (Int.toNat u2) (dflt T_api_Shard)).2).2).1,((((List.getD ((List.getD i (Int.toNat t2) (dflt T_api_Topic)).2) (Int.toNat u2) (dflt T_api_Shard)).2).2).2).1,(((((List.getD ((List.getD i (Int.toNat t2) (dflt T_api_Topic)).2) (Int.toNat u2) (dflt T_api_Shard)).2).2).2).2).1,(((((List.getD ((List.getD i (Int.toNat t2) (dflt T_api_Topic)).2) (Int.toNat u2) (dflt T_api_Shard)).2).2).2).2).2,()),true,())))
 else none
 else none
 else
 some (.inl ((IntKind.wrap .i64 (u2+(1:Int)),()),()))
 else none
 else none
 else
 inrO (some (((a,c,f,h,i,j,k,l,m,n,o,q,s,t,u,w,x,y,z,a0,c0,f0,h0,i0,j0,k0,l0,m0,n0,o0,q0,s0,t0,u0,w0,x0,y0,z0,a1,c1,f1,h1,i1,(),j1,k1,l1,m1,n1,o1,q1,s1,(),t1,u1,w1,x1,y1,z1,a2,c2,f2,h2,i2,j2,k2,l2,m2,(),n2,(),o2,q2,s2,()),()),(((0:Int),(⟨#[]⟩:ByteArray),(⟨#[]⟩:ByteArray),(0:Int),[],[],(0:Int),()),false,()))))
 (((0:Int),()),())
 else none
 else none
def e38_1 (fu:Nat):Ent := ⟨38,(.cons Y52 .nil),(.cons Y53 .nil),(.tup 2 (.cons Y30 (.cons (.hole .bool) .nil))),p38_1 fu⟩
theorem g38_1 (fu:Nat):(e38_1 fu).Good Try.prog := good_fx orders Try.func38 fu [(3,(.ent (e46 fu))),(36,(.ent (e67 fu)))] [(8,⟨[6],(.cons (.hole (.int .i64)) .nil),[],.nil,[0,2,5],[0,2]⟩)] rs38 46 (l := [e46 fu,e67 fu]) ⟨g46 fu,g67 fu,trivial⟩
def rs39:List RVx := [(.tmp 4)]
def p39 (fu:Nat):(Z3)×((Int)×(Unit))→Option ((Unit)×(Int)) := fun ⟨⟨_,a,_,_,_,c,_,_,_,_,_,_,_,_,_,_,_,_,_,_,_,_,_,_,_,_,_,_,_,_,_,_,f,_,_,_,_,_,_,_,_,_,_,_,_,_,_,_,_,_,_,_,_,_,_,_,_,_,_,_,_,_,_,_,_,_,_,_,_,_,_,_,_,_,_⟩,h,_⟩ =>
loopO (S := ((Int)×(Unit))×(Unit)) fu (fun ⟨⟨i,_⟩,_⟩ =>
 bif decide (i<(List.length c:Int)) then
 bif decide ((0:Int)≤i∧i<(List.length c:Int)) then
 bif decide (Int.toNat i<List.length c) then
 bif (((List.getD c (Int.toNat i) (dflt T_api_Site)).1)==h) then
 bif decide ((0:Int)≤i∧i<(List.length c:Int)) then
 bif decide (Int.toNat i<List.length c) then
 inrO (some ((),(List.getD c (Int.toNat i) (dflt T_api_Site)).2))
 else none
 else none
 else
 some (.inl ((IntKind.wrap .i64 (i+(1:Int)),()),()))
 else none
 else none
 else
 inrO (bif decide ((0:Int)≤f∧f<(List.length a:Int)) then
 bif decide (Int.toNat f<List.length a) then
 some ((),(List.getD a (Int.toNat f) (dflt (.int .i64))))
 else none
 else none))
 (((0:Int),()),())
def e39 (fu:Nat):Ent := ⟨39,(.cons (.look (.cons (.hole (.int .i64)) (.cons (.hole (.sl .any (.int .i64))) (.cons (.hole (.int .u64)) (.cons (.hole (.int .u64)) (.cons (.hole (.sl .any T_api_Topic)) (.cons (.hole (.sl .any T_api_Site)) (.cons (.hole .bool) (.cons (.hole (.int .i64)) (.cons (.hole .str) (.cons (.hole .str) (.cons (.hole (.sl .any (.int .u8))) (.cons (.hole (.int .u64)) (.cons (.hole (.int .i64)) (.cons (.hole .str) (.cons (.hole (.int .i64)) (.cons (.hole (.int .u64)) (.cons (.hole (.int .u64)) (.cons (.hole .str) (.cons (.hole (.sl .any (.int .i64))) (.cons (.hole (.int .u64)) (.cons (.hole (.int .u64)) (.cons (.hole .str) (.cons (.hole (.int .i64)) (.cons (.hole (.int .i64)) (.cons (.hole (.int .u64)) (.cons (.hole (.int .i64)) (.cons (.hole (.int .u64)) (.cons (.hole .bool) (.cons (.hole (.int .u64)) (.cons (.hole (.int .i64)) (.cons (.hole (.int .i64)) (.cons (.hole .bool) (.cons (.hole (.int .i64)) (.cons (.hole .bool) (.cons (.hole (.int .i64)) (.cons (.hole (.int .u64)) (.cons (.hole (.int .i64)) (.cons (.hole (.int .u64)) (.cons (.hole (.int .i64)) (.cons (.hole (.int .u64)) (.cons (.hole (.int .u64)) (.cons (.hole (.int .u64)) (.cons (.hole .str) (.cons (.hole (.sl .any (.int .u8))) (.cons (.hole (.int .u64)) (.cons (.hole (.int .i64)) (.cons (.hole .str) (.cons (.hole (.int .u64)) (.cons (.hole (.int .i64)) (.cons (.hole (.int .u64)) (.cons (.hole (.int .u64)) (.cons (.hole .str) (.cons (.hole (.sl .any (.int .i64))) (.cons (.hole (.int .u64)) (.cons (.hole (.int .u64)) (.cons (.hole .str) (.cons (.hole (.int .i64)) (.cons (.hole (.int .i64)) (.cons (.hole (.int .u64)) (.cons (.hole (.int .i64)) (.cons (.hole .str) (.cons (.hole .bool) (.cons (.hole (.int .u64)) (.cons (.hole (.int .i64)) (.cons (.hole (.int .i64)) (.cons (.hole (.int .i64)) (.cons (.hole (.int .u64)) (.cons (.hole .bool) (.cons (.hole (.sl .any T_api_Record)) (.cons (.hole (.int .u64)) (.cons (.hole (.sl .any T_api_Shard)) (.cons (.hole (.int .u64)) (.cons (.hole (.int .u64)) (.cons (.hole (.int .u64)) .nil))))))))))))))))))))))))))))))))))))))))))))))))))))))))))))))))))))))))))) (.cons (.hole (.int .u64)) .nil)),.nil,(.hole (.int .i64)),p39 fu⟩
theorem g39 (fu:Nat):(e39 fu).Good Try.prog := good_fx orders Try.func39 fu [] [(3,⟨[5],(.cons (.hole (.int .i64)) .nil),[],.nil,[0,1],[]⟩)] rs39 48 (l := []) trivial
def rs40:List RVx := [(.tmp 2)]
def p40 (_:Nat):(Int)×(Unit)→Option ((Unit)×(Int)) := fun ⟨a,_⟩ =>
bif (a==(1:Int)) then
 some ((),(1:Int))
else
 bif (a==(2:Int)) then
 some ((),(2:Int))
 else
 bif (a==(3:Int)) then
 some ((),(3:Int))
 else
 some ((),(4:Int))
def e40 (fu:Nat):Ent := ⟨40,(.cons (.hole (.int .i64)) .nil),.nil,(.hole (.int .i64)),p40 fu⟩
theorem g40 (fu:Nat):(e40 fu).Good Try.prog := good_fx orders Try.func40 fu [] [] rs40 10 (l := []) trivial
def rs21:List RVx := []
def p21 (fu:Nat):(Z0)×(Unit)→Option (((Z54)×((Unit)×((Unit)×((Unit)×((Unit)×((Unit)×(Unit)))))))×(Unit)) := fun ⟨⟨a,c,f,h,i,j,k,l,m,n,o,q,s,t,u,w,x,y,z,a0,c0,f0,h0,i0,j0,k0,l0,m0,n0,o0,q0,s0,t0,u0,w0,x0,y0,z0,a1,c1,f1,h1,i1,_,j1,k1,l1,m1,n1,o1,q1,s1,_,t1,u1,w1,x1,y1,z1,a2,c2,f2,h2,i2,j2,k2,l2,m2,_,n2,_,o2,q2,s2,_⟩,_⟩ =>
bif decide (o0≥(24:Int)) then
 bif decide (List.length c=List.length c) then
 bif decide (List.length i=List.length i) then
 bif decide (List.length j=List.length j) then
 bif decide (List.length o=List.length o) then
 bif decide (List.length z=List.length z) then
 Option.bind (p37_3 fu ((a,c,f,h,i,j,k,l,m,n,o,q,s,t,u,w,x,y,z,a0,c0,f0,h0,i0,j0,k0,l0,m0,n0,o0,q0,s0,t0,u0,w0,x0,y0,z0,a1,c1,f1,h1,i1,(),j1,k1,l1,m1,n1,o1,q1,s1,(),t1,u1,w1,x1,y1,z1,a2,c2,f2,h2,i2,j2,k2,l2,m2,(),n2,(),o2,q2,s2,()),((0:Int),(213:Int),(0:Int),(0:Int),(0:Int),false,(),(0:Int),(),(0:Int),(0:Int),(0:Int),()),())) fun ⟨⟨⟨t2,u2,w2,x2,y2,z2,a3,c3,f3,h3,_,i3,j3,k3,l3,m3,n3,o3,_,q3,s3,t3,u3,w3,x3,y3,z3,a4,c4,f4,h4,i4,j4,k4,l4,m4,n4,o4,q4,s4,t4,u4,w4,_,x4,y4,z4,a5,c5,f5,h5,i5,_,j5,k5,l5,m5,n5,o5,q5,s5,t5,u5,w5,x5,y5,z5,a6,_,c6,_,f6,h6,i6,_⟩,_,_,_,_,_,_⟩,_⟩ =>
 bif decide (List.length u2=List.length u2) then
 bif decide (List.length y2=List.length y2) then
 bif decide (List.length z2=List.length z2) then
 some (((t2,u2,w2,x2,y2,z2,a3,c3,f3,h3,[],i3,j3,k3,l3,m3,n3,o3,[],q3,s3,t3,u3,w3,x3,y3,z3,a4,c4,f4,h4,i4,j4,k4,l4,m4,n4,o4,q4,s4,t4,u4,w4,[],x4,y4,z4,a5,c5,f5,h5,i5,[],j5,k5,l5,m5,n5,o5,q5,s5,t5,u5,w5,x5,y5,z5,a6,(),c6,(),f6,h6,i6,()),(),(),(),(),(),()),())
 else none
 else none
 else none
 else none
 else none
 else none
 else none
 else none
else
 orK (E := (Unit)×((Z0)×(Unit)))
 (bif decide (List.length c=List.length c) then
 bif decide (List.length i=List.length i) then
 bif decide (List.length j=List.length j) then
 bif decide (List.length o=List.length o) then
 bif decide (List.length z=List.length z) then
 some (.inl ((),((a,c,f,h,i,j,k,l,m,n,o,q,s,t,u,w,x,y,z,a0,c0,f0,h0,i0,j0,k0,IntKind.wrap .u64 (l0+(1:Int)),false,(0:Int),IntKind.wrap .i64 (o0+(1:Int)),(0:Int),false,t0,u0,w0,x0,y0,z0,a1,c1,f1,h1,i1,(),j1,k1,l1,m1,n1,o1,q1,s1,(),t1,u1,w1,x1,y1,z1,a2,c2,f2,h2,i2,j2,k2,l2,m2,(),n2,(),o2,q2,s2,()),())))
 else none
 else none
 else none
 else none
 else none)
 fun ⟨_,⟨⟨j6,k6,l6,m6,n6,o6,q6,s6,t6,u6,w6,x6,y6,z6,a7,c7,f7,h7,i7,j7,k7,l7,m7,n7,o7,q7,s7,t7,u7,w7,x7,y7,z7,a8,c8,f8,h8,i8,j8,k8,l8,m8,n8,_,o8,q8,s8,t8,u8,w8,x8,y8,_,z8,a9,c9,f9,h9,i9,j9,k9,l9,m9,n9,o9,q9,s9,t9,_,u9,_,w9,x9,y9,_⟩,_⟩⟩ =>
 Option.bind (p38_1 fu ((j6,k6,l6,m6,n6,o6,q6,s6,t6,u6,w6,x6,y6,z6,a7,c7,f7,h7,i7,j7,k7,l7,m7,n7,o7,q7,s7,t7,u7,w7,x7,y7,z7,a8,c8,f8,h8,i8,j8,k8,l8,m8,n8,(),o8,q8,s8,t8,u8,w8,x8,y8,(),z8,a9,c9,f9,h9,i9,j9,k9,l9,m9,n9,o9,q9,s9,t9,(),u9,(),w9,x9,y9,()),())) fun ⟨⟨⟨z9,a10,c10,f10,h10,i10,j10,k10,l10,m10,n10,o10,q10,s10,t10,u10,w10,x10,y10,z10,a11,c11,f11,h11,i11,j11,k11,l11,m11,n11,o11,q11,s11,_,_,t11,u11,w11,x11,y11,z11,a12,c12,_,f12,h12,i12,j12,k12,l12,m12,n12,_,o12,q12,s12,t12,u12,w12,x12,y12,z12,a13,c13,f13,h13,i13,j13,_,k13,_,l13,m13,n13,_⟩,_⟩,⟨⟨o13,_,_,q13,_,_,_,_⟩,s13,_⟩⟩ =>
 bif decide ((0:Int)≤s11∧s11<(List.length a10:Int)) then
 bif decide (Int.toNat s11<List.length a10) then
 orK (E := (Unit)×((Z0)×((Z2)×(Unit))))
 (bif (s6==(5:Int)) then
 Option.bind (p7 fu ((s6,t6,u6,w6,x6,y6,z6,a7,c7,f7,h7,i7,j7,k7,l7,m7,n7,o7,q7,()),())) fun ⟨_,⟨_,_,_,_,_,_,_,t13,_,_,u13,w13,x13,y13,z13,a14,c14,f14,h14,_⟩⟩ =>
 Option.bind (p39 fu ((z9,a10,c10,f10,h10,i10,j10,k10,l10,m10,n10,o10,q10,s10,t10,u10,w10,x10,y10,z10,a11,c11,f11,h11,i11,j11,k11,l11,m11,n11,o11,q11,s11,true,(List.getD a10 (Int.toNat s11) (dflt (.int .i64))),t11,u11,w11,x11,y11,z11,a12,c12,[],f12,h12,i12,j12,k12,l12,m12,n12,[],o12,q12,s12,t12,u12,w12,x12,y12,z12,a13,c13,f13,h13,i13,j13,[],k13,[],l13,m13,n13,()),(0:Int),())) fun ⟨_,i14⟩ =>
 bif decide (List.length w13=List.length w13) then
 some (.inl ((),((z9,a10,c10,f10,h10,i10,j10,k10,l10,m10,n10,o10,q10,s10,t10,u10,w10,x10,y10,z10,a11,c11,f11,h11,i11,j11,k11,l11,m11,n11,o11,q11,s11,true,i14,t11,u11,w11,x11,y11,z11,a12,c12,(),f12,h12,i12,j12,k12,l12,m12,n12,(),o12,q12,s12,t12,u12,w12,x12,y12,z12,a13,c13,f13,h13,i13,j13,(),k13,(),l13,m13,n13,()),(s7,s6,(0:Int),(0:Int),(0:Int),(0:Int),(0:Int),(⟨#[]⟩:ByteArray),[],(0:Int),(0:Int),(⟨#[]⟩:ByteArray),(0:Int),t13,c10,f10,u13,w13,x13,y13,z13,a14,c14,f14,h14,(⟨#[]⟩:ByteArray),()),())))
 else none
 else
 orK (E := ((Bool)×(Unit))×(Unit))
 (bif (s6==(6:Int)) then
 some (.inl ((true,()),()))
 else
 some (.inl ((!s13,()),())))
 fun ⟨⟨j14,_⟩,_⟩ =>
 bif j14 then
 some (.inl ((),((z9,a10,c10,f10,h10,i10,j10,k10,l10,m10,n10,o10,q10,s10,t10,u10,w10,x10,y10,z10,a11,c11,f11,h11,i11,j11,k11,(s6 != (6:Int)),m11,n11,o11,q11,s11,true,(List.getD a10 (Int.toNat s11) (dflt (.int .i64))),t11,u11,w11,x11,y11,z11,a12,c12,(),f12,h12,i12,j12,k12,l12,m12,n12,(),o12,q12,s12,t12,u12,w12,x12,y12,z12,a13,c13,f13,h13,i13,j13,(),k13,(),l13,m13,n13,()),(s7,(6:Int),(0:Int),(0:Int),(0:Int),(0:Int),(0:Int),(⟨#[]⟩:ByteArray),[],(0:Int),(0:Int),(⟨#[]⟩:ByteArray),(0:Int),(0:Int),(0:Int),(0:Int),(⟨#[]⟩:ByteArray),[],(0:Int),(0:Int),(⟨#[]⟩:ByteArray),(0:Int),(0:Int),(0:Int),(0:Int),t6,()),())))
 else
 Option.bind (p39 fu ((z9,a10,c10,f10,h10,i10,j10,k10,l10,m10,n10,o10,q10,s10,t10,u10,w10,x10,y10,z10,a11,c11,f11,h11,i11,j11,k11,l11,o13,n11,o11,q11,s11,true,(List.getD a10 (Int.toNat s11) (dflt (.int .i64))),t11,u11,w11,x11,y11,z11,a12,c12,[],f12,h12,i12,j12,k12,l12,m12,n12,[],o12,q12,s12,t12,u12,w12,x12,y12,z12,a13,c13,f13,h13,i13,j13,[],k13,[],l13,m13,n13,()),o13,())) fun ⟨_,k14⟩ =>
 Option.bind (p40 fu (s6,())) fun ⟨_,l14⟩ =>
 bif (s6==(1:Int)) then
 bif decide (0=List.length ([]:List (Int))) then
 bif decide (List.length ([]:List (Int))+List.length w6≤maxLen∧(List.length ([]:List (Int))+List.length w6) * 1≤140737488355328) then
 bif decide (List.length (([]:List (Int)) ++ w6)=List.length (([]:List (Int)) ++ w6)) then
 some (.inl ((),((z9,a10,c10,f10,h10,i10,j10,k10,l10,m10,n10,o10,q10,s10,t10,u10,w10,x10,y10,z10,a11,c11,f11,h11,i11,j11,k11,l11,o13,n11,o11,q11,s11,true,k14,t11,u11,w11,x11,y11,z11,a12,c12,(),f12,h12,i12,j12,k12,l12,m12,n12,(),o12,q12,s12,t12,u12,w12,x12,y12,z12,a13,c13,f13,h13,i13,j13,(),k13,(),l13,m13,n13,()),(s7,s6,o13,l14,q13,c10,f10,u6,(([]:List (Int)) ++ w6),(0:Int),(0:Int),(⟨#[]⟩:ByteArray),(0:Int),(0:Int),(0:Int),(0:Int),(⟨#[]⟩:ByteArray),[],(0:Int),(0:Int),(⟨#[]⟩:ByteArray),(0:Int),(0:Int),(0:Int),(0:Int),(⟨#[]⟩:ByteArray),()),())))
 else none
 else none
 else none
 else
 bif (s6==(2:Int)) then
 some (.inl ((),((z9,a10,c10,f10,h10,i10,j10,k10,l10,m10,n10,o10,q10,s10,t10,u10,w10,x10,y10,z10,a11,c11,f11,h11,i11,j11,k11,l11,o13,n11,o11,q11,s11,true,k14,t11,u11,w11,x11,y11,z11,a12,c12,(),f12,h12,i12,j12,k12,l12,m12,n12,(),o12,q12,s12,t12,u12,w12,x12,y12,z12,a13,c13,f13,h13,i13,j13,(),k13,(),l13,m13,n13,()),(s7,s6,o13,l14,q13,(0:Int),(0:Int),(⟨#[]⟩:ByteArray),[],x6,y6,(⟨#[]⟩:ByteArray),(0:Int),(0:Int),(0:Int),(0:Int),(⟨#[]⟩:ByteArray),[],(0:Int),(0:Int),(⟨#[]⟩:ByteArray),(0:Int),(0:Int),(0:Int),(0:Int),(⟨#[]⟩:ByteArray),()),())))
 else
 bif (s6==(3:Int)) then
 some (.inl ((),((z9,a10,c10,f10,h10,i10,j10,k10,l10,m10,n10,o10,q10,s10,t10,u10,w10,x10,y10,z10,a11,c11,f11,h11,i11,j11,k11,l11,o13,n11,o11,q11,s11,true,k14,t11,u11,w11,x11,y11,z11,a12,c12,(),f12,h12,i12,j12,k12,l12,m12,n12,(),o12,q12,s12,t12,u12,w12,x12,y12,z12,a13,c13,f13,h13,i13,j13,(),k13,(),l13,m13,n13,()),(s7,s6,o13,l14,q13,c10,f10,(⟨#[]⟩:ByteArray),[],x6,(0:Int),z6,(0:Int),(0:Int),(0:Int),(0:Int),(⟨#[]⟩:ByteArray),[],(0:Int),(0:Int),(⟨#[]⟩:ByteArray),(0:Int),(0:Int),(0:Int),(0:Int),(⟨#[]⟩:ByteArray),()),())))
 else
 bif (s6==(4:Int)) then
 some (.inl ((),((z9,a10,c10,f10,h10,i10,j10,k10,l10,m10,n10,o10,q10,s10,t10,u10,w10,x10,y10,z10,a11,c11,f11,h11,i11,j11,k11,l11,o13,n11,o11,q11,s11,true,k14,t11,u11,w11,x11,y11,z11,a12,c12,(),f12,h12,i12,j12,k12,l12,m12,n12,(),o12,q12,s12,t12,u12,w12,x12,y12,z12,a13,c13,f13,h13,i13,j13,(),k13,(),l13,m13,n13,()),(s7,s6,o13,l14,q13,(0:Int),(0:Int),(⟨#[]⟩:ByteArray),[],(0:Int),(0:Int),z6,(0:Int),(0:Int),(0:Int),(0:Int),(⟨#[]⟩:ByteArray),[],(0:Int),(0:Int),(⟨#[]⟩:ByteArray),(0:Int),(0:Int),(0:Int),(0:Int),(⟨#[]⟩:ByteArray),()),())))
 else
 some (.inl ((),((z9,a10,c10,f10,h10,i10,j10,k10,l10,m10,n10,o10,q10,s10,t10,u10,w10,x10,y10,z10,a11,c11,f11,h11,i11,j11,k11,l11,o13,n11,o11,q11,s11,true,k14,t11,u11,w11,x11,y11,z11,a12,c12,(),f12,h12,i12,j12,k12,l12,m12,n12,(),o12,q12,s12,t12,u12,w12,x12,y12,z12,a13,c13,f13,h13,i13,j13,(),k13,(),l13,m13,n13,()),(s7,s6,o13,l14,q13,(0:Int),(0:Int),(⟨#[]⟩:ByteArray),[],(0:Int),(0:Int),(⟨#[]⟩:ByteArray),(0:Int),(0:Int),(0:Int),(0:Int),(⟨#[]⟩:ByteArray),[],(0:Int),(0:Int),(⟨#[]⟩:ByteArray),(0:Int),(0:Int),(0:Int),(0:Int),(⟨#[]⟩:ByteArray),()),()))))
 fun ⟨_,⟨⟨j6,k6,l6,m6,n6,o6,q6,s6,t6,u6,w6,x6,y6,z6,a7,c7,f7,h7,i7,j7,k7,l7,m7,n7,o7,q7,s7,t7,u7,w7,x7,y7,z7,a8,c8,_,_,_,_,_,_,_,_,_,_,_,_,_,_,_,_,_,_,_,_,_,_,_,_,_,_,l9,m9,n9,o9,q9,s9,t9,_,u9,_,w9,x9,y9,_⟩,⟨m14,n14,o14,q14,s14,t14,u14,w14,x14,y14,z14,a15,c15,f15,h15,i15,j15,k15,l15,m15,n15,o15,q15,s15,t15,u15,_⟩,_⟩⟩ =>
 bif decide (List.length x14=List.length x14) then
 bif decide (List.length k15=List.length k15) then
 some (((j6,k6,l6,m6,n6,o6,q6,s6,t6,u6,w6,x6,y6,z6,a7,c7,f7,h7,i7,j7,k7,l7,m7,n7,o7,q7,s7,t7,u7,w7,x7,y7,z7,a8,c8,m14,n14,o14,q14,s14,t14,u14,w14,x14,y14,z14,a15,c15,f15,h15,i15,j15,k15,l15,m15,n15,o15,q15,s15,t15,u15,l9,m9,n9,o9,q9,s9,t9,(),u9,(),w9,x9,y9,()),(),(),(),(),(),()),())
 else none
 else none
 else none
 else none
def e21 (fu:Nat):Ent := ⟨21,(.cons Y46 .nil),(.cons Y55 (.cons .dead (.cons .dead (.cons .dead (.cons .dead (.cons .dead .nil)))))),(.tup 0 .nil),p21 fu⟩
theorem g21 (fu:Nat):(e21 fu).Good Try.prog := good_fx orders Try.func21 fu [(8,(.ent (e37_3 fu))),(67,(.ent (e38_1 fu))),(101,(.ent (e7 fu))),(123,(.ent (e39 fu))),(165,(.ent (e39 fu))),(172,(.ent (e40 fu))),(203,(.ty (.int .u8))),(206,(.ty (.int .u8)))] [(8,⟨[],.nil,[(0,80,74)],(.cons Y53 .nil),[0],[1,2,3,4,5]⟩),(14,⟨[],.nil,[(0,80,74),(908,56,26)],(.cons Y53 (.cons Y32 .nil)),[0,3],[1,2,3,4,5]⟩),(19,⟨[207],(.cons (.hole .bool) .nil),[],.nil,[0,2,3,4],[0,1,2,3,4,5,748,908,1020]⟩)] rs21 231 (l := [e37_3 fu,e38_1 fu,e7 fu,e39 fu,e39 fu,e40 fu]) ⟨g37_3 fu,g38_1 fu,g7 fu,g39 fu,g39 fu,g40 fu,trivial⟩
def rs41:List RVx := []
def p41 (fu:Nat):(Z0)×((List (D_api_Shard))×(Unit))→Option (((Z0)×((Unit)×((Unit)×((Unit)×((Unit)×((Unit)×(Unit)))))))×(Unit)) := fun ⟨⟨a,c,f,h,i,j,k,l,m,n,o,q,s,t,u,w,x,y,z,a0,c0,f0,h0,i0,j0,k0,l0,m0,n0,o0,q0,s0,t0,u0,w0,x0,y0,z0,a1,c1,f1,h1,i1,_,j1,k1,l1,m1,n1,o1,q1,s1,_,t1,u1,w1,x1,y1,z1,a2,c2,f2,h2,i2,j2,k2,l2,m2,_,n2,_,o2,q2,s2,_⟩,t2,_⟩ =>
Option.bind (p8 fu (t2,())) fun ⟨_,u2⟩ =>
bif decide (List.length c=List.length c) then
 bif decide (List.length i=List.length i) then
 bif decide (List.length j=List.length j) then
 bif decide (List.length o=List.length o) then
 bif decide (List.length z=List.length z) then
 Option.bind (p46 fu ((a,c,f,h,i,j,k,l,m,n,o,q,s,t,u,w,x,y,z,a0,c0,f0,h0,i0,j0,k0,l0,m0,n0,o0,q0,s0,t0,u0,w0,x0,y0,z0,a1,c1,f1,h1,i1,[],j1,k1,l1,m1,n1,o1,q1,s1,[],t1,u1,w1,x1,y1,z1,a2,c2,f2,h2,i2,j2,k2,l2,m2,[],n2,[],o2,q2,s2,()),())) fun ⟨_,w2⟩ =>
 bif decide (w2<(0:Int)) then
 bif decide (List.length u2=List.length u2) then
 bif decide (List.length i=List.length i) then
 bif decide (List.length i+List.length ([(m,u2)])≤maxLen∧(List.length i+List.length ([(m,u2)])) * 40≤140737488355328) then
 bif decide (List.length c=List.length c) then
 bif decide (List.length (i ++ [(m,u2)])=List.length (i ++ [(m,u2)])) then
 bif decide (List.length j=List.length j) then
 bif decide (List.length o=List.length o) then
 bif decide (List.length z=List.length z) then
 some (((a,c,f,h,(i ++ [(m,u2)]),j,k,l,m,n,o,q,s,t,u,w,x,y,z,a0,c0,f0,h0,i0,j0,k0,l0,m0,n0,o0,q0,s0,t0,u0,w0,x0,y0,z0,a1,c1,f1,h1,i1,(),j1,k1,l1,m1,n1,o1,q1,s1,(),t1,u1,w1,x1,y1,z1,a2,c2,f2,h2,i2,j2,k2,l2,m2,(),n2,(),o2,q2,s2,()),(),(),(),(),(),()),())
 else none
 else none
 else none
 else none
 else none
 else none
 else none
 else none
 else
 bif decide ((0:Int)≤w2∧w2<(List.length i:Int)) then
 bif decide (Int.toNat w2<List.length i) then
 bif decide (List.length u2=List.length u2) then
 bif decide (List.length c=List.length c) then
 bif decide (List.length i=List.length (List.set i (Int.toNat w2) (m,u2))) then
 bif decide (List.length j=List.length j) then
 bif decide (List.length o=List.length o) then
 bif decide (List.length z=List.length z) then
 some (((a,c,f,h,(List.set i (Int.toNat w2) (m,u2)),j,k,l,m,n,o,q,s,t,u,w,x,y,z,a0,c0,f0,h0,i0,j0,k0,l0,m0,n0,o0,q0,s0,t0,u0,w0,x0,y0,z0,a1,c1,f1,h1,i1,(),j1,k1,l1,m1,n1,o1,q1,s1,(),t1,u1,w1,x1,y1,z1,a2,c2,f2,h2,i2,j2,k2,l2,m2,(),n2,(),o2,q2,s2,()),(),(),(),(),(),()),())
 else none
 else none
 else none
 else none
 else none
 else none
 else none
 else none
 else none
 else none
 else none
 else none
else none
def e41 (fu:Nat):Ent := ⟨41,(.cons Y46 (.cons (.hole (.sl .any T_api_Shard)) .nil)),(.cons Y29 (.cons .dead (.cons .dead (.cons .dead (.cons .dead (.cons .dead .nil)))))),(.tup 0 .nil),p41 fu⟩
theorem g41 (fu:Nat):(e41 fu).Good Try.prog := good_fx orders Try.func41 fu [(7,(.ent (e8 fu))),(12,(.ent (e46 fu))),(23,(.ty T_api_Topic_n)),(24,(.ty T_api_Topic_n))] [] rs41 39 (l := [e8 fu,e46 fu]) ⟨g8 fu,g46 fu,trivial⟩
def p38_2 (fu:Nat):(Z0)×(Unit)→Option (((Z0)×((Unit)×((Unit)×((Unit)×((Unit)×((Unit)×(Unit)))))))×((Z8)×((Bool)×(Unit)))) := fun ⟨⟨a,c,f,h,i,j,k,l,m,n,o,q,s,t,u,w,x,y,z,a0,c0,f0,h0,i0,j0,k0,l0,m0,n0,o0,q0,s0,t0,u0,w0,x0,y0,z0,a1,c1,f1,h1,i1,_,j1,k1,l1,m1,n1,o1,q1,s1,_,t1,u1,w1,x1,y1,z1,a2,c2,f2,h2,i2,j2,k2,l2,m2,_,n2,_,o2,q2,s2,_⟩,_⟩ =>
bif decide (List.length c=List.length c) then
 bif decide (List.length i=List.length i) then
 bif decide (List.length j=List.length j) then
 bif decide (List.length o=List.length o) then
 bif decide (List.length z=List.length z) then
 Option.bind (p46 fu ((a,c,f,h,i,j,k,l,m,n,o,q,s,t,u,w,x,y,z,a0,c0,f0,h0,i0,j0,k0,l0,m0,n0,o0,q0,s0,t0,u0,w0,x0,y0,z0,a1,c1,f1,h1,i1,[],j1,k1,l1,m1,n1,o1,q1,s1,[],t1,u1,w1,x1,y1,z1,a2,c2,f2,h2,i2,j2,k2,l2,m2,[],n2,[],o2,q2,s2,()),())) fun ⟨_,t2⟩ =>
 bif decide (t2<(0:Int)) then
 bif decide (List.length c=List.length c) then
 bif decide (List.length i=List.length i) then
 bif decide (List.length j=List.length j) then
 bif decide (List.length o=List.length o) then
 bif decide (List.length z=List.length z) then
 some (((a,c,f,h,i,j,k,l,m,n,o,q,s,t,u,w,x,y,z,a0,c0,f0,h0,i0,j0,k0,l0,m0,n0,o0,q0,s0,t0,u0,w0,x0,y0,z0,a1,c1,f1,h1,i1,(),j1,k1,l1,m1,n1,o1,q1,s1,(),t1,u1,w1,x1,y1,z1,a2,c2,f2,h2,i2,j2,k2,l2,m2,(),n2,(),o2,q2,s2,()),(),(),(),(),(),()),(((0:Int),(⟨#[]⟩:ByteArray),(⟨#[]⟩:ByteArray),(0:Int),[],[],(0:Int),()),false,()))
 else none
 else none
 else none
 else none
 else none
 else
 bif decide ((0:Int)≤t2∧t2<(List.length i:Int)) then
 bif decide (Int.toNat t2<List.length i) then
 loopO (S := ((Int)×(Unit))×(Unit)) fu (fun ⟨⟨u2,_⟩,_⟩ =>
 bif decide (u2<(List.length ((List.getD i (Int.toNat t2) (dflt T_api_Topic)).2):Int)) then
 bif decide ((0:Int)≤u2∧u2<(List.length ((List.getD i (Int.toNat t2) (dflt T_api_Topic)).2):Int)) then
 bif decide (Int.toNat u2<List.length ((List.getD i (Int.toNat t2) (dflt T_api_Topic)).2)) then
 Option.bind (p67 fu (((((List.getD ((List.getD i (Int.toNat t2) (dflt T_api_Topic)).2) (Int.toNat u2) (dflt T_api_Shard)).2).1).1,(((List.getD ((List.getD i (Int.toNat t2) (dflt T_api_Topic)).2) (Int.toNat u2) (dflt T_api_Shard)).2).1).2,()),n,())) fun ⟨_,w2⟩ =>
 bif w2 then
 bif decide ((0:Int)≤u2∧u2<(List.length ((List.getD i (Int.toNat t2) (dflt T_api_Topic)).2):Int)) then
 bif decide (Int.toNat u2<List.length ((List.getD i (Int.toNat t2) (dflt T_api_Topic)).2)) then
 inrO (bif decide (List.length c=List.length c) then
 bif decide (List.length i=List.length i) then
 bif decide (List.length j=List.length j) then
 bif decide (List.length o=List.length o) then
 bif decide (List.length z=List.length z) then
 some (((a,c,f,h,i,j,k,l,m,n,o,q,s,t,u,w,x,y,z,a0,c0,f0,h0,i0,j0,k0,l0,m0,n0,o0,q0,s0,t0,u0,w0,x0,y0,z0,a1,c1,f1,h1,i1,(),j1,k1,l1,m1,n1,o1,q1,s1,(),t1,u1,w1,x1,y1,z1,a2,c2,f2,h2,i2,j2,k2,l2,m2,(),n2,(),o2,q2,s2,()),(),(),(),(),(),()),(((List.getD ((List.getD i (Int.toNat t2) (dflt T_api_Topic)).2) (Int.toNat u2) (dflt T_api_Shard)).1,(((List.getD ((List.getD i (Int.toNat t2) (dflt T_api_Topic)).2) (Int.toNat u2) (dflt T_api_Shard)).2).1).1,(((List.getD ((List.getD i (Int.toNat t2) (dflt T_api_Topic)).2) (Int.toNat u2) (dflt T_api_Shard)).2).1).2,(((List.getD ((List.getD i (Int.toNat t2) (dflt T_api_Topic)).2) (Int.toNat u2) (dflt T_api_Shard)).2).2).1,((((List.getD ((List.getD i (Int.toNat t2) (dflt T_api_Topic)).2) (Int.toNat u2) (dflt T_api_Shard)).2).2).2).1,(((((List.getD ((List.getD i (Int.toNat t2) (dflt T_api_Topic)).2) (Int.toNat u2) (dflt T_api_Shard)).2).2).2).2).1,(((((List.getD ((List.getD i (Int.toNat t2) (dflt T_api_Topic)).2) (Int.toNat u2) (dflt T_api_Shard)).2).2).2).2).2,()),true,()))
 else none
 else none
 else none
 else none
 else none)
 else none
 else none
 else
 some (.inl ((IntKind.wrap .i64 (u2+(1:Int)),()),()))
 else none
 else none
 else
 inrO (bif decide (List.length c=List.length c) then
 bif decide (List.length i=List.length i) then
 bif decide (List.length j=List.length j) then
 bif decide (List.length o=List.length o) then
 bif decide (List.length z=List.length z) then
 some (((a,c,f,h,i,j,k,l,m,n,o,q,s,t,u,w,x,y,z,a0,c0,f0,h0,i0,j0,k0,l0,m0,n0,o0,q0,s0,t0,u0,w0,x0,y0,z0,a1,c1,f1,h1,i1,(),j1,k1,l1,m1,n1,o1,q1,s1,(),t1,u1,w1,x1,y1,z1,a2,c2,f2,h2,i2,j2,k2,l2,m2,(),n2,(),o2,q2,s2,()),(),(),(),(),(),()),(((0:Int),(⟨#[]⟩:ByteArray),(⟨#[]⟩:ByteArray),(0:Int),[],[],(0:Int),()),false,()))
 else none
 else none
 else none
 else none
 else none))
 (((0:Int),()),())
 else none
 else none
 else none
 else none
 else none
 else none
else none
def e38_2 (fu:Nat):Ent := ⟨38,(.cons Y46 .nil),(.cons Y29 (.cons .dead (.cons .dead (.cons .dead (.cons .dead (.cons .dead .nil)))))),(.tup 2 (.cons Y30 (.cons (.hole .bool) .nil))),p38_2 fu⟩
theorem g38_2 (fu:Nat):(e38_2 fu).Good Try.prog := good_fx orders Try.func38 fu [(3,(.ent (e46 fu))),(36,(.ent (e67 fu)))] [(8,⟨[6],(.cons (.hole (.int .i64)) .nil),[],.nil,[0,2,5],[0,1,2,3,4,5,7,8,9,10,11,12]⟩)] rs38 46 (l := [e46 fu,e67 fu]) ⟨g46 fu,g67 fu,trivial⟩
def rs42:List RVx := []
def p42 (_:Nat):(Z0)×(Unit)→Option (((Z0)×((Unit)×((Unit)×((Unit)×((Unit)×((Unit)×(Unit)))))))×(Unit)) := fun ⟨⟨a,c,f,h,i,j,k,l,m,n,o,q,s,t,u,w,x,y,z,a0,c0,f0,h0,i0,j0,k0,l0,m0,n0,o0,_,_,q0,s0,t0,u0,w0,x0,y0,z0,a1,c1,f1,_,h1,i1,j1,k1,l1,m1,n1,o1,_,q1,s1,t1,u1,w1,x1,y1,z1,a2,c2,f2,h2,i2,j2,k2,_,l2,_,m2,n2,o2,_⟩,_⟩ =>
bif decide (List.length c=List.length c) then
 bif decide (List.length i=List.length i) then
 bif decide (List.length j=List.length j) then
 bif decide (List.length o=List.length o) then
 bif decide (List.length z=List.length z) then
 some (((a,c,f,h,i,j,k,l,m,n,o,q,s,t,u,w,x,y,z,a0,c0,f0,h0,i0,j0,k0,l0,m0,n0,o0,(0:Int),true,q0,s0,t0,u0,w0,x0,y0,z0,a1,c1,f1,(),h1,i1,j1,k1,l1,m1,n1,o1,(),q1,s1,t1,u1,w1,x1,y1,z1,a2,c2,f2,h2,i2,j2,k2,(),l2,(),m2,n2,o2,()),(),(),(),(),(),()),())
 else none
 else none
 else none
 else none
else none
def e42 (fu:Nat):Ent := ⟨42,(.cons Y46 .nil),(.cons Y29 (.cons .dead (.cons .dead (.cons .dead (.cons .dead (.cons .dead .nil)))))),(.tup 0 .nil),p42 fu⟩
theorem g42 (fu:Nat):(e42 fu).Good Try.prog := good_fx orders Try.func42 fu [] [] rs42 10 (l := []) trivial
def rs43:List RVx := []
def p43 (_:Nat):(Z0)×(Unit)→Option (((Z0)×((Unit)×((Unit)×((Unit)×((Unit)×((Unit)×(Unit)))))))×(Unit)) := fun ⟨⟨a,c,f,h,i,j,k,l,m,n,o,q,s,t,u,w,x,y,z,a0,c0,f0,h0,i0,j0,k0,l0,m0,n0,o0,q0,s0,t0,u0,w0,x0,y0,z0,a1,c1,f1,h1,i1,_,j1,k1,l1,m1,n1,o1,q1,s1,_,t1,u1,w1,x1,y1,z1,a2,c2,f2,h2,i2,j2,k2,l2,m2,_,n2,_,o2,q2,s2,_⟩,_⟩ =>
bif decide ((IntKind.wrap .i64 (t0+(1:Int)))≥((List.length c):Int)) then
 bif decide (List.length c=List.length c) then
 bif decide (List.length i=List.length i) then
 bif decide (List.length j=List.length j) then
 bif decide (List.length o=List.length o) then
 bif decide (List.length z=List.length z) then
 some (((a,c,f,h,i,j,k,l,m,n,o,q,s,t,u,w,x,y,z,a0,c0,f0,h0,i0,j0,k0,l0,m0,n0,o0,q0,s0,(0:Int),u0,w0,x0,y0,z0,a1,c1,f1,h1,i1,(),j1,k1,l1,m1,n1,o1,q1,s1,(),t1,u1,w1,x1,y1,z1,a2,c2,f2,h2,i2,j2,k2,l2,m2,(),n2,(),o2,q2,s2,()),(),(),(),(),(),()),())
 else none
 else none
 else none
 else none
 else none
else
 bif decide (List.length c=List.length c) then
 bif decide (List.length i=List.length i) then
 bif decide (List.length j=List.length j) then
 bif decide (List.length o=List.length o) then
 bif decide (List.length z=List.length z) then
 some (((a,c,f,h,i,j,k,l,m,n,o,q,s,t,u,w,x,y,z,a0,c0,f0,h0,i0,j0,k0,l0,m0,n0,o0,q0,s0,IntKind.wrap .i64 (t0+(1:Int)),u0,w0,x0,y0,z0,a1,c1,f1,h1,i1,(),j1,k1,l1,m1,n1,o1,q1,s1,(),t1,u1,w1,x1,y1,z1,a2,c2,f2,h2,i2,j2,k2,l2,m2,(),n2,(),o2,q2,s2,()),(),(),(),(),(),()),())
 else none
 else none
 else none
 else none
 else none
def e43 (fu:Nat):Ent := ⟨43,(.cons Y46 .nil),(.cons Y29 (.cons .dead (.cons .dead (.cons .dead (.cons .dead (.cons .dead .nil)))))),(.tup 0 .nil),p43 fu⟩
theorem g43 (fu:Nat):(e43 fu).Good Try.prog := good_fx orders Try.func43 fu [] [] rs43 27 (l := []) trivial
def rs44:List RVx := [(.tmp 6)]
def p44 (fu:Nat):(Z0)×((Int)×((Int)×(Unit)))→Option (((Z0)×((Unit)×((Unit)×((Unit)×((Unit)×((Unit)×(Unit)))))))×(Bool)) := fun ⟨⟨a,c,f,h,i,j,k,l,m,n,o,q,s,t,u,w,x,y,z,a0,c0,f0,h0,i0,j0,k0,l0,m0,n0,o0,q0,s0,t0,u0,w0,x0,y0,z0,a1,c1,f1,h1,i1,_,j1,k1,l1,m1,n1,o1,q1,s1,_,t1,u1,w1,x1,y1,z1,a2,c2,f2,h2,i2,j2,k2,l2,m2,_,n2,_,o2,q2,s2,_⟩,t2,u2,_⟩ =>
loopO (S := ((Bool)×((Int)×(Unit)))×(Unit)) fu (fun ⟨⟨w2,x2,_⟩,_⟩ =>
 bif decide (x2<((List.length c):Int)) then
 bif w2 then
 some (.inl ((true,IntKind.wrap .i64 (x2+(1:Int)),()),()))
 else
 bif decide ((0:Int)≤x2∧x2<(List.length c:Int)) then
 bif decide (Int.toNat x2<List.length c) then
 some (.inl ((((List.getD c (Int.toNat x2) (dflt (.int .i64)))==u2),IntKind.wrap .i64 (x2+(1:Int)),()),()))
 else none
 else none
 else
 inrO (bif !w2 then
 bif decide (List.length c=List.length c) then
 bif decide (List.length i=List.length i) then
 bif decide (List.length j=List.length j) then
 bif decide (List.length o=List.length o) then
 bif decide (List.length z=List.length z) then
 some (((a,c,f,h,i,j,k,l,m,n,o,q,s,t,u,w,x,y,z,a0,c0,f0,h0,i0,j0,k0,l0,m0,n0,o0,q0,s0,t0,u0,w0,x0,y0,z0,a1,c1,f1,h1,i1,(),j1,k1,l1,m1,n1,o1,q1,s1,(),t1,u1,w1,x1,y1,z1,a2,c2,f2,h2,i2,j2,k2,l2,m2,(),n2,(),o2,q2,s2,()),(),(),(),(),(),()),false)
 else none
 else none
 else none
 else none
 else none
 else
 loopO (S := ((Int)×(Unit))×(Unit)) fu (fun ⟨⟨y2,_⟩,_⟩ =>
 bif decide (y2<((List.length j):Int)) then
 bif decide ((0:Int)≤y2∧y2<(List.length j:Int)) then
 bif decide (Int.toNat y2<List.length j) then
 bif (((List.getD j (Int.toNat y2) (dflt T_api_Site)).1)==t2) then
 bif decide ((0:Int)≤y2∧y2<(List.length j:Int)) then
 bif decide (Int.toNat y2<List.length j) then
 inrO (bif decide (List.length c=List.length c) then
 bif decide (List.length i=List.length i) then
 bif decide (List.length j=List.length (List.set j (Int.toNat y2) ((List.getD j (Int.toNat y2) (dflt T_api_Site)).1,u2))) then
 bif decide (List.length o=List.length o) then
 bif decide (List.length z=List.length z) then
 some (((a,c,f,h,i,(List.set j (Int.toNat y2) ((List.getD j (Int.toNat y2) (dflt T_api_Site)).1,u2)),k,l,m,n,o,q,s,t,u,w,x,y,z,a0,c0,f0,h0,i0,j0,k0,l0,m0,n0,o0,q0,s0,t0,u0,w0,x0,y0,z0,a1,c1,f1,h1,i1,(),j1,k1,l1,m1,n1,o1,q1,s1,(),t1,u1,w1,x1,y1,z1,a2,c2,f2,h2,i2,j2,k2,l2,m2,(),n2,(),o2,q2,s2,()),(),(),(),(),(),()),true)
 else none
 else none
 else none
 else none
 else none)
 else none
 else none
 else
 some (.inl ((IntKind.wrap .i64 (y2+(1:Int)),()),()))
 else none
 else none
 else
 inrO (bif decide (List.length j=List.length j) then
 bif decide (List.length j+List.length ([(t2,u2)])≤maxLen∧(List.length j+List.length ([(t2,u2)])) * 16≤140737488355328) then
 bif decide (List.length c=List.length c) then
 bif decide (List.length i=List.length i) then
 bif decide (List.length (j ++ [(t2,u2)])=List.length (j ++ [(t2,u2)])) then
 bif decide (List.length o=List.length o) then
 bif decide (List.length z=List.length z) then
 some (((a,c,f,h,i,(j ++ [(t2,u2)]),k,l,m,n,o,q,s,t,u,w,x,y,z,a0,c0,f0,h0,i0,j0,k0,l0,m0,n0,o0,q0,s0,t0,u0,w0,x0,y0,z0,a1,c1,f1,h1,i1,(),j1,k1,l1,m1,n1,o1,q1,s1,(),t1,u1,w1,x1,y1,z1,a2,c2,f2,h2,i2,j2,k2,l2,m2,(),n2,(),o2,q2,s2,()),(),(),(),(),(),()),true)
 else none
 else none
 else none
 else none
 else none
 else none
 else none))
 (((0:Int),()),())))
 ((false,(0:Int),()),())
def e44 (fu:Nat):Ent := ⟨44,(.cons Y46 (.cons (.hole (.int .u64)) (.cons (.hole (.int .i64)) .nil))),(.cons Y29 (.cons .dead (.cons .dead (.cons .dead (.cons .dead (.cons .dead .nil)))))),(.hole .bool),p44 fu⟩
theorem g44 (fu:Nat):(e44 fu).Good Try.prog := good_fx orders Try.func44 fu [(74,(.ty T_api_Site)),(75,(.ty T_api_Site))] [(4,⟨[7,8],(.cons (.hole .bool) (.cons (.hole (.int .i64)) .nil)),[],.nil,[0,1,2],[0,1,2,3,4,5,7,8,9,10,11]⟩),(13,⟨[9],(.cons (.hole (.int .i64)) .nil),[],.nil,[0,1,2],[0,1,2,3,4,5,7,8,9,10,11]⟩)] rs44 79 (l := []) trivial
def rs45:List RVx := []
def p45 (fu:Nat):(Z0)×((Int)×(Unit))→Option (((Z0)×((Unit)×((Unit)×((Unit)×((Unit)×((Unit)×(Unit)))))))×(Unit)) := fun ⟨⟨a,c,f,h,i,j,k,l,m,n,o,q,s,t,u,w,x,y,z,a0,c0,f0,h0,i0,j0,k0,l0,m0,n0,o0,q0,s0,t0,u0,w0,x0,y0,z0,a1,c1,f1,h1,i1,_,j1,k1,l1,m1,n1,o1,q1,s1,_,t1,u1,w1,x1,y1,z1,a2,c2,f2,h2,i2,j2,k2,l2,m2,_,n2,_,o2,q2,s2,_⟩,t2,_⟩ =>
loopO (S := ((List (D_api_Site))×((Int)×(Unit)))×(Unit)) fu (fun ⟨⟨u2,w2,_⟩,_⟩ =>
 bif decide (w2<((List.length j):Int)) then
 bif decide ((0:Int)≤w2∧w2<(List.length j:Int)) then
 bif decide (Int.toNat w2<List.length j) then
 bif (((List.getD j (Int.toNat w2) (dflt T_api_Site)).1) != t2) then
 bif decide ((0:Int)≤w2∧w2<(List.length j:Int)) then
 bif decide (Int.toNat w2<List.length j) then
 bif decide (List.length u2=List.length u2) then
 bif decide (List.length u2+List.length ([((List.getD j (Int.toNat w2) (dflt T_api_Site)).1,(List.getD j (Int.toNat w2) (dflt T_api_Site)).2)])≤maxLen∧(List.length u2+List.length ([((List.getD j (Int.toNat w2) (dflt T_api_Site)).1,(List.getD j (Int.toNat w2) (dflt T_api_Site)).2)])) * 16≤140737488355328) then
 bif decide (List.length (u2 ++ [((List.getD j (Int.toNat w2) (dflt T_api_Site)).1,(List.getD j (Int.toNat w2) (dflt T_api_Site)).2)])=List.length (u2 ++ [((List.getD j (Int.toNat w2) (dflt T_api_Site)).1,(List.getD j (Int.toNat w2) (dflt T_api_Site)).2)])) then
 some (.inl (((u2 ++ [((List.getD j (Int.toNat w2) (dflt T_api_Site)).1,(List.getD j (Int.toNat w2) (dflt T_api_Site)).2)]),IntKind.wrap .i64 (w2+(1:Int)),()),()))
 else none
 else none
 else none
 else none
 else none
 else
 bif decide (List.length u2=List.length u2) then
 some (.inl ((u2,IntKind.wrap .i64 (w2+(1:Int)),()),()))
 else none
 else none
 else none
 else
 inrO (bif decide (List.length c=List.length c) then
 bif decide (List.length i=List.length i) then
 bif decide (List.length u2=List.length u2) then
 bif decide (List.length o=List.length o) then
 bif decide (List.length z=List.length z) then
 some (((a,c,f,h,i,u2,k,l,m,n,o,q,s,t,u,w,x,y,z,a0,c0,f0,h0,i0,j0,k0,l0,m0,n0,o0,q0,s0,t0,u0,w0,x0,y0,z0,a1,c1,f1,h1,i1,(),j1,k1,l1,m1,n1,o1,q1,s1,(),t1,u1,w1,x1,y1,z1,a2,c2,f2,h2,i2,j2,k2,l2,m2,(),n2,(),o2,q2,s2,()),(),(),(),(),(),()),())
 else none
 else none
 else none
 else none
 else none))
 (([],(0:Int),()),())
def e45 (fu:Nat):Ent := ⟨45,(.cons Y46 (.cons (.hole (.int .u64)) .nil)),(.cons Y29 (.cons .dead (.cons .dead (.cons .dead (.cons .dead (.cons .dead .nil)))))),(.tup 0 .nil),p45 fu⟩
theorem g45 (fu:Nat):(e45 fu).Good Try.prog := good_fx orders Try.func45 fu [(30,(.ty T_api_Site)),(31,(.ty T_api_Site))] [(3,⟨[4,5],(.cons (.own .own 88 T_api_Site) (.cons (.hole (.int .i64)) .nil)),[],.nil,[0,1],[0,1,2,3,4,5,7,8,9,10,11]⟩)] rs45 43 (l := []) trivial
def rs22:List RVx := []
def p22 (fu:Nat):(Z0)×((Z23)×(Unit))→Option (((Z3)×((Unit)×((Unit)×((Unit)×((Unit)×((Unit)×(Unit)))))))×(Unit)) := fun ⟨⟨a,c,f,h,i,j,k,l,m,n,o,q,s,t,u,w,x,y,z,a0,c0,f0,h0,i0,j0,k0,l0,m0,n0,o0,q0,s0,t0,u0,w0,x0,y0,z0,a1,c1,f1,h1,i1,_,j1,k1,l1,m1,n1,o1,q1,s1,_,t1,u1,w1,x1,y1,z1,a2,c2,f2,h2,i2,j2,k2,l2,m2,_,n2,_,o2,q2,s2,_⟩,⟨t2,u2,w2,x2,y2,z2,a3,c3,f3,h3,i3,j3,_⟩,_⟩ =>
bif !k then
 bif decide (List.length c=List.length c) then
 bif decide (List.length i=List.length i) then
 bif decide (List.length j=List.length j) then
 bif decide (List.length o=List.length o) then
 bif decide (List.length z=List.length z) then
 some (((a,c,f,h,i,j,k,l,m,n,o,q,s,t,u,w,x,y,z,a0,c0,f0,h0,i0,j0,k0,l0,m0,n0,o0,q0,s0,t0,u0,w0,x0,y0,z0,a1,c1,f1,h1,i1,[],j1,k1,l1,m1,n1,o1,q1,s1,[],t1,u1,w1,x1,y1,z1,a2,c2,f2,h2,i2,j2,k2,l2,m2,[],n2,[],o2,q2,s2,()),(),(),(),(),(),()),())
 else none
 else none
 else none
 else none
 else none
else
 bif s0 then
 bif decide (List.length c=List.length c) then
 bif decide (List.length i=List.length i) then
 bif decide (List.length j=List.length j) then
 bif decide (List.length o=List.length o) then
 bif decide (List.length z=List.length z) then
 some (((a,c,f,h,i,j,k,l,m,n,o,q,s,t,u,w,x,y,z,a0,c0,f0,h0,i0,j0,k0,l0,m0,n0,o0,q0,s0,t0,u0,w0,x0,y0,z0,a1,c1,f1,h1,i1,[],j1,k1,l1,m1,n1,o1,q1,s1,[],t1,u1,w1,x1,y1,z1,a2,c2,f2,h2,i2,j2,k2,l2,m2,[],n2,[],o2,q2,s2,()),(),(),(),(),(),()),())
 else none
 else none
 else none
 else none
 else none
 else
 bif (t2 != l0) then
 bif decide (List.length c=List.length c) then
 bif decide (List.length i=List.length i) then
 bif decide (List.length j=List.length j) then
 bif decide (List.length o=List.length o) then
 bif decide (List.length z=List.length z) then
 some (((a,c,f,h,i,j,k,l,m,n,o,q,s,t,u,w,x,y,z,a0,c0,f0,h0,i0,j0,k0,l0,m0,n0,o0,q0,s0,t0,u0,w0,x0,y0,z0,a1,c1,f1,h1,i1,[],j1,k1,l1,m1,n1,o1,q1,s1,[],t1,u1,w1,x1,y1,z1,a2,c2,f2,h2,i2,j2,k2,l2,m2,[],n2,[],o2,q2,s2,()),(),(),(),(),(),()),())
 else none
 else none
 else none
 else none
 else none
 else
 bif (u2==(0:Int)) then
 orK (E := (Unit)×((Z0)×(Unit)))
 (bif (l==(6:Int)) then
 bif decide (List.length c=List.length c) then
 bif decide (List.length i=List.length i) then
 bif decide (List.length j=List.length j) then
 bif decide (List.length o=List.length o) then
 bif decide (List.length z=List.length z) then
 Option.bind (p41 fu ((a,c,f,h,i,j,k,l,m,n,o,q,s,t,u,w,x,y,z,a0,c0,f0,h0,i0,j0,k0,l0,m0,n0,o0,q0,s0,t0,u0,w0,x0,y0,z0,a1,c1,f1,h1,i1,(),j1,k1,l1,m1,n1,o1,q1,s1,(),t1,u1,w1,x1,y1,z1,a2,c2,f2,h2,i2,j2,k2,l2,m2,(),n2,(),o2,q2,s2,()),f3,())) fun ⟨⟨⟨k3,l3,m3,n3,o3,q3,s3,t3,u3,w3,x3,y3,z3,a4,c4,f4,h4,i4,j4,k4,l4,m4,n4,o4,q4,s4,t4,u4,w4,x4,y4,z4,a5,c5,f5,h5,i5,j5,k5,l5,m5,n5,o5,_,q5,s5,t5,u5,w5,x5,y5,z5,_,a6,c6,f6,h6,i6,j6,k6,l6,m6,n6,o6,q6,s6,t6,u6,_,w6,_,x6,y6,z6,_⟩,_,_,_,_,_,_⟩,_⟩ =>
 bif decide (List.length l3=List.length l3) then
 bif decide (List.length o3=List.length o3) then
 bif decide (List.length q3=List.length q3) then
 bif decide (List.length x3=List.length x3) then
 bif decide (List.length j4=List.length j4) then
 some (.inl ((),((k3,l3,m3,n3,o3,q3,s3,t3,u3,w3,x3,y3,z3,a4,c4,f4,h4,i4,j4,k4,l4,m4,n4,o4,q4,s4,t4,u4,w4,x4,y4,z4,a5,c5,f5,h5,i5,j5,k5,l5,m5,n5,o5,(),q5,s5,t5,u5,w5,x5,y5,z5,(),a6,c6,f6,h6,i6,j6,k6,l6,m6,n6,o6,q6,s6,t6,u6,(),w6,(),x6,y6,z6,()),())))
 else none
 else none
 else none
 else none
 else none
 else none
 else none
 else none
 else none
 else none
 else
 bif decide (List.length c=List.length c) then
 bif decide (List.length i=List.length i) then
 bif decide (List.length j=List.length j) then
 bif decide (List.length o=List.length o) then
 bif decide (List.length z=List.length z) then
 some (.inl ((),((a,c,f,h,i,j,k,l,m,n,o,q,s,t,u,w,x,y,z,a0,c0,f0,h0,i0,j0,k0,l0,m0,n0,o0,q0,s0,t0,u0,w0,x0,y0,z0,a1,c1,f1,h1,i1,(),j1,k1,l1,m1,n1,o1,q1,s1,(),t1,u1,w1,x1,y1,z1,a2,c2,f2,h2,i2,j2,k2,l2,m2,(),n2,(),o2,q2,s2,()),())))
 else none
 else none
 else none
 else none
 else none)
 fun ⟨_,⟨⟨a7,c7,f7,h7,i7,j7,k7,l7,m7,n7,o7,q7,s7,t7,u7,w7,x7,y7,z7,a8,c8,f8,h8,i8,j8,k8,l8,m8,n8,o8,q8,s8,t8,u8,w8,x8,y8,z8,a9,c9,f9,h9,i9,_,j9,k9,l9,m9,n9,o9,q9,s9,_,t9,u9,w9,x9,y9,z9,a10,c10,f10,h10,i10,j10,k10,l10,m10,_,n10,_,o10,q10,s10,_⟩,_⟩⟩ =>
 bif !m8 then
 bif decide (List.length c7=List.length c7) then
 bif decide (List.length i7=List.length i7) then
 bif decide (List.length j7=List.length j7) then
 bif decide (List.length o7=List.length o7) then
 bif decide (List.length z7=List.length z7) then
 Option.bind (p37 fu ((a7,c7,f7,h7,i7,j7,k7,l7,m7,n7,o7,q7,s7,t7,u7,w7,x7,y7,z7,a8,c8,f8,h8,i8,j8,k8,l8,m8,n8,o8,q8,s8,t8,u8,w8,x8,y8,z8,a9,c9,f9,h9,i9,(),j9,k9,l9,m9,n9,o9,q9,s9,(),t9,u9,w9,x9,y9,z9,a10,c10,f10,h10,i10,j10,k10,l10,m10,(),n10,(),o10,q10,s10,()),(t2,u2,w2,x2,y2,z2,a3,c3,f3,h3,i3,j3,()),())) fun ⟨⟨⟨t10,u10,w10,x10,y10,z10,a11,c11,f11,h11,_,i11,j11,k11,l11,m11,n11,o11,_,q11,s11,t11,u11,w11,x11,y11,z11,a12,c12,f12,h12,i12,j12,k12,l12,m12,n12,o12,q12,s12,t12,u12,w12,_,x12,y12,z12,a13,c13,f13,h13,i13,_,j13,k13,l13,m13,n13,o13,q13,s13,t13,u13,w13,x13,y13,z13,a14,c14,f14,h14,i14,j14,k14,_⟩,_,_,_,_,_,_⟩,_⟩ =>
 bif decide (List.length u10=List.length u10) then
 bif decide (List.length y10=List.length y10) then
 bif decide (List.length z10=List.length z10) then
 some (((t10,u10,w10,x10,y10,z10,a11,c11,f11,h11,[],i11,j11,k11,l11,m11,n11,o11,[],q11,s11,t11,u11,w11,x11,y11,z11,a12,c12,f12,h12,i12,j12,k12,l12,m12,n12,o12,q12,s12,t12,u12,w12,[],x12,y12,z12,a13,c13,f13,h13,i13,[],j13,k13,l13,m13,n13,o13,q13,s13,t13,u13,w13,x13,y13,z13,a14,c14,f14,h14,i14,j14,k14,()),(),(),(),(),(),()),())
 else none
 else none
 else none
 else none
 else none
 else none
 else none
 else none
 else
 bif decide (List.length c7=List.length c7) then
 bif decide (List.length i7=List.length i7) then
 bif decide (List.length j7=List.length j7) then
 bif decide (List.length o7=List.length o7) then
 bif decide (List.length z7=List.length z7) then
 Option.bind (p41 fu ((a7,c7,f7,h7,i7,j7,k7,l7,m7,n7,o7,q7,s7,t7,u7,w7,x7,y7,z7,a8,c8,f8,h8,i8,j8,k8,l8,m8,n8,o8,q8,s8,t8,u8,w8,x8,y8,z8,a9,c9,f9,h9,i9,(),j9,k9,l9,m9,n9,o9,q9,s9,(),t9,u9,w9,x9,y9,z9,a10,c10,f10,h10,i10,j10,k10,l10,m10,(),n10,(),o10,q10,s10,()),f3,())) fun ⟨⟨⟨l14,m14,n14,o14,q14,s14,t14,u14,w14,x14,y14,z14,a15,c15,f15,h15,i15,j15,k15,l15,m15,n15,o15,q15,s15,t15,u15,w15,x15,y15,z15,a16,c16,f16,h16,i16,j16,k16,l16,m16,n16,o16,q16,_,s16,t16,u16,w16,x16,y16,z16,a17,_,c17,f17,h17,i17,j17,k17,l17,m17,n17,o17,q17,s17,t17,u17,w17,_,x17,_,y17,z17,a18,_⟩,_,_,_,_,_,_⟩,_⟩ =>
 bif decide (List.length m14=List.length m14) then
 bif decide (List.length q14=List.length q14) then
 bif decide (List.length s14=List.length s14) then
 bif decide (List.length y14=List.length y14) then
 bif decide (List.length k15=List.length k15) then
 Option.bind (p38_2 fu ((l14,m14,n14,o14,q14,s14,t14,u14,w14,x14,y14,z14,a15,c15,f15,h15,i15,j15,k15,l15,m15,n15,o15,q15,s15,t15,u15,w15,x15,y15,z15,a16,c16,f16,h16,i16,j16,k16,l16,m16,n16,o16,q16,(),s16,t16,u16,w16,x16,y16,z16,a17,(),c17,f17,h17,i17,j17,k17,l17,m17,n17,o17,q17,s17,t17,u17,w17,(),x17,(),y17,z17,a18,()),())) fun ⟨⟨⟨c18,f18,h18,i18,j18,k18,l18,m18,n18,o18,q18,s18,t18,u18,w18,x18,y18,z18,a19,c19,f19,h19,i19,j19,k19,l19,m19,n19,o19,q19,s19,t19,u19,w19,x19,y19,z19,a20,c20,f20,h20,i20,j20,_,k20,l20,m20,n20,o20,q20,s20,t20,_,u20,w20,x20,y20,z20,a21,c21,f21,h21,i21,j21,k21,l21,m21,n21,_,o21,_,q21,s21,t21,_⟩,_,_,_,_,_,_⟩,⟨⟨_,_,_,_,_,_,_,_⟩,u21,_⟩⟩ =>
 bif u21 then
 bif decide (List.length f18=List.length f18) then
 bif decide (List.length j18=List.length j18) then
 bif decide (List.length k18=List.length k18) then
 bif decide (List.length q18=List.length q18) then
 bif decide (List.length a19=List.length a19) then
 Option.bind (p21 fu ((c18,f18,h18,i18,j18,k18,l18,m18,n18,o18,q18,s18,t18,u18,w18,x18,y18,z18,a19,c19,f19,h19,i19,j19,k19,l19,m19,n19,o19,q19,s19,t19,u19,w19,x19,y19,z19,a20,c20,f20,h20,i20,j20,(),k20,l20,m20,n20,o20,q20,s20,t20,(),u20,w20,x20,y20,z20,a21,c21,f21,h21,i21,j21,k21,l21,m21,n21,(),o21,(),q21,s21,t21,()),())) fun ⟨⟨⟨w21,x21,y21,z21,a22,c22,f22,h22,i22,j22,k22,l22,m22,n22,o22,q22,s22,t22,u22,w22,x22,y22,z22,a23,c23,f23,h23,i23,j23,k23,l23,m23,n23,o23,q23,s23,t23,u23,w23,x23,y23,z23,a24,c24,f24,h24,i24,j24,k24,l24,m24,n24,o24,q24,s24,t24,u24,w24,x24,y24,z24,a25,c25,f25,h25,i25,j25,k25,_,l25,_,m25,n25,o25,_⟩,_,_,_,_,_,_⟩,_⟩ =>
 bif decide (List.length c24=List.length c24) then
 bif decide (List.length o24=List.length o24) then
 some (((w21,x21,y21,z21,a22,c22,f22,h22,i22,j22,k22,l22,m22,n22,o22,q22,s22,t22,u22,w22,x22,y22,z22,a23,c23,f23,h23,i23,j23,k23,l23,m23,n23,o23,q23,s23,t23,u23,w23,x23,y23,z23,a24,c24,f24,h24,i24,j24,k24,l24,m24,n24,o24,q24,s24,t24,u24,w24,x24,y24,z24,a25,c25,f25,h25,i25,j25,k25,[],l25,[],m25,n25,o25,()),(),(),(),(),(),()),())
 else none
 else none
 else none
 else none
 else none
 else none
 else none
 else
 bif decide (List.length f18=List.length f18) then
 bif decide (List.length j18=List.length j18) then
 bif decide (List.length k18=List.length k18) then
 bif decide (List.length q18=List.length q18) then
 bif decide (List.length a19=List.length a19) then
 Option.bind (p42 fu ((c18,f18,h18,i18,j18,k18,l18,m18,n18,o18,q18,s18,t18,u18,w18,x18,y18,z18,a19,c19,f19,h19,i19,j19,k19,l19,m19,n19,o19,q19,s19,t19,u19,w19,x19,y19,z19,a20,c20,f20,h20,i20,j20,(),k20,l20,m20,n20,o20,q20,s20,t20,(),u20,w20,x20,y20,z20,a21,c21,f21,h21,i21,j21,k21,l21,m21,n21,(),o21,(),q21,s21,t21,()),())) fun ⟨⟨⟨q25,s25,t25,u25,w25,x25,y25,z25,a26,c26,f26,h26,i26,j26,k26,l26,m26,n26,o26,q26,s26,t26,u26,w26,x26,y26,z26,a27,c27,f27,h27,i27,j27,k27,l27,m27,n27,o27,q27,s27,t27,u27,w27,_,x27,y27,z27,a28,c28,f28,h28,i28,_,j28,k28,l28,m28,n28,o28,q28,s28,t28,u28,w28,x28,y28,z28,a29,_,c29,_,f29,h29,i29,_⟩,_,_,_,_,_,_⟩,_⟩ =>
 bif decide (List.length s25=List.length s25) then
 bif decide (List.length w25=List.length w25) then
 bif decide (List.length x25=List.length x25) then
 bif decide (List.length f26=List.length f26) then
 bif decide (List.length o26=List.length o26) then
 Option.bind (p43 fu ((q25,s25,t25,u25,w25,x25,y25,z25,a26,c26,f26,h26,i26,j26,k26,l26,m26,n26,o26,q26,s26,t26,u26,w26,x26,y26,z26,a27,c27,f27,h27,i27,j27,k27,l27,m27,n27,o27,q27,s27,t27,u27,w27,(),x27,y27,z27,a28,c28,f28,h28,i28,(),j28,k28,l28,m28,n28,o28,q28,s28,t28,u28,w28,x28,y28,z28,a29,(),c29,(),f29,h29,i29,()),())) fun ⟨⟨⟨j29,k29,l29,m29,n29,o29,q29,s29,t29,u29,w29,x29,y29,z29,a30,c30,f30,h30,i30,j30,k30,l30,m30,n30,o30,q30,s30,t30,u30,w30,x30,y30,z30,a31,c31,f31,h31,i31,j31,k31,l31,m31,n31,_,o31,q31,s31,t31,u31,w31,x31,y31,_,z31,a32,c32,f32,h32,i32,j32,k32,l32,m32,n32,o32,q32,s32,t32,_,u32,_,w32,x32,y32,_⟩,_,_,_,_,_,_⟩,_⟩ =>
 bif decide (List.length k29=List.length k29) then
 bif decide (List.length n29=List.length n29) then
 bif decide (List.length o29=List.length o29) then
 bif decide (List.length w29=List.length w29) then
 bif decide (List.length i30=List.length i30) then
 some (((j29,k29,l29,m29,n29,o29,q29,s29,t29,u29,w29,x29,y29,z29,a30,c30,f30,h30,i30,j30,k30,l30,m30,n30,o30,q30,s30,t30,u30,w30,x30,y30,z30,a31,c31,f31,h31,i31,j31,k31,l31,m31,n31,[],o31,q31,s31,t31,u31,w31,x31,y31,[],z31,a32,c32,f32,h32,i32,j32,k32,l32,m32,n32,o32,q32,s32,t32,[],u32,[],w32,x32,y32,()),(),(),(),(),(),()),())
 else none
 else none
 else none
 else none
 else none
 else none
 else none
 else none
 else none
 else none
 else none
 else none
 else none
 else none
 else none
 else none
 else none
 else none
 else none
 else none
 else none
 else none
 else none
 else none
 else none
 else
 bif (u2==(201:Int)) then
 bif decide (List.length c=List.length c) then
 bif decide (List.length i=List.length i) then
 bif decide (List.length j=List.length j) then
 bif decide (List.length o=List.length o) then
 bif decide (List.length z=List.length z) then
 Option.bind (p44 fu ((a,c,f,h,i,j,k,l,m,n,o,q,s,t,u,w,x,y,z,a0,c0,f0,h0,i0,j0,k0,l0,m0,n0,o0,q0,s0,t0,u0,w0,x0,y0,z0,a1,c1,f1,h1,i1,(),j1,k1,l1,m1,n1,o1,q1,s1,(),t1,u1,w1,x1,y1,z1,a2,c2,f2,h2,i2,j2,k2,l2,m2,(),n2,(),o2,q2,s2,()),n0,w2,())) fun ⟨⟨⟨z32,a33,c33,f33,h33,i33,j33,k33,l33,m33,n33,o33,q33,s33,t33,u33,w33,x33,y33,z33,a34,c34,f34,h34,i34,j34,k34,l34,m34,n34,o34,q34,s34,t34,u34,w34,x34,y34,z34,a35,c35,f35,h35,_,i35,j35,k35,l35,m35,n35,o35,q35,_,s35,t35,u35,w35,x35,y35,z35,a36,c36,f36,h36,i36,j36,k36,l36,_,m36,_,n36,o36,q36,_⟩,_,_,_,_,_,_⟩,s36⟩ =>
 bif s36 then
 bif decide (List.length a33=List.length a33) then
 bif decide (List.length h33=List.length h33) then
 bif decide (List.length i33=List.length i33) then
 bif decide (List.length n33=List.length n33) then
 bif decide (List.length y33=List.length y33) then
 Option.bind (p21 fu ((z32,a33,c33,f33,h33,i33,j33,k33,l33,m33,n33,o33,q33,s33,t33,u33,w33,x33,y33,z33,a34,c34,f34,h34,i34,j34,k34,l34,m34,n34,o34,q34,s34,t34,u34,w34,x34,y34,z34,a35,c35,f35,h35,(),i35,j35,k35,l35,m35,n35,o35,q35,(),s35,t35,u35,w35,x35,y35,z35,a36,c36,f36,h36,i36,j36,k36,l36,(),m36,(),n36,o36,q36,()),())) fun ⟨⟨⟨t36,u36,w36,x36,y36,z36,a37,c37,f37,h37,i37,j37,k37,l37,m37,n37,o37,q37,s37,t37,u37,w37,x37,y37,z37,a38,c38,f38,h38,i38,j38,k38,l38,m38,n38,o38,q38,s38,t38,u38,w38,x38,y38,z38,a39,c39,f39,h39,i39,j39,k39,l39,m39,n39,o39,q39,s39,t39,u39,w39,x39,y39,z39,a40,c40,f40,h40,i40,_,j40,_,k40,l40,m40,_⟩,_,_,_,_,_,_⟩,_⟩ =>
 bif decide (List.length z38=List.length z38) then
 bif decide (List.length m39=List.length m39) then
 some (((t36,u36,w36,x36,y36,z36,a37,c37,f37,h37,i37,j37,k37,l37,m37,n37,o37,q37,s37,t37,u37,w37,x37,y37,z37,a38,c38,f38,h38,i38,j38,k38,l38,m38,n38,o38,q38,s38,t38,u38,w38,x38,y38,z38,a39,c39,f39,h39,i39,j39,k39,l39,m39,n39,o39,q39,s39,t39,u39,w39,x39,y39,z39,a40,c40,f40,h40,i40,[],j40,[],k40,l40,m40,()),(),(),(),(),(),()),())
 else none
 else none
 else none
 else none
 else none
 else none
 else none
 else
 bif decide (List.length a33=List.length a33) then
 bif decide (List.length h33=List.length h33) then
 bif decide (List.length i33=List.length i33) then
 bif decide (List.length n33=List.length n33) then
 bif decide (List.length y33=List.length y33) then
 Option.bind (p45 fu ((z32,a33,c33,f33,h33,i33,j33,k33,l33,m33,n33,o33,q33,s33,t33,u33,w33,x33,y33,z33,a34,c34,f34,h34,i34,j34,k34,l34,m34,n34,o34,q34,s34,t34,u34,w34,x34,y34,z34,a35,c35,f35,h35,(),i35,j35,k35,l35,m35,n35,o35,q35,(),s35,t35,u35,w35,x35,y35,z35,a36,c36,f36,h36,i36,j36,k36,l36,(),m36,(),n36,o36,q36,()),m34,())) fun ⟨⟨⟨n40,o40,q40,s40,t40,u40,w40,x40,y40,z40,a41,c41,f41,h41,i41,j41,k41,l41,m41,n41,o41,q41,s41,t41,u41,w41,x41,y41,z41,a42,c42,f42,h42,i42,j42,k42,l42,m42,n42,o42,q42,s42,t42,_,u42,w42,x42,y42,z42,a43,c43,f43,_,h43,i43,j43,k43,l43,m43,n43,o43,q43,s43,t43,u43,w43,x43,y43,_,z43,_,a44,c44,f44,_⟩,_,_,_,_,_,_⟩,_⟩ =>
 bif decide (List.length o40=List.length o40) then
 bif decide (List.length t40=List.length t40) then
 bif decide (List.length u40=List.length u40) then
 bif decide (List.length a41=List.length a41) then
 bif decide (List.length m41=List.length m41) then
 Option.bind (p43 fu ((n40,o40,q40,s40,t40,u40,w40,x40,y40,z40,a41,c41,f41,h41,i41,j41,k41,l41,m41,n41,o41,q41,s41,t41,u41,w41,x41,y41,z41,a42,c42,f42,h42,i42,j42,k42,l42,m42,n42,o42,q42,s42,t42,(),u42,w42,x42,y42,z42,a43,c43,f43,(),h43,i43,j43,k43,l43,m43,n43,o43,q43,s43,t43,u43,w43,x43,y43,(),z43,(),a44,c44,f44,()),())) fun ⟨⟨⟨h44,i44,j44,k44,l44,m44,n44,o44,q44,s44,t44,u44,w44,x44,y44,z44,a45,c45,f45,h45,i45,j45,k45,l45,m45,n45,o45,q45,s45,t45,u45,w45,x45,y45,z45,a46,c46,f46,h46,i46,j46,k46,l46,_,m46,n46,o46,q46,s46,t46,u46,w46,_,x46,y46,z46,a47,c47,f47,h47,i47,j47,k47,l47,m47,n47,o47,q47,_,s47,_,t47,u47,w47,_⟩,_,_,_,_,_,_⟩,_⟩ =>
 bif decide (List.length i44=List.length i44) then
 bif decide (List.length l44=List.length l44) then
 bif decide (List.length m44=List.length m44) then
 bif decide (List.length t44=List.length t44) then
 bif decide (List.length f45=List.length f45) then
 Option.bind (p42 fu ((h44,i44,j44,k44,l44,m44,n44,o44,q44,s44,t44,u44,w44,x44,y44,z44,a45,c45,f45,h45,i45,j45,k45,l45,m45,n45,o45,q45,s45,t45,u45,w45,x45,y45,z45,a46,c46,f46,h46,i46,j46,k46,l46,(),m46,n46,o46,q46,s46,t46,u46,w46,(),x46,y46,z46,a47,c47,f47,h47,i47,j47,k47,l47,m47,n47,o47,q47,(),s47,(),t47,u47,w47,()),())) fun ⟨⟨⟨x47,y47,z47,a48,c48,f48,h48,i48,j48,k48,l48,m48,n48,o48,q48,s48,t48,u48,w48,x48,y48,z48,a49,c49,f49,h49,i49,j49,k49,l49,m49,n49,o49,q49,s49,t49,u49,w49,x49,y49,z49,a50,c50,_,f50,h50,i50,j50,k50,l50,m50,n50,_,o50,q50,s50,t50,u50,w50,x50,y50,z50,a51,c51,f51,h51,i51,j51,_,k51,_,l51,m51,n51,_⟩,_,_,_,_,_,_⟩,_⟩ =>
 bif decide (List.length y47=List.length y47) then
 bif decide (List.length c48=List.length c48) then
 bif decide (List.length f48=List.length f48) then
 bif decide (List.length l48=List.length l48) then
 bif decide (List.length w48=List.length w48) then
 some (((x47,y47,z47,a48,c48,f48,h48,i48,j48,k48,l48,m48,n48,o48,q48,s48,t48,u48,w48,x48,y48,z48,a49,c49,f49,h49,i49,j49,k49,l49,m49,n49,o49,q49,s49,t49,u49,w49,x49,y49,z49,a50,c50,[],f50,h50,i50,j50,k50,l50,m50,n50,[],o50,q50,s50,t50,u50,w50,x50,y50,z50,a51,c51,f51,h51,i51,j51,[],k51,[],l51,m51,n51,()),(),(),(),(),(),()),())
 else none
 else none
 else none
 else none
 else none
 else none
 else none
 else none
 else none
 else none
 else none
 else none
 else none
 else none
 else none
 else none
 else none
 else none
 else none
 else none
 else none
 else none
 else none
 else none
 else none
 else
 orK (E := ((Bool)×(Unit))×(Unit))
 (bif (u2==(202:Int)) then
 some (.inl ((true,()),()))
 else
 bif (u2==(162:Int)) then
 some (.inl ((true,()),()))
 else
 bif (u2==(164:Int)) then
 some (.inl ((true,()),()))
 else
 bif (u2==(163:Int)) then
 some (.inl ((true,()),()))
 else
 some (.inl (((u2==(182:Int)),()),())))
 fun ⟨⟨o51,_⟩,_⟩ =>
 bif o51 then
 orK (E := ((Bool)×(Unit))×(Unit))
 (bif (l==(5:Int)) then
 some (.inl (((u2 != (202:Int)),()),()))
 else
 some (.inl ((false,()),())))
 fun ⟨⟨q51,_⟩,_⟩ =>
 bif q51 then
 bif decide (List.length c=List.length c) then
 bif decide (List.length i=List.length i) then
 bif decide (List.length j=List.length j) then
 bif decide (List.length o=List.length o) then
 bif decide (List.length z=List.length z) then
 Option.bind (p37 fu ((a,c,f,h,i,j,k,l,m,n,o,q,s,t,u,w,x,y,z,a0,c0,f0,h0,i0,j0,k0,l0,m0,n0,o0,q0,s0,t0,u0,w0,x0,y0,z0,a1,c1,f1,h1,i1,(),j1,k1,l1,m1,n1,o1,q1,s1,(),t1,u1,w1,x1,y1,z1,a2,c2,f2,h2,i2,j2,k2,l2,m2,(),n2,(),o2,q2,s2,()),(t2,u2,w2,x2,y2,z2,a3,c3,f3,h3,i3,j3,()),())) fun ⟨⟨⟨s51,t51,u51,w51,x51,y51,z51,a52,c52,f52,_,h52,i52,j52,k52,l52,m52,n52,_,o52,q52,s52,t52,u52,w52,x52,y52,z52,a53,c53,f53,h53,i53,j53,k53,l53,m53,n53,o53,q53,s53,t53,u53,_,w53,x53,y53,z53,a54,c54,f54,h54,_,i54,j54,k54,l54,m54,n54,o54,q54,s54,t54,u54,w54,x54,y54,z54,a55,c55,f55,h55,i55,j55,_⟩,_,_,_,_,_,_⟩,_⟩ =>
 bif decide (List.length t51=List.length t51) then
 bif decide (List.length x51=List.length x51) then
 bif decide (List.length y51=List.length y51) then
 some (((s51,t51,u51,w51,x51,y51,z51,a52,c52,f52,[],h52,i52,j52,k52,l52,m52,n52,[],o52,q52,s52,t52,u52,w52,x52,y52,z52,a53,c53,f53,h53,i53,j53,k53,l53,m53,n53,o53,q53,s53,t53,u53,[],w53,x53,y53,z53,a54,c54,f54,h54,[],i54,j54,k54,l54,m54,n54,o54,q54,s54,t54,u54,w54,x54,y54,z54,a55,c55,f55,h55,i55,j55,()),(),(),(),(),(),()),())
 else none
 else none
 else none
 else none
 else none
 else none
 else none
 else none
 else
 bif decide (List.length c=List.length c) then
 bif decide (List.length i=List.length i) then
 bif decide (List.length j=List.length j) then
 bif decide (List.length o=List.length o) then
 bif decide (List.length z=List.length z) then
 Option.bind (p45 fu ((a,c,f,h,i,j,k,l,m,n,o,q,s,t,u,w,x,y,z,a0,c0,f0,h0,i0,j0,k0,l0,m0,n0,o0,q0,s0,t0,u0,w0,x0,y0,z0,a1,c1,f1,h1,i1,(),j1,k1,l1,m1,n1,o1,q1,s1,(),t1,u1,w1,x1,y1,z1,a2,c2,f2,h2,i2,j2,k2,l2,m2,(),n2,(),o2,q2,s2,()),n0,())) fun ⟨⟨⟨k55,l55,m55,n55,o55,q55,s55,t55,u55,w55,x55,y55,z55,a56,c56,f56,h56,i56,j56,k56,l56,m56,n56,o56,q56,s56,t56,u56,w56,x56,y56,z56,a57,c57,f57,h57,i57,j57,k57,l57,m57,n57,o57,_,q57,s57,t57,u57,w57,x57,y57,z57,_,a58,c58,f58,h58,i58,j58,k58,l58,m58,n58,o58,q58,s58,t58,u58,_,w58,_,x58,y58,z58,_⟩,_,_,_,_,_,_⟩,_⟩ =>
 bif decide (List.length l55=List.length l55) then
 bif decide (List.length o55=List.length o55) then
 bif decide (List.length q55=List.length q55) then
 bif decide (List.length x55=List.length x55) then
 bif decide (List.length j56=List.length j56) then
 Option.bind (p46 fu ((k55,l55,m55,n55,o55,q55,s55,t55,u55,w55,x55,y55,z55,a56,c56,f56,h56,i56,j56,k56,l56,m56,n56,o56,q56,s56,t56,u56,w56,x56,y56,z56,a57,c57,f57,h57,i57,j57,k57,l57,m57,n57,o57,[],q57,s57,t57,u57,w57,x57,y57,z57,[],a58,c58,f58,h58,i58,j58,k58,l58,m58,n58,o58,q58,s58,t58,u58,[],w58,[],x58,y58,z58,()),())) fun ⟨_,a59⟩ =>
 orK (E := (Unit)×((Z0)×(Unit)))
 (orK (E := ((Bool)×(Unit))×(Unit))
 (bif !(l==(5:Int)) then
 some (.inl ((decide (a59≥(0:Int)),()),()))
 else
 some (.inl ((false,()),())))
 fun ⟨⟨c59,_⟩,_⟩ =>
 bif c59 then
 bif decide ((0:Int)≤a59) then
 bif decide (0≤Int.toNat a59∧0+(Int.toNat a59)≤List.length o55) then
 bif decide (0=List.length ([]:List (D_api_Topic))) then
 bif decide (0+(Int.toNat a59)≤List.length o55) then
 bif decide (List.length ([]:List (D_api_Topic))+List.length (List.take (Int.toNat a59) o55)≤maxLen∧(List.length ([]:List (D_api_Topic))+List.length (List.take (Int.toNat a59) o55)) * 40≤140737488355328) then
 bif decide ((0:Int)≤IntKind.wrap .i64 (a59+(1:Int))) then
 bif decide (Int.toNat (IntKind.wrap .i64 (a59+(1:Int)))≤List.length o55∧0+(List.length o55)≤List.length o55) then
 bif decide (List.length (([]:List (D_api_Topic)) ++ List.take (Int.toNat a59) o55)=List.length (([]:List (D_api_Topic)) ++ List.take (Int.toNat a59) o55)) then
 bif decide ((Int.toNat (IntKind.wrap .i64 (a59+(1:Int))))+((List.length o55)-(Int.toNat (IntKind.wrap .i64 (a59+(1:Int)))))≤List.length o55) then
 bif decide (List.length (([]:List (D_api_Topic)) ++ List.take (Int.toNat a59) o55)+List.length (sub' o55 (Int.toNat (IntKind.wrap .i64 (a59+(1:Int)))) ((List.length o55)-(Int.toNat (IntKind.wrap .i64 (a59+(1:Int))))))≤maxLen∧(List.length (([]:List (D_api_Topic)) ++ List.take (Int.toNat a59) o55)+List.length (sub' o55 (Int.toNat (IntKind.wrap .i64 (a59+(1:Int)))) ((List.length o55)-(Int.toNat (IntKind.wrap .i64 (a59+(1:Int))))))) * 40≤140737488355328) then
 bif decide (List.length l55=List.length l55) then
 bif decide (List.length ((([]:List (D_api_Topic)) ++ List.take (Int.toNat a59) o55) ++ sub' o55 (Int.toNat (IntKind.wrap .i64 (a59+(1:Int)))) ((List.length o55)-(Int.toNat (IntKind.wrap .i64 (a59+(1:Int))))))=List.length ((([]:List (D_api_Topic)) ++ List.take (Int.toNat a59) o55) ++ sub' o55 (Int.toNat (IntKind.wrap .i64 (a59+(1:Int)))) ((List.length o55)-(Int.toNat (IntKind.wrap .i64 (a59+(1:Int))))))) then
 bif decide (List.length q55=List.length q55) then
 bif decide (List.length x55=List.length x55) then
 bif decide (List.length j56=List.length j56) then
 some (.inl ((),((k55,l55,m55,n55,((([]:List (D_api_Topic)) ++ List.take (Int.toNat a59) o55) ++ sub' o55 (Int.toNat (IntKind.wrap .i64 (a59+(1:Int)))) ((List.length o55)-(Int.toNat (IntKind.wrap .i64 (a59+(1:Int)))))),q55,s55,t55,u55,w55,x55,y55,z55,a56,c56,f56,h56,i56,j56,k56,l56,m56,n56,o56,q56,s56,t56,u56,w56,x56,y56,z56,a57,c57,f57,h57,i57,j57,k57,l57,m57,n57,o57,(),q57,s57,t57,u57,w57,x57,y57,z57,(),a58,c58,f58,h58,i58,j58,k58,l58,m58,n58,o58,q58,s58,t58,u58,(),w58,(),x58,y58,z58,()),())))
 else none
 else none
 else none
 else none
 else none
 else none
 else none
 else none
 else none
 else none
 else none
 else none
 else none
 else none
 else none
 else
 bif decide (List.length l55=List.length l55) then
 bif decide (List.length o55=List.length o55) then
 bif decide (List.length q55=List.length q55) then
 bif decide (List.length x55=List.length x55) then
 bif decide (List.length j56=List.length j56) then
 some (.inl ((),((k55,l55,m55,n55,o55,q55,s55,t55,u55,w55,x55,y55,z55,a56,c56,f56,h56,i56,j56,k56,l56,m56,n56,o56,q56,s56,t56,u56,w56,x56,y56,z56,a57,c57,f57,h57,i57,j57,k57,l57,m57,n57,o57,(),q57,s57,t57,u57,w57,x57,y57,z57,(),a58,c58,f58,h58,i58,j58,k58,l58,m58,n58,o58,q58,s58,t58,u58,(),w58,(),x58,y58,z58,()),())))
 else none
 else none
 else none
 else none
 else none)
 fun ⟨_,⟨⟨a7,c7,f7,h7,i7,j7,k7,l7,m7,n7,o7,q7,s7,t7,u7,w7,x7,y7,z7,a8,c8,f8,h8,i8,j8,k8,l8,m8,n8,o8,q8,s8,t8,u8,w8,x8,y8,z8,a9,c9,f9,h9,i9,_,j9,k9,l9,m9,n9,o9,q9,s9,_,t9,u9,w9,x9,y9,z9,a10,c10,f10,h10,i10,j10,k10,l10,m10,_,n10,_,o10,q10,s10,_⟩,_⟩⟩ =>
 bif decide (List.length c7=List.length c7) then
 bif decide (List.length i7=List.length i7) then
 bif decide (List.length j7=List.length j7) then
 bif decide (List.length o7=List.length o7) then
 bif decide (List.length z7=List.length z7) then
 Option.bind (p43 fu ((a7,c7,f7,h7,i7,j7,k7,l7,m7,n7,o7,q7,s7,t7,u7,w7,x7,y7,z7,a8,c8,f8,h8,i8,j8,k8,l8,m8,n8,o8,q8,s8,t8,u8,w8,x8,y8,z8,a9,c9,f9,h9,i9,(),j9,k9,l9,m9,n9,o9,q9,s9,(),t9,u9,w9,x9,y9,z9,a10,c10,f10,h10,i10,j10,k10,l10,m10,(),n10,(),o10,q10,s10,()),())) fun ⟨⟨⟨f59,h59,i59,j59,k59,l59,m59,n59,o59,q59,s59,t59,u59,w59,x59,y59,z59,a60,c60,f60,h60,i60,j60,k60,l60,m60,n60,o60,q60,s60,t60,u60,w60,x60,y60,z60,a61,c61,f61,h61,i61,j61,k61,_,l61,m61,n61,o61,q61,s61,t61,u61,_,w61,x61,y61,z61,a62,c62,f62,h62,i62,j62,k62,l62,m62,n62,o62,_,q62,_,s62,t62,u62,_⟩,_,_,_,_,_,_⟩,_⟩ =>
 bif decide (List.length h59=List.length h59) then
 bif decide (List.length k59=List.length k59) then
 bif decide (List.length l59=List.length l59) then
 bif decide (List.length s59=List.length s59) then
 bif decide (List.length c60=List.length c60) then
 Option.bind (p42 fu ((f59,h59,i59,j59,k59,l59,m59,n59,o59,q59,s59,t59,u59,w59,x59,y59,z59,a60,c60,f60,h60,i60,j60,k60,l60,m60,n60,o60,q60,s60,t60,u60,w60,x60,y60,z60,a61,c61,f61,h61,i61,j61,k61,(),l61,m61,n61,o61,q61,s61,t61,u61,(),w61,x61,y61,z61,a62,c62,f62,h62,i62,j62,k62,l62,m62,n62,o62,(),q62,(),s62,t62,u62,()),())) fun ⟨⟨⟨w62,x62,y62,z62,a63,c63,f63,h63,i63,j63,k63,l63,m63,n63,o63,q63,s63,t63,u63,w63,x63,y63,z63,a64,c64,f64,h64,i64,j64,k64,l64,m64,n64,o64,q64,s64,t64,u64,w64,x64,y64,z64,a65,_,c65,f65,h65,i65,j65,k65,l65,m65,_,n65,o65,q65,s65,t65,u65,w65,x65,y65,z65,a66,c66,f66,h66,i66,_,j66,_,k66,l66,m66,_⟩,_,_,_,_,_,_⟩,_⟩ =>
 bif decide (List.length x62=List.length x62) then
 bif decide (List.length a63=List.length a63) then
 bif decide (List.length c63=List.length c63) then
 bif decide (List.length k63=List.length k63) then
 bif decide (List.length u63=List.length u63) then
 some (((w62,x62,y62,z62,a63,c63,f63,h63,i63,j63,k63,l63,m63,n63,o63,q63,s63,t63,u63,w63,x63,y63,z63,a64,c64,f64,h64,i64,j64,k64,l64,m64,n64,o64,q64,s64,t64,u64,w64,x64,y64,z64,a65,[],c65,f65,h65,i65,j65,k65,l65,m65,[],n65,o65,q65,s65,t65,u65,w65,x65,y65,z65,a66,c66,f66,h66,i66,[],j66,[],k66,l66,m66,()),(),(),(),(),(),()),())
 else none
 else none
 else none
 else none
 else none
 else none
 else none
 else none
 else none
 else none
 else none
 else none
 else none
 else none
 else none
 else none
 else none
 else none
 else none
 else none
 else none
 else none
 else none
 else none
 else none
 else
 bif (u2==(203:Int)) then
 bif (l==(5:Int)) then
 bif decide (List.length c=List.length c) then
 bif decide (List.length i=List.length i) then
 bif decide (List.length j=List.length j) then
 bif decide (List.length o=List.length o) then
 bif decide (List.length z=List.length z) then
 Option.bind (p37_3 fu ((a,c,f,h,i,j,k,l,m,n,o,q,s,t,u,w,x,y,z,a0,c0,f0,h0,i0,j0,k0,l0,m0,n0,o0,q0,s0,t0,u0,w0,x0,y0,z0,a1,c1,f1,h1,i1,(),j1,k1,l1,m1,n1,o1,q1,s1,(),t1,u1,w1,x1,y1,z1,a2,c2,f2,h2,i2,j2,k2,l2,m2,(),n2,(),o2,q2,s2,()),((0:Int),(213:Int),(0:Int),(0:Int),(0:Int),false,(),(0:Int),(),(0:Int),(0:Int),(0:Int),()),())) fun ⟨⟨⟨n66,o66,q66,s66,t66,u66,w66,x66,y66,z66,_,a67,c67,f67,h67,i67,j67,k67,_,l67,m67,n67,o67,q67,s67,t67,u67,w67,x67,y67,z67,a68,c68,f68,h68,i68,j68,k68,l68,m68,n68,o68,q68,_,s68,t68,u68,w68,x68,y68,z68,a69,_,c69,f69,h69,i69,j69,k69,l69,m69,n69,o69,q69,s69,t69,u69,w69,_,x69,_,y69,z69,a70,_⟩,_,_,_,_,_,_⟩,_⟩ =>
 bif decide (List.length o66=List.length o66) then
 bif decide (List.length t66=List.length t66) then
 bif decide (List.length u66=List.length u66) then
 some (((n66,o66,q66,s66,t66,u66,w66,x66,y66,z66,[],a67,c67,f67,h67,i67,j67,k67,[],l67,m67,n67,o67,q67,s67,t67,u67,w67,x67,y67,z67,a68,c68,f68,h68,i68,j68,k68,l68,m68,n68,o68,q68,[],s68,t68,u68,w68,x68,y68,z68,a69,[],c69,f69,h69,i69,j69,k69,l69,m69,n69,o69,q69,s69,t69,u69,w69,[],x69,[],y69,z69,a70,()),(),(),(),(),(),()),())
 else none
 else none
 else none
 else none
 else none
 else none
 else none
 else none
 else
 bif decide (List.length c=List.length c) then
 bif decide (List.length i=List.length i) then
 bif decide (List.length j=List.length j) then
 bif decide (List.length o=List.length o) then
 bif decide (List.length z=List.length z) then
 Option.bind (p42 fu ((a,c,f,h,i,j,k,l,m,n,o,q,s,t,u,w,x,y,z,a0,c0,f0,h0,i0,j0,k0,l0,m0,n0,o0,q0,s0,t0,u0,w0,x0,y0,z0,a1,c1,f1,h1,i1,(),j1,k1,l1,m1,n1,o1,q1,s1,(),t1,u1,w1,x1,y1,z1,a2,c2,f2,h2,i2,j2,k2,l2,m2,(),n2,(),o2,q2,s2,()),())) fun ⟨⟨⟨c70,f70,h70,i70,j70,k70,l70,m70,n70,o70,q70,s70,t70,u70,w70,x70,y70,z70,a71,c71,f71,h71,i71,j71,k71,l71,m71,n71,o71,q71,s71,t71,u71,w71,x71,y71,z71,a72,c72,f72,h72,i72,j72,_,k72,l72,m72,n72,o72,q72,s72,t72,_,u72,w72,x72,y72,z72,a73,c73,f73,h73,i73,j73,k73,l73,m73,n73,_,o73,_,q73,s73,t73,_⟩,_,_,_,_,_,_⟩,_⟩ =>
 bif decide (List.length f70=List.length f70) then
 bif decide (List.length j70=List.length j70) then
 bif decide (List.length k70=List.length k70) then
 bif decide (List.length q70=List.length q70) then
 bif decide (List.length a71=List.length a71) then
 some (((c70,f70,h70,i70,j70,k70,l70,m70,n70,o70,q70,s70,t70,u70,w70,x70,y70,z70,a71,c71,f71,h71,i71,j71,k71,l71,m71,n71,o71,q71,s71,t71,u71,w71,x71,y71,z71,a72,c72,f72,h72,i72,j72,[],k72,l72,m72,n72,o72,q72,s72,t72,[],u72,w72,x72,y72,z72,a73,c73,f73,h73,i73,j73,k73,l73,m73,n73,[],o73,[],q73,s73,t73,()),(),(),(),(),(),()),())
 else none
 else none
 else none
 else none
 else none
 else none
 else none
 else none
 else none
 else none
 else
 bif decide (List.length c=List.length c) then
 bif decide (List.length i=List.length i) then
 bif decide (List.length j=List.length j) then
 bif decide (List.length o=List.length o) then
 bif decide (List.length z=List.length z) then
 Option.bind (p37 fu ((a,c,f,h,i,j,k,l,m,n,o,q,s,t,u,w,x,y,z,a0,c0,f0,h0,i0,j0,k0,l0,m0,n0,o0,q0,s0,t0,u0,w0,x0,y0,z0,a1,c1,f1,h1,i1,(),j1,k1,l1,m1,n1,o1,q1,s1,(),t1,u1,w1,x1,y1,z1,a2,c2,f2,h2,i2,j2,k2,l2,m2,(),n2,(),o2,q2,s2,()),(t2,u2,w2,x2,y2,z2,a3,c3,f3,h3,i3,j3,()),())) fun ⟨⟨⟨u73,w73,x73,y73,z73,a74,c74,f74,h74,i74,_,j74,k74,l74,m74,n74,o74,q74,_,s74,t74,u74,w74,x74,y74,z74,a75,c75,f75,h75,i75,j75,k75,l75,m75,n75,o75,q75,s75,t75,u75,w75,x75,_,y75,z75,a76,c76,f76,h76,i76,j76,_,k76,l76,m76,n76,o76,q76,s76,t76,u76,w76,x76,y76,z76,a77,c77,f77,h77,i77,j77,k77,l77,_⟩,_,_,_,_,_,_⟩,_⟩ =>
 bif decide (List.length w73=List.length w73) then
 bif decide (List.length z73=List.length z73) then
 bif decide (List.length a74=List.length a74) then
 some (((u73,w73,x73,y73,z73,a74,c74,f74,h74,i74,[],j74,k74,l74,m74,n74,o74,q74,[],s74,t74,u74,w74,x74,y74,z74,a75,c75,f75,h75,i75,j75,k75,l75,m75,n75,o75,q75,s75,t75,u75,w75,x75,[],y75,z75,a76,c76,f76,h76,i76,j76,[],k76,l76,m76,n76,o76,q76,s76,t76,u76,w76,x76,y76,z76,a77,c77,f77,h77,i77,j77,k77,l77,()),(),(),(),(),(),()),())
 else none
 else none
 else none
 else none
 else none
 else none
 else none
 else none
def e22 (fu:Nat):Ent := ⟨22,(.cons Y46 (.cons Y37 .nil)),(.cons Y56 (.cons .dead (.cons .dead (.cons .dead (.cons .dead (.cons .dead .nil)))))),(.tup 0 .nil),p22 fu⟩
theorem g22 (fu:Nat):(e22 fu).Good Try.prog := good_fx orders Try.func22 fu [(46,(.ent (e41 fu))),(55,(.ent (e37 fu))),(59,(.ent (e41 fu))),(61,(.ent (e38_2 fu))),(70,(.ent (e21 fu))),(72,(.ent (e42 fu))),(74,(.ent (e43 fu))),(85,(.ent (e44 fu))),(89,(.ent (e21 fu))),(96,(.ent (e45 fu))),(98,(.ent (e43 fu))),(100,(.ent (e42 fu))),(119,(.ent (e37 fu))),(126,(.ent (e45 fu))),(128,(.ent (e46 fu))),(136,(.ty T_api_Topic_n)),(144,(.ty T_api_Topic_n)),(156,(.ty T_api_Topic_n)),(162,(.ent (e43 fu))),(164,(.ent (e42 fu))),(170,(.ent (e37_3 fu))),(172,(.ent (e42 fu))),(175,(.ent (e37 fu)))] [(6,⟨[],.nil,[(0,80,74)],(.cons Y29 .nil),[0,3],[1,2,3,4,5,12]⟩),(22,⟨[108],(.cons (.hole .bool) .nil),[],.nil,[0,3,4,41],[0,1,2,3,4,5,7,8,9,10,11,12]⟩),(28,⟨[119],(.cons (.hole .bool) .nil),[],.nil,[0,3,4],[0,1,2,3,4,5,7,8,9,10,11,12]⟩),(32,⟨[],.nil,[(0,80,74)],(.cons Y29 .nil),[0],[1,2,3,4,5]⟩),(33,⟨[137],(.cons (.hole .bool) .nil),[],.nil,[0,8],[0,1,2,3,4,5,716,717,718,719,720]⟩)] rs22 173 (l := [e41 fu,e37 fu,e41 fu,e38_2 fu,e21 fu,e42 fu,e43 fu,e44 fu,e21 fu,e45 fu,e43 fu,e42 fu,e37 fu,e45 fu,e46 fu,e43 fu,e42 fu,e37_3 fu,e42 fu,e37 fu]) ⟨g41 fu,g37 fu,g41 fu,g38_2 fu,g21 fu,g42 fu,g43 fu,g44 fu,g21 fu,g45 fu,g43 fu,g42 fu,g37 fu,g45 fu,g46 fu,g43 fu,g42 fu,g37_3 fu,g42 fu,g37 fu,trivial⟩
def rs23:List RVx := []
def p23 (fu:Nat):(Z0)×(Unit)→Option (((Z54)×((Unit)×((Unit)×((Unit)×((Unit)×((Unit)×(Unit)))))))×(Unit)) := fun ⟨⟨a,c,f,h,i,j,k,l,m,n,o,q,s,t,u,w,x,y,z,a0,c0,f0,h0,i0,j0,k0,l0,m0,n0,o0,q0,s0,t0,u0,w0,x0,y0,z0,a1,c1,f1,h1,i1,_,j1,k1,l1,m1,n1,o1,q1,s1,_,t1,u1,w1,x1,y1,z1,a2,c2,f2,h2,i2,j2,k2,l2,m2,_,n2,_,o2,q2,s2,_⟩,_⟩ =>
bif !k then
 bif decide (List.length c=List.length c) then
 bif decide (List.length i=List.length i) then
 bif decide (List.length j=List.length j) then
 bif decide (List.length o=List.length o) then
 bif decide (List.length z=List.length z) then
 some (((a,c,f,h,i,j,k,l,m,n,o,q,s,t,u,w,x,y,z,a0,c0,f0,h0,i0,j0,k0,l0,m0,n0,o0,q0,s0,t0,u0,w0,x0,y0,z0,a1,c1,f1,h1,i1,[],j1,k1,l1,m1,n1,o1,q1,s1,[],t1,u1,w1,x1,y1,z1,a2,c2,f2,h2,i2,j2,k2,l2,m2,(),n2,(),o2,q2,s2,()),(),(),(),(),(),()),())
 else none
 else none
 else none
 else none
 else none
else
 bif s0 then
 bif decide (List.length c=List.length c) then
 bif decide (List.length i=List.length i) then
 bif decide (List.length j=List.length j) then
 bif decide (List.length o=List.length o) then
 bif decide (List.length z=List.length z) then
 Option.bind (p21 fu ((a,c,f,h,i,j,k,l,m,n,o,q,s,t,u,w,x,y,z,a0,c0,f0,h0,i0,j0,k0,l0,m0,n0,o0,q0,s0,t0,u0,w0,x0,y0,z0,a1,c1,f1,h1,i1,(),j1,k1,l1,m1,n1,o1,q1,s1,(),t1,u1,w1,x1,y1,z1,a2,c2,f2,h2,i2,j2,k2,l2,m2,(),n2,(),o2,q2,s2,()),())) fun ⟨⟨⟨t2,u2,w2,x2,y2,z2,a3,c3,f3,h3,i3,j3,k3,l3,m3,n3,o3,q3,s3,t3,u3,w3,x3,y3,z3,a4,c4,f4,h4,i4,j4,k4,l4,m4,n4,o4,q4,s4,t4,u4,w4,x4,y4,z4,a5,c5,f5,h5,i5,j5,k5,l5,m5,n5,o5,q5,s5,t5,u5,w5,x5,y5,z5,a6,c6,f6,h6,i6,_,j6,_,k6,l6,m6,_⟩,_,_,_,_,_,_⟩,_⟩ =>
 bif decide (List.length z4=List.length z4) then
 bif decide (List.length m5=List.length m5) then
 some (((t2,u2,w2,x2,y2,z2,a3,c3,f3,h3,i3,j3,k3,l3,m3,n3,o3,q3,s3,t3,u3,w3,x3,y3,z3,a4,c4,f4,h4,i4,j4,k4,l4,m4,n4,o4,q4,s4,t4,u4,w4,x4,y4,z4,a5,c5,f5,h5,i5,j5,k5,l5,m5,n5,o5,q5,s5,t5,u5,w5,x5,y5,z5,a6,c6,f6,h6,i6,(),j6,(),k6,l6,m6,()),(),(),(),(),(),()),())
 else none
 else none
 else none
 else none
 else none
 else none
 else none
 else
 bif decide ((IntKind.wrap .i64 (q0+(1:Int)))<(12:Int)) then
 bif decide (List.length c=List.length c) then
 bif decide (List.length i=List.length i) then
 bif decide (List.length j=List.length j) then
 bif decide (List.length o=List.length o) then
 bif decide (List.length z=List.length z) then
 some (((a,c,f,h,i,j,k,l,m,n,o,q,s,t,u,w,x,y,z,a0,c0,f0,h0,i0,j0,k0,l0,m0,n0,o0,IntKind.wrap .i64 (q0+(1:Int)),s0,t0,u0,w0,x0,y0,z0,a1,c1,f1,h1,i1,[],j1,k1,l1,m1,n1,o1,q1,s1,[],t1,u1,w1,x1,y1,z1,a2,c2,f2,h2,i2,j2,k2,l2,m2,(),n2,(),o2,q2,s2,()),(),(),(),(),(),()),())
 else none
 else none
 else none
 else none
 else none
 else
 bif decide (List.length c=List.length c) then
 bif decide (List.length i=List.length i) then
 bif decide (List.length j=List.length j) then
 bif decide (List.length o=List.length o) then
 bif decide (List.length z=List.length z) then
 Option.bind (p45 fu ((a,c,f,h,i,j,k,l,m,n,o,q,s,t,u,w,x,y,z,a0,c0,f0,h0,i0,j0,k0,l0,m0,n0,o0,IntKind.wrap .i64 (q0+(1:Int)),s0,t0,u0,w0,x0,y0,z0,a1,c1,f1,h1,i1,(),j1,k1,l1,m1,n1,o1,q1,s1,(),t1,u1,w1,x1,y1,z1,a2,c2,f2,h2,i2,j2,k2,l2,m2,(),n2,(),o2,q2,s2,()),n0,())) fun ⟨⟨⟨n6,o6,q6,s6,t6,u6,w6,x6,y6,z6,a7,c7,f7,h7,i7,j7,k7,l7,m7,n7,o7,q7,s7,t7,u7,w7,x7,y7,z7,a8,c8,f8,h8,i8,j8,k8,l8,m8,n8,o8,q8,s8,t8,_,u8,w8,x8,y8,z8,a9,c9,f9,_,h9,i9,j9,k9,l9,m9,n9,o9,q9,s9,t9,u9,w9,x9,y9,_,z9,_,a10,c10,f10,_⟩,_,_,_,_,_,_⟩,_⟩ =>
 bif decide (List.length o6=List.length o6) then
 bif decide (List.length t6=List.length t6) then
 bif decide (List.length u6=List.length u6) then
 bif decide (List.length a7=List.length a7) then
 bif decide (List.length m7=List.length m7) then
 Option.bind (p43 fu ((n6,o6,q6,s6,t6,u6,w6,x6,y6,z6,a7,c7,f7,h7,i7,j7,k7,l7,m7,n7,o7,q7,s7,t7,u7,w7,x7,y7,z7,a8,c8,f8,h8,i8,j8,k8,l8,m8,n8,o8,q8,s8,t8,(),u8,w8,x8,y8,z8,a9,c9,f9,(),h9,i9,j9,k9,l9,m9,n9,o9,q9,s9,t9,u9,w9,x9,y9,(),z9,(),a10,c10,f10,()),())) fun ⟨⟨⟨h10,i10,j10,k10,l10,m10,n10,o10,q10,s10,t10,u10,w10,x10,y10,z10,a11,c11,f11,h11,i11,j11,k11,l11,m11,n11,o11,q11,s11,t11,u11,w11,x11,y11,z11,a12,c12,f12,h12,i12,j12,k12,l12,_,m12,n12,o12,q12,s12,t12,u12,w12,_,x12,y12,z12,a13,c13,f13,h13,i13,j13,k13,l13,m13,n13,o13,q13,_,s13,_,t13,u13,w13,_⟩,_,_,_,_,_,_⟩,_⟩ =>
 bif (o10==(5:Int)) then
 bif decide (List.length i10=List.length i10) then
 bif decide (List.length l10=List.length l10) then
 bif decide (List.length m10=List.length m10) then
 bif decide (List.length t10=List.length t10) then
 bif decide (List.length f11=List.length f11) then
 Option.bind (p37_3 fu ((h10,i10,j10,k10,l10,m10,n10,o10,q10,s10,t10,u10,w10,x10,y10,z10,a11,c11,f11,h11,i11,j11,k11,l11,m11,n11,o11,q11,s11,t11,u11,w11,x11,y11,z11,a12,c12,f12,h12,i12,j12,k12,l12,(),m12,n12,o12,q12,s12,t12,u12,w12,(),x12,y12,z12,a13,c13,f13,h13,i13,j13,k13,l13,m13,n13,o13,q13,(),s13,(),t13,u13,w13,()),((0:Int),(213:Int),(0:Int),(0:Int),(0:Int),false,(),(0:Int),(),(0:Int),(0:Int),(0:Int),()),())) fun ⟨⟨⟨x13,y13,z13,a14,c14,f14,h14,i14,j14,k14,_,l14,m14,n14,o14,q14,s14,t14,_,u14,w14,x14,y14,z14,a15,c15,f15,h15,i15,j15,k15,l15,m15,n15,o15,q15,s15,t15,u15,w15,x15,y15,z15,_,a16,c16,f16,h16,i16,j16,k16,l16,_,m16,n16,o16,q16,s16,t16,u16,w16,x16,y16,z16,a17,c17,f17,h17,_,i17,_,j17,k17,l17,_⟩,_,_,_,_,_,_⟩,_⟩ =>
 bif decide (List.length y13=List.length y13) then
 bif decide (List.length c14=List.length c14) then
 bif decide (List.length f14=List.length f14) then
 some (((x13,y13,z13,a14,c14,f14,h14,i14,j14,k14,[],l14,m14,n14,o14,q14,s14,t14,[],u14,w14,x14,y14,z14,a15,c15,f15,h15,i15,j15,k15,l15,m15,n15,o15,q15,s15,t15,u15,w15,x15,y15,z15,[],a16,c16,f16,h16,i16,j16,k16,l16,[],m16,n16,o16,q16,s16,t16,u16,w16,x16,y16,z16,a17,c17,f17,h17,(),i17,(),j17,k17,l17,()),(),(),(),(),(),()),())
 else none
 else none
 else none
 else none
 else none
 else none
 else none
 else none
 else
 bif decide (List.length i10=List.length i10) then
 bif decide (List.length l10=List.length l10) then
 bif decide (List.length m10=List.length m10) then
 bif decide (List.length t10=List.length t10) then
 bif decide (List.length f11=List.length f11) then
 Option.bind (p21 fu ((h10,i10,j10,k10,l10,m10,n10,o10,q10,s10,t10,u10,w10,x10,y10,z10,a11,c11,f11,h11,i11,j11,k11,l11,m11,n11,o11,q11,s11,t11,u11,w11,x11,y11,z11,a12,c12,f12,h12,i12,j12,k12,l12,(),m12,n12,o12,q12,s12,t12,u12,w12,(),x12,y12,z12,a13,c13,f13,h13,i13,j13,k13,l13,m13,n13,o13,q13,(),s13,(),t13,u13,w13,()),())) fun ⟨⟨⟨m17,n17,o17,q17,s17,t17,u17,w17,x17,y17,z17,a18,c18,f18,h18,i18,j18,k18,l18,m18,n18,o18,q18,s18,t18,u18,w18,x18,y18,z18,a19,c19,f19,h19,i19,j19,k19,l19,m19,n19,o19,q19,s19,t19,u19,w19,x19,y19,z19,a20,c20,f20,h20,i20,j20,k20,l20,m20,n20,o20,q20,s20,t20,u20,w20,x20,y20,z20,_,a21,_,c21,f21,h21,_⟩,_,_,_,_,_,_⟩,_⟩ =>
 bif decide (List.length t19=List.length t19) then
 bif decide (List.length h20=List.length h20) then
 some (((m17,n17,o17,q17,s17,t17,u17,w17,x17,y17,z17,a18,c18,f18,h18,i18,j18,k18,l18,m18,n18,o18,q18,s18,t18,u18,w18,x18,y18,z18,a19,c19,f19,h19,i19,j19,k19,l19,m19,n19,o19,q19,s19,t19,u19,w19,x19,y19,z19,a20,c20,f20,h20,i20,j20,k20,l20,m20,n20,o20,q20,s20,t20,u20,w20,x20,y20,z20,(),a21,(),c21,f21,h21,()),(),(),(),(),(),()),())
 else none
 else none
 else none
 else none
 else none
 else none
 else none
 else none
 else none
 else none
 else none
 else none
 else none
 else none
 else none
 else none
 else none
def e23 (fu:Nat):Ent := ⟨23,(.cons Y46 .nil),(.cons Y55 (.cons .dead (.cons .dead (.cons .dead (.cons .dead (.cons .dead .nil)))))),(.tup 0 .nil),p23 fu⟩
theorem g23 (fu:Nat):(e23 fu).Good Try.prog := good_fx orders Try.func23 fu [(12,(.ent (e21 fu))),(35,(.ent (e45 fu))),(37,(.ent (e43 fu))),(47,(.ent (e37_3 fu))),(49,(.ent (e21 fu)))] [] rs23 51 (l := [e21 fu,e45 fu,e43 fu,e37_3 fu,e21 fu]) ⟨g21 fu,g45 fu,g43 fu,g37_3 fu,g21 fu,trivial⟩
def rs11:List RVx := [(.cell 4 true 33),(.cell 5 true 41),(.tmp 6)]
def p11 (fu:Nat):(Z6)×((Z4)×(Unit))→Option ((Unit)×((Z6)×((Z5)×((Int)×(Unit))))) := fun ⟨⟨a,c,f,h,i,j,k,l,m,n,o,q,s,t,u,w,x,y,z,a0,c0,f0,h0,i0,j0,k0,l0,m0,n0,o0,q0,s0,t0,_⟩,⟨u0,w0,x0,y0,z0,a1,c1,f1,h1,i1,j1,k1,l1,m1,n1,o1,q1,s1,t1,u1,w1,x1,y1,z1,a2,c2,f2,h2,i2,j2,k2,l2,_⟩,_⟩ =>
Option.bind (p9 fu ((a,c,f,h,i,j,k,l,m,n,o,q,s,t,u,w,x,y,z,a0,c0,f0,h0,i0,j0,k0,l0,m0,n0,o0,q0,s0,t0,()),())) fun ⟨_,⟨m2,n2,o2,q2,s2,t2,u2,w2,x2,y2,z2,a3,c3,f3,h3,i3,j3,k3,l3,m3,n3,o3,q3,s3,t3,u3,w3,x3,y3,z3,a4,c4,f4,_⟩⟩ =>
orK (E := (Unit)×((Z3)×(Unit)))
 (bif (u0==(1:Int)) then
 Option.bind (p19 fu ((w0,x0,y0,z0,a1,c1,f1,h1,i1,j1,k1,l1,m1,n1,o1,q1,s1,t1,u1,()),())) fun ⟨_,h4⟩ =>
 bif k then
 Option.bind (p9 fu ((a,c,f,h,i,j,k,l,m,n,o,q,s,t,u,w,x,y,z,a0,c0,f0,h0,i0,j0,k0,l0,m0,n0,o0,q0,s0,t0,()),())) fun ⟨_,⟨i4,j4,k4,l4,m4,n4,o4,q4,s4,t4,u4,w4,x4,y4,z4,a5,c5,f5,h5,i5,j5,k5,l5,m5,n5,o5,q5,s5,t5,u5,w5,x5,y5,_⟩⟩ =>
 inrO (bif decide (List.length j4=List.length j4) then
 bif decide (List.length m4=List.length m4) then
 bif decide (List.length n4=List.length n4) then
 bif decide (List.length u4=List.length u4) then
 bif decide (List.length h5=List.length h5) then
 some ((),((i4,j4,k4,l4,m4,n4,o4,q4,s4,t4,u4,w4,x4,y4,z4,a5,c5,f5,h5,i5,j5,k5,l5,m5,n5,o5,q5,s5,t5,u5,w5,x5,y5,()),(false,(0:Int),(0:Int),(0:Int),(0:Int),(0:Int),(0:Int),(0:Int),(0:Int),(⟨#[]⟩:ByteArray),[],(0:Int),(0:Int),(⟨#[]⟩:ByteArray),(0:Int),(0:Int),(0:Int),(0:Int),(⟨#[]⟩:ByteArray),[],(0:Int),(0:Int),(⟨#[]⟩:ByteArray),(0:Int),(0:Int),(0:Int),(0:Int),(⟨#[]⟩:ByteArray),false,(0:Int),(0:Int),(0:Int),(0:Int),(0:Int),false,[],(0:Int),[],(0:Int),(0:Int),(0:Int),()),(211:Int),()))
 else none
 else none
 else none
 else none
 else none)
 else
 bif !h4 then
 Option.bind (p9 fu ((a,c,f,h,i,j,k,l,m,n,o,q,s,t,u,w,x,y,z,a0,c0,f0,h0,i0,j0,k0,l0,m0,n0,o0,q0,s0,t0,()),())) fun ⟨_,⟨z5,a6,c6,f6,h6,i6,j6,k6,l6,m6,n6,o6,q6,s6,t6,u6,w6,x6,y6,z6,a7,c7,f7,h7,i7,j7,k7,l7,m7,n7,o7,q7,s7,_⟩⟩ =>
 inrO (bif decide (List.length a6=List.length a6) then
 bif decide (List.length h6=List.length h6) then
 bif decide (List.length i6=List.length i6) then
 bif decide (List.length n6=List.length n6) then
 bif decide (List.length y6=List.length y6) then
 some ((),((z5,a6,c6,f6,h6,i6,j6,k6,l6,m6,n6,o6,q6,s6,t6,u6,w6,x6,y6,z6,a7,c7,f7,h7,i7,j7,k7,l7,m7,n7,o7,q7,s7,()),(false,(0:Int),(0:Int),(0:Int),(0:Int),(0:Int),(0:Int),(0:Int),(0:Int),(⟨#[]⟩:ByteArray),[],(0:Int),(0:Int),(⟨#[]⟩:ByteArray),(0:Int),(0:Int),(0:Int),(0:Int),(⟨#[]⟩:ByteArray),[],(0:Int),(0:Int),(⟨#[]⟩:ByteArray),(0:Int),(0:Int),(0:Int),(0:Int),(⟨#[]⟩:ByteArray),false,(0:Int),(0:Int),(0:Int),(0:Int),(0:Int),false,[],(0:Int),[],(0:Int),(0:Int),(0:Int),()),(212:Int),()))
 else none
 else none
 else none
 else none
 else none)
 else
 Option.bind (p7 fu ((w0,x0,y0,z0,a1,c1,f1,h1,i1,j1,k1,l1,m1,n1,o1,q1,s1,t1,u1,()),())) fun ⟨_,⟨t7,u7,w7,x7,y7,z7,a8,c8,f8,h8,i8,j8,k8,l8,m8,n8,o8,q8,s8,_⟩⟩ =>
 Option.bind (p20 fu (w0,())) fun ⟨_,t8⟩ =>
 bif t8 then
 bif decide (List.length n2=List.length n2) then
 bif decide (List.length s2=List.length s2) then
 bif decide (List.length t2=List.length t2) then
 bif decide (List.length x7=List.length x7) then
 bif decide (List.length j8=List.length j8) then
 Option.bind (p21 fu ((m2,n2,o2,IntKind.wrap .u64 (q2+(1:Int)),s2,t2,true,t7,u7,w7,x7,y7,z7,a8,c8,f8,h8,i8,j8,k8,l8,m8,n8,o8,q8,s8,w3,x3,y3,z3,a4,c4,f4,false,(0:Int),(0:Int),(0:Int),(0:Int),(0:Int),(0:Int),(0:Int),(0:Int),(⟨#[]⟩:ByteArray),(),(0:Int),(0:Int),(⟨#[]⟩:ByteArray),(0:Int),(0:Int),(0:Int),(0:Int),(⟨#[]⟩:ByteArray),(),(0:Int),(0:Int),(⟨#[]⟩:ByteArray),(0:Int),(0:Int),(0:Int),(0:Int),(⟨#[]⟩:ByteArray),false,(0:Int),(0:Int),(0:Int),(0:Int),(0:Int),false,(),(0:Int),(),(0:Int),(0:Int),(0:Int),()),())) fun ⟨⟨⟨u8,w8,x8,y8,z8,a9,c9,f9,h9,i9,j9,k9,l9,m9,n9,o9,q9,s9,t9,u9,w9,x9,y9,z9,a10,c10,f10,h10,i10,j10,k10,l10,m10,n10,o10,q10,s10,t10,u10,w10,x10,y10,z10,a11,c11,f11,h11,i11,j11,k11,l11,m11,n11,o11,q11,s11,t11,u11,w11,x11,y11,z11,a12,c12,f12,h12,i12,j12,_,k12,_,l12,m12,n12,_⟩,_,_,_,_,_,_⟩,_⟩ =>
 bif decide (List.length a11=List.length a11) then
 bif decide (List.length n11=List.length n11) then
 some (.inl ((),((u8,w8,x8,y8,z8,a9,c9,f9,h9,i9,j9,k9,l9,m9,n9,o9,q9,s9,t9,u9,w9,x9,y9,z9,a10,c10,f10,h10,i10,j10,k10,l10,m10,n10,o10,q10,s10,t10,u10,w10,x10,y10,z10,a11,c11,f11,h11,i11,j11,k11,l11,m11,n11,o11,q11,s11,t11,u11,w11,x11,y11,z11,a12,c12,f12,h12,i12,j12,[],k12,[],l12,m12,n12,()),())))
 else none
 else none
 else none
 else none
 else none
 else none
 else none
 else
 bif decide (List.length n2=List.length n2) then
 bif decide (List.length s2=List.length s2) then
 bif decide (List.length t2=List.length t2) then
 bif decide (List.length x7=List.length x7) then
 bif decide (List.length j8=List.length j8) then
 Option.bind (p21 fu ((m2,n2,o2,q2,s2,t2,true,t7,u7,w7,x7,y7,z7,a8,c8,f8,h8,i8,j8,k8,l8,m8,n8,o8,q8,s8,w3,x3,y3,z3,a4,c4,f4,false,(0:Int),(0:Int),(0:Int),(0:Int),(0:Int),(0:Int),(0:Int),(0:Int),(⟨#[]⟩:ByteArray),(),(0:Int),(0:Int),(⟨#[]⟩:ByteArray),(0:Int),(0:Int),(0:Int),(0:Int),(⟨#[]⟩:ByteArray),(),(0:Int),(0:Int),(⟨#[]⟩:ByteArray),(0:Int),(0:Int),(0:Int),(0:Int),(⟨#[]⟩:ByteArray),false,(0:Int),(0:Int),(0:Int),(0:Int),(0:Int),false,(),(0:Int),(),(0:Int),(0:Int),(0:Int),()),())) fun ⟨⟨⟨o12,q12,s12,t12,u12,w12,x12,y12,z12,a13,c13,f13,h13,i13,j13,k13,l13,m13,n13,o13,q13,s13,t13,u13,w13,x13,y13,z13,a14,c14,f14,h14,i14,j14,k14,l14,m14,n14,o14,q14,s14,t14,u14,w14,x14,y14,z14,a15,c15,f15,h15,i15,j15,k15,l15,m15,n15,o15,q15,s15,t15,u15,w15,x15,y15,z15,a16,c16,_,f16,_,h16,i16,j16,_⟩,_,_,_,_,_,_⟩,_⟩ =>
 bif decide (List.length w14=List.length w14) then
 bif decide (List.length j15=List.length j15) then
 some (.inl ((),((o12,q12,s12,t12,u12,w12,x12,y12,z12,a13,c13,f13,h13,i13,j13,k13,l13,m13,n13,o13,q13,s13,t13,u13,w13,x13,y13,z13,a14,c14,f14,h14,i14,j14,k14,l14,m14,n14,o14,q14,s14,t14,u14,w14,x14,y14,z14,a15,c15,f15,h15,i15,j15,k15,l15,m15,n15,o15,q15,s15,t15,u15,w15,x15,y15,z15,a16,c16,[],f16,[],h16,i16,j16,()),())))
 else none
 else none
 else none
 else none
 else none
 else none
 else none
 else
 bif (u0==(2:Int)) then
 bif decide (List.length n2=List.length n2) then
 bif decide (List.length s2=List.length s2) then
 bif decide (List.length t2=List.length t2) then
 bif decide (List.length z2=List.length z2) then
 bif decide (List.length l3=List.length l3) then
 Option.bind (p22 fu ((m2,n2,o2,q2,s2,t2,u2,w2,x2,y2,z2,a3,c3,f3,h3,i3,j3,k3,l3,m3,n3,o3,q3,s3,t3,u3,w3,x3,y3,z3,a4,c4,f4,false,(0:Int),(0:Int),(0:Int),(0:Int),(0:Int),(0:Int),(0:Int),(0:Int),(⟨#[]⟩:ByteArray),(),(0:Int),(0:Int),(⟨#[]⟩:ByteArray),(0:Int),(0:Int),(0:Int),(0:Int),(⟨#[]⟩:ByteArray),(),(0:Int),(0:Int),(⟨#[]⟩:ByteArray),(0:Int),(0:Int),(0:Int),(0:Int),(⟨#[]⟩:ByteArray),false,(0:Int),(0:Int),(0:Int),(0:Int),(0:Int),false,(),(0:Int),(),(0:Int),(0:Int),(0:Int),()),(w1,x1,y1,z1,a2,c2,f2,h2,i2,j2,k2,l2,()),())) fun ⟨⟨⟨k16,l16,m16,n16,o16,q16,s16,t16,u16,w16,x16,y16,z16,a17,c17,f17,h17,i17,j17,k17,l17,m17,n17,o17,q17,s17,t17,u17,w17,x17,y17,z17,a18,c18,f18,h18,i18,j18,k18,l18,m18,n18,o18,q18,s18,t18,u18,w18,x18,y18,z18,a19,c19,f19,h19,i19,j19,k19,l19,m19,n19,o19,q19,s19,t19,u19,w19,x19,y19,z19,a20,c20,f20,h20,_⟩,_,_,_,_,_,_⟩,_⟩ =>
 bif decide (List.length q18=List.length q18) then
 bif decide (List.length c19=List.length c19) then
 some (.inl ((),((k16,l16,m16,n16,o16,q16,s16,t16,u16,w16,x16,y16,z16,a17,c17,f17,h17,i17,j17,k17,l17,m17,n17,o17,q17,s17,t17,u17,w17,x17,y17,z17,a18,c18,f18,h18,i18,j18,k18,l18,m18,n18,o18,q18,s18,t18,u18,w18,x18,y18,z18,a19,c19,f19,h19,i19,j19,k19,l19,m19,n19,o19,q19,s19,t19,u19,w19,x19,y19,z19,a20,c20,f20,h20,()),())))
 else none
 else none
 else none
 else none
 else none
 else none
 else none
 else
 bif (u0==(3:Int)) then
 bif decide (List.length n2=List.length n2) then
 bif decide (List.length s2=List.length s2) then
 bif decide (List.length t2=List.length t2) then
 bif decide (List.length z2=List.length z2) then
 bif decide (List.length l3=List.length l3) then
 Option.bind (p23 fu ((m2,n2,o2,q2,s2,t2,u2,w2,x2,y2,z2,a3,c3,f3,h3,i3,j3,k3,l3,m3,n3,o3,q3,s3,t3,u3,w3,x3,y3,z3,a4,c4,f4,false,(0:Int),(0:Int),(0:Int),(0:Int),(0:Int),(0:Int),(0:Int),(0:Int),(⟨#[]⟩:ByteArray),(),(0:Int),(0:Int),(⟨#[]⟩:ByteArray),(0:Int),(0:Int),(0:Int),(0:Int),(⟨#[]⟩:ByteArray),(),(0:Int),(0:Int),(⟨#[]⟩:ByteArray),(0:Int),(0:Int),(0:Int),(0:Int),(⟨#[]⟩:ByteArray),false,(0:Int),(0:Int),(0:Int),(0:Int),(0:Int),false,(),(0:Int),(),(0:Int),(0:Int),(0:Int),()),())) fun ⟨⟨⟨i20,j20,k20,l20,m20,n20,o20,q20,s20,t20,u20,w20,x20,y20,z20,a21,c21,f21,h21,i21,j21,k21,l21,m21,n21,o21,q21,s21,t21,u21,w21,x21,y21,z21,a22,c22,f22,h22,i22,j22,k22,l22,m22,n22,o22,q22,s22,t22,u22,w22,x22,y22,z22,a23,c23,f23,h23,i23,j23,k23,l23,m23,n23,o23,q23,s23,t23,u23,_,w23,_,x23,y23,z23,_⟩,_,_,_,_,_,_⟩,_⟩ =>
 bif decide (List.length n22=List.length n22) then
 bif decide (List.length z22=List.length z22) then
 some (.inl ((),((i20,j20,k20,l20,m20,n20,o20,q20,s20,t20,u20,w20,x20,y20,z20,a21,c21,f21,h21,i21,j21,k21,l21,m21,n21,o21,q21,s21,t21,u21,w21,x21,y21,z21,a22,c22,f22,h22,i22,j22,k22,l22,m22,n22,o22,q22,s22,t22,u22,w22,x22,y22,z22,a23,c23,f23,h23,i23,j23,k23,l23,m23,n23,o23,q23,s23,t23,u23,[],w23,[],x23,y23,z23,()),())))
 else none
 else none
 else none
 else none
 else none
 else none
 else none
 else
 Option.bind (p9 fu ((a,c,f,h,i,j,k,l,m,n,o,q,s,t,u,w,x,y,z,a0,c0,f0,h0,i0,j0,k0,l0,m0,n0,o0,q0,s0,t0,()),())) fun ⟨_,⟨a24,c24,f24,h24,i24,j24,k24,l24,m24,n24,o24,q24,s24,t24,u24,w24,x24,y24,z24,a25,c25,f25,h25,i25,j25,k25,l25,m25,n25,o25,q25,s25,t25,_⟩⟩ =>
 inrO (bif decide (List.length c24=List.length c24) then
 bif decide (List.length i24=List.length i24) then
 bif decide (List.length j24=List.length j24) then
 bif decide (List.length o24=List.length o24) then
 bif decide (List.length z24=List.length z24) then
 some ((),((a24,c24,f24,h24,i24,j24,k24,l24,m24,n24,o24,q24,s24,t24,u24,w24,x24,y24,z24,a25,c25,f25,h25,i25,j25,k25,l25,m25,n25,o25,q25,s25,t25,()),(false,(0:Int),(0:Int),(0:Int),(0:Int),(0:Int),(0:Int),(0:Int),(0:Int),(⟨#[]⟩:ByteArray),[],(0:Int),(0:Int),(⟨#[]⟩:ByteArray),(0:Int),(0:Int),(0:Int),(0:Int),(⟨#[]⟩:ByteArray),[],(0:Int),(0:Int),(⟨#[]⟩:ByteArray),(0:Int),(0:Int),(0:Int),(0:Int),(⟨#[]⟩:ByteArray),false,(0:Int),(0:Int),(0:Int),(0:Int),(0:Int),false,[],(0:Int),[],(0:Int),(0:Int),(0:Int),()),(1:Int),()))
 else none
 else none
 else none
 else none
 else none))
 fun ⟨_,⟨⟨u25,w25,x25,y25,z25,a26,c26,f26,h26,i26,j26,k26,l26,m26,n26,o26,q26,s26,t26,u26,w26,x26,y26,z26,a27,c27,f27,h27,i27,j27,k27,l27,m27,n27,o27,q27,s27,t27,u27,w27,x27,y27,z27,a28,c28,f28,h28,i28,j28,k28,l28,m28,n28,o28,q28,s28,t28,u28,w28,x28,y28,z28,a29,c29,f29,h29,i29,j29,k29,l29,m29,n29,o29,q29,_⟩,_⟩⟩ =>
Option.bind (p9 fu ((u25,w25,x25,y25,z25,a26,c26,f26,h26,i26,j26,k26,l26,m26,n26,o26,q26,s26,t26,u26,w26,x26,y26,z26,a27,c27,f27,h27,i27,j27,k27,l27,m27,()),())) fun ⟨_,⟨s29,t29,u29,w29,x29,y29,z29,a30,c30,f30,h30,i30,j30,k30,l30,m30,n30,o30,q30,s30,t30,u30,w30,x30,y30,z30,a31,c31,f31,h31,i31,j31,k31,_⟩⟩ =>
bif decide (List.length t29=List.length t29) then
 bif decide (List.length x29=List.length x29) then
 bif decide (List.length y29=List.length y29) then
 bif decide (List.length h30=List.length h30) then
 bif decide (List.length q30=List.length q30) then
 bif decide (List.length a28=List.length a28) then
 bif decide (List.length n28=List.length n28) then
 some ((),((s29,t29,u29,w29,x29,y29,z29,a30,c30,f30,h30,i30,j30,k30,l30,m30,n30,o30,q30,s30,t30,u30,w30,x30,y30,z30,a31,c31,f31,h31,i31,j31,k31,()),(n27,o27,q27,s27,t27,u27,w27,x27,y27,z27,a28,c28,f28,h28,i28,j28,k28,l28,m28,n28,o28,q28,s28,t28,u28,w28,x28,y28,z28,a29,c29,f29,h29,i29,j29,k29,l29,m29,n29,o29,q29,()),(0:Int),()))
 else none
 else none
 else none
 else none
 else none
 else none
else none
def e11 (fu:Nat):Ent := ⟨11,(.cons Y44 (.cons Y34 .nil)),.nil,(.tup 3 (.cons Y18 (.cons Y57 (.cons (.hole (.int .i64)) .nil)))),p11 fu⟩
theorem g11 (fu:Nat):(e11 fu).Good Try.prog := good_fx orders Try.func11 fu [(6,(.ent (e9 fu))),(16,(.ent (e19 fu))),(21,(.ent (e9 fu))),(29,(.ent (e9 fu))),(42,(.ent (e7 fu))),(50,(.ent (e20 fu))),(62,(.ent (e21 fu))),(68,(.ent (e22 fu))),(72,(.ent (e23 fu))),(74,(.ent (e9 fu))),(83,(.ent (e9 fu)))] [(2,⟨[],.nil,[(128,80,74)],(.cons Y56 .nil),[4,5,7],[32,48]⟩)] rs11 78 (l := [e9 fu,e19 fu,e9 fu,e9 fu,e7 fu,e20 fu,e21 fu,e22 fu,e23 fu,e9 fu,e9 fu]) ⟨g9 fu,g19 fu,g9 fu,g9 fu,g7 fu,g20 fu,g21 fu,g22 fu,g23 fu,g9 fu,g9 fu,trivial⟩
def rs25:List RVx := [(.tmp 4)]
def p25 (fu:Nat):(List (Int))×((List (Int))×(Unit))→Option ((Unit)×(Bool)) := fun ⟨a,c,_⟩ =>
bif ((List.length a:Int) != (List.length c:Int)) then
 some ((),false)
else
 loopO (S := ((Int)×(Unit))×(Unit)) fu (fun ⟨⟨f,_⟩,_⟩ =>
 bif decide (f<(List.length a:Int)) then
 bif decide ((0:Int)≤f∧f<(List.length a:Int)) then
 bif decide (Int.toNat f<List.length a) then
 bif decide ((0:Int)≤f∧f<(List.length c:Int)) then
 bif decide (Int.toNat f<List.length c) then
 bif ((List.getD a (Int.toNat f) (dflt (.int .i64))) != (List.getD c (Int.toNat f) (dflt (.int .i64)))) then
 inrO (some ((),false))
 else
 some (.inl ((IntKind.wrap .i64 (f+(1:Int)),()),()))
 else none
 else none
 else none
 else none
 else
 inrO (some ((),true)))
 (((0:Int),()),())
def e25 (fu:Nat):Ent := ⟨25,(.cons (.hole (.sl .any (.int .i64))) (.cons (.hole (.sl .any (.int .i64))) .nil)),.nil,(.hole .bool),p25 fu⟩
theorem g25 (fu:Nat):(e25 fu).Good Try.prog := good_fx orders Try.func25 fu [] [(6,⟨[5],(.cons (.hole (.int .i64)) .nil),[],.nil,[0,1],[]⟩)] rs25 26 (l := []) trivial
def rs68:List RVx := [(.tmp 4)]
def p68 (fu:Nat):(Z11)×((Z11)×(Unit))→Option ((Unit)×(Bool)) := fun ⟨⟨a,c,f,h,i,j,k,l,m,n,o,q,_⟩,⟨s,t,u,w,x,y,z,a0,c0,f0,h0,i0,_⟩,_⟩ =>
Option.bind (p25 fu (i,x,())) fun ⟨_,j0⟩ =>
bif j0 then
 bif (a==s) then
 bif ByteArray.toList h==ByteArray.toList w then
 bif (j==y) then
 bif (k==z) then
 bif ByteArray.toList l==ByteArray.toList a0 then
 bif (m==c0) then
 bif (n==f0) then
 bif (o==h0) then
 bif (q==i0) then
 bif (c==t) then
 some ((),(f==u))
 else
 some ((),false)
 else
 some ((),false)
 else
 some ((),false)
 else
 some ((),false)
 else
 some ((),false)
 else
 some ((),false)
 else
 some ((),false)
 else
 some ((),false)
 else
 some ((),false)
 else
 some ((),false)
else
 some ((),false)
def e68 (fu:Nat):Ent := ⟨68,(.cons Y20 (.cons Y20 .nil)),.nil,(.hole .bool),p68 fu⟩
theorem g68 (fu:Nat):(e68 fu).Good Try.prog := good_fx orders Try.func68 fu [(7,(.ent (e25 fu)))] [] rs68 89 (l := [e25 fu]) ⟨g25 fu,trivial⟩
def rs47:List RVx := [(.tmp 4)]
def p47 (fu:Nat):(Z14)×((Z14)×(Unit))→Option ((Unit)×(Bool)) := fun ⟨⟨a,c,f,h,i,j,k,l,m,n,o,q,s,t,u,w,x,y,z,_⟩,⟨a0,c0,f0,h0,i0,j0,k0,l0,m0,n0,o0,q0,s0,t0,u0,w0,x0,y0,z0,_⟩,_⟩ =>
Option.bind (p68 fu ((l,m,n,o,q,s,t,u,w,x,y,z,()),(l0,m0,n0,o0,q0,s0,t0,u0,w0,x0,y0,z0,()),())) fun ⟨_,a1⟩ =>
bif a1 then
 bif (a==a0) then
 bif ByteArray.toList c==ByteArray.toList c0 then
 bif ByteArray.toList f==ByteArray.toList f0 then
 bif ByteArray.toList (strOfNums h)==ByteArray.toList (strOfNums h0) then
 bif (i==i0) then
 bif (j==j0) then
 some ((),ByteArray.toList k==ByteArray.toList k0)
 else
 some ((),false)
 else
 some ((),false)
 else
 some ((),false)
 else
 some ((),false)
 else
 some ((),false)
 else
 some ((),false)
else
 some ((),false)
def e47 (fu:Nat):Ent := ⟨47,(.cons Y19 (.cons Y19 .nil)),.nil,(.hole .bool),p47 fu⟩
theorem g47 (fu:Nat):(e47 fu).Good Try.prog := good_fx orders Try.func47 fu [(7,(.ent (e68 fu)))] [] rs47 63 (l := [e68 fu]) ⟨g68 fu,trivial⟩
def rs24:List RVx := [(.tmp 4)]
def p24 (fu:Nat):(Z14)×((Z14)×(Unit))→Option ((Unit)×(Bool)) := fun ⟨⟨a,c,f,h,i,j,k,l,m,n,o,q,s,t,u,w,x,y,z,_⟩,⟨a0,c0,f0,h0,i0,j0,k0,l0,m0,n0,o0,q0,s0,t0,u0,w0,x0,y0,z0,_⟩,_⟩ =>
Option.bind (p47 fu ((a,c,f,h,i,j,k,l,m,n,o,q,s,t,u,w,x,y,z,()),(a0,c0,f0,h0,i0,j0,k0,l0,m0,n0,o0,q0,s0,t0,u0,w0,x0,y0,z0,()),())) fun ⟨_,a1⟩ =>
some ((),a1)
def e24 (fu:Nat):Ent := ⟨24,(.cons Y19 (.cons Y19 .nil)),.nil,(.hole .bool),p24 fu⟩
theorem g24 (fu:Nat):(e24 fu).Good Try.prog := good_fx orders Try.func24 fu [(5,(.ent (e47 fu)))] [] rs24 8 (l := [e47 fu]) ⟨g47 fu,trivial⟩
def rs26:List RVx := [(.tmp 4)]
def p26 (fu:Nat):(List (D_api_Shard))×((List (D_api_Shard))×(Unit))→Option ((Unit)×(Bool)) := fun ⟨a,c,_⟩ =>
bif ((List.length a:Int) != (List.length c:Int)) then
 some ((),false)
else
 loopO (S := ((Int)×(Unit))×(Unit)) fu (fun ⟨⟨f,_⟩,_⟩ =>
 bif decide (f<(List.length a:Int)) then
 bif decide ((0:Int)≤f∧f<(List.length a:Int)) then
 bif decide (Int.toNat f<List.length a) then
 bif decide ((0:Int)≤f∧f<(List.length c:Int)) then
 bif decide (Int.toNat f<List.length c) then
 Option.bind (p25 fu (((((List.getD a (Int.toNat f) (dflt T_api_Shard)).2).2).2).1,((((List.getD c (Int.toNat f) (dflt T_api_Shard)).2).2).2).1,())) fun ⟨_,h⟩ =>
 bif decide ((0:Int)≤f∧f<(List.length a:Int)) then
 bif decide (Int.toNat f<List.length a) then
 bif decide ((0:Int)≤f∧f<(List.length c:Int)) then
 bif decide (Int.toNat f<List.length c) then
 Option.bind (p25 fu ((((((List.getD a (Int.toNat f) (dflt T_api_Shard)).2).2).2).2).1,(((((List.getD c (Int.toNat f) (dflt T_api_Shard)).2).2).2).2).1,())) fun ⟨_,i⟩ =>
 bif !h then
 inrO (some ((),false))
 else
 bif !i then
 inrO (some ((),false))
 else
 bif decide ((0:Int)≤f∧f<(List.length a:Int)) then
 bif decide (Int.toNat f<List.length a) then
 bif decide ((0:Int)≤f∧f<(List.length c:Int)) then
 bif decide (Int.toNat f<List.length c) then
 bif (((List.getD a (Int.toNat f) (dflt T_api_Shard)).1) != ((List.getD c (Int.toNat f) (dflt T_api_Shard)).1)) then
 inrO (some ((),false))
 else
 bif decide ((0:Int)≤f∧f<(List.length a:Int)) then
 bif decide (Int.toNat f<List.length a) then
 bif decide ((0:Int)≤f∧f<(List.length c:Int)) then
 bif decide (Int.toNat f<List.length c) then
 bif !(((((List.getD a (Int.toNat f) (dflt T_api_Shard)).2).1).1)==((((List.getD c (Int.toNat f) (dflt T_api_Shard)).2).1).1) && (((((List.getD a (Int.toNat f) (dflt T_api_Shard)).2).1).2)==((((List.getD c (Int.toNat f) (dflt T_api_Shard)).2).1).2) && true)) then
 inrO (some ((),false))
 else
 bif decide ((0:Int)≤f∧f<(List.length a:Int)) then
 bif decide (Int.toNat f<List.length a) then
 bif decide ((0:Int)≤f∧f<(List.length c:Int)) then
 bif decide (Int.toNat f<List.length c) then
 bif (((((List.getD a (Int.toNat f) (dflt T_api_Shard)).2).2).1) != ((((List.getD c (Int.toNat f) (dflt T_api_Shard)).2).2).1)) then
 inrO (some ((),false))
 else
 bif decide ((0:Int)≤f∧f<(List.length a:Int)) then
 bif decide (Int.toNat f<List.length a) then
 bif decide ((0:Int)≤f∧f<(List.length c:Int)) then
 bif decide (Int.toNat f<List.length c) then
 bif (((((((List.getD a (Int.toNat f) (dflt T_api_Shard)).2).2).2).2).2) != ((((((List.getD c (Int.toNat f) (dflt T_api_Shard)).2).2).2).2).2)) then
 inrO (some ((),false))
 else
 some (.inl ((IntKind.wrap .i64 (f+(1:Int)),()),()))
 else none
 else none
 else none
 else none
 else none
 else none
 else none
 else none
 else none
 else none
 else none
 else none
 else none
 else none
 else none
 else none
 else none
 else none
 else none
 else none
 else none
 else none
 else none
 else none
 else
 inrO (some ((),true)))
 (((0:Int),()),())
def e26 (fu:Nat):Ent := ⟨26,(.cons (.hole (.sl .any T_api_Shard)) (.cons (.hole (.sl .any T_api_Shard)) .nil)),.nil,(.hole .bool),p26 fu⟩
theorem g26 (fu:Nat):(e26 fu).Good Try.prog := good_fx orders Try.func26 fu [(22,(.ent (e25 fu))),(34,(.ent (e25 fu)))] [(6,⟨[5],(.cons (.hole (.int .i64)) .nil),[],.nil,[0,1],[]⟩)] rs26 99 (l := [e25 fu,e25 fu]) ⟨g25 fu,g25 fu,trivial⟩
def rs12:List RVx := [(.tmp 4)]
def p12 (fu:Nat):(Z6)×((Z6)×(Unit))→Option ((Unit)×(Bool)) := fun ⟨⟨a,c,f,h,i,j,k,l,m,n,o,q,s,t,u,w,x,y,z,a0,c0,f0,h0,i0,j0,k0,l0,m0,n0,o0,q0,s0,t0,_⟩,⟨u0,w0,x0,y0,z0,a1,c1,f1,h1,i1,j1,k1,l1,m1,n1,o1,q1,s1,t1,u1,w1,x1,y1,z1,a2,c2,f2,h2,i2,j2,k2,l2,m2,_⟩,_⟩ =>
Option.bind (p24 fu ((l,m,n,o,q,s,t,u,w,x,y,z,a0,c0,f0,h0,i0,j0,k0,()),(f1,h1,i1,j1,k1,l1,m1,n1,o1,q1,s1,t1,u1,w1,x1,y1,z1,a2,c2,()),())) fun ⟨_,n2⟩ =>
Option.bind (p25 fu (c,w0,())) fun ⟨_,o2⟩ =>
bif !n2 then
 some ((),false)
else
 bif !o2 then
 some ((),false)
 else
 bif ((List.length i:Int) != (List.length z0:Int)) then
 some ((),false)
 else
 bif ((List.length j:Int) != (List.length a1:Int)) then
 some ((),false)
 else
 loopO (S := ((Int)×(Unit))×(Unit)) fu (fun ⟨⟨q2,_⟩,_⟩ =>
 bif decide (q2<(List.length i:Int)) then
 bif decide ((0:Int)≤q2∧q2<(List.length i:Int)) then
 bif decide (Int.toNat q2<List.length i) then
 bif decide ((0:Int)≤q2∧q2<(List.length z0:Int)) then
 bif decide (Int.toNat q2<List.length z0) then
 Option.bind (p26 fu ((List.getD i (Int.toNat q2) (dflt T_api_Topic)).2,(List.getD z0 (Int.toNat q2) (dflt T_api_Topic)).2,())) fun ⟨_,s2⟩ =>
 bif !s2 then
 inrO (some ((),false))
 else
 bif decide ((0:Int)≤q2∧q2<(List.length i:Int)) then
 bif decide (Int.toNat q2<List.length i) then
 bif decide ((0:Int)≤q2∧q2<(List.length z0:Int)) then
 bif decide (Int.toNat q2<List.length z0) then
 bif !(ByteArray.toList ((List.getD i (Int.toNat q2) (dflt T_api_Topic)).1)==ByteArray.toList ((List.getD z0 (Int.toNat q2) (dflt T_api_Topic)).1)) then
 inrO (some ((),false))
 else
 some (.inl ((IntKind.wrap .i64 (q2+(1:Int)),()),()))
 else none
 else none
 else none
 else none
 else none
 else none
 else none
 else none
 else
 inrO (loopO (S := ((Int)×(Unit))×(Unit)) fu (fun ⟨⟨t2,_⟩,_⟩ =>
 bif decide (t2<(List.length j:Int)) then
 bif decide ((0:Int)≤t2∧t2<(List.length j:Int)) then
 bif decide (Int.toNat t2<List.length j) then
 bif decide ((0:Int)≤t2∧t2<(List.length a1:Int)) then
 bif decide (Int.toNat t2<List.length a1) then
 bif !(((List.getD j (Int.toNat t2) (dflt T_api_Site)).1)==((List.getD a1 (Int.toNat t2) (dflt T_api_Site)).1) && (((List.getD j (Int.toNat t2) (dflt T_api_Site)).2)==((List.getD a1 (Int.toNat t2) (dflt T_api_Site)).2) && true)) then
 inrO (some ((),false))
 else
 some (.inl ((IntKind.wrap .i64 (t2+(1:Int)),()),()))
 else none
 else none
 else none
 else none
 else
 inrO (bif (a==u0) then
 bif (f==x0) then
 bif (h==y0) then
 bif k==c1 then
 bif (l0==f2) then
 bif m0==h2 then
 bif (n0==i2) then
 bif (o0==j2) then
 bif (q0==k2) then
 bif s0==l2 then
 some ((),(t0==m2))
 else
 some ((),false)
 else
 some ((),false)
 else
 some ((),false)
 else
 some ((),false)
 else
 some ((),false)
 else
 some ((),false)
 else
 some ((),false)
 else
 some ((),false)
 else
 some ((),false)
 else
 some ((),false)))
 (((0:Int),()),())))
 (((0:Int),()),())
def e12 (fu:Nat):Ent := ⟨12,(.cons Y44 (.cons Y44 .nil)),.nil,(.hole .bool),p12 fu⟩
theorem g12 (fu:Nat):(e12 fu).Good Try.prog := good_fx orders Try.func12 fu [(7,(.ent (e24 fu))),(13,(.ent (e25 fu))),(58,(.ent (e26 fu)))] [(8,⟨[7],(.cons (.hole (.int .i64)) .nil),[],.nil,[2,3],[0,16]⟩),(17,⟨[9],(.cons (.hole (.int .i64)) .nil),[],.nil,[2,3],[0,16]⟩)] rs12 174 (l := [e24 fu,e25 fu,e26 fu]) ⟨g24 fu,g25 fu,g26 fu,trivial⟩
def rs69:List RVx := [(.tmp 4)]
def p69 (_:Nat):(Z58)×((Z58)×(Unit))→Option ((Unit)×(Bool)) := fun ⟨⟨a,c,f,h,i,j,k,l,m,n,_⟩,⟨o,q,s,t,u,w,x,y,z,a0,_⟩,_⟩ =>
bif (a==o) then
 bif (c==q) then
 bif (f==s) then
 bif (h==t) then
 bif ByteArray.toList i==ByteArray.toList u then
 bif ByteArray.toList (strOfNums j)==ByteArray.toList (strOfNums w) then
 bif (k==x) then
 bif (l==y) then
 bif ByteArray.toList m==ByteArray.toList z then
 some ((),(n==a0))
 else
 some ((),false)
 else
 some ((),false)
 else
 some ((),false)
 else
 some ((),false)
 else
 some ((),false)
 else
 some ((),false)
 else
 some ((),false)
 else
 some ((),false)
else
 some ((),false)
def e69 (fu:Nat):Ent := ⟨69,(.cons Y59 (.cons Y59 .nil)),.nil,(.hole .bool),p69 fu⟩
theorem g69 (fu:Nat):(e69 fu).Good Try.prog := good_fx orders Try.func69 fu [] [] rs69 75 (l := []) trivial
def rs48:List RVx := [(.tmp 4)]
def p48 (fu:Nat):(Z2)×((Z2)×(Unit))→Option ((Unit)×(Bool)) := fun ⟨⟨a,c,f,h,i,j,k,l,m,n,o,q,s,t,u,w,x,y,z,a0,c0,f0,h0,i0,j0,k0,_⟩,⟨l0,m0,n0,o0,q0,s0,t0,u0,w0,x0,y0,z0,a1,c1,f1,h1,i1,j1,k1,l1,m1,n1,o1,q1,s1,t1,_⟩,_⟩ =>
Option.bind (p69 fu ((h,i,j,k,l,m,n,o,q,s,()),(o0,q0,s0,t0,u0,w0,x0,y0,z0,a1,()),())) fun ⟨_,u1⟩ =>
Option.bind (p68 fu ((t,u,w,x,y,z,a0,c0,f0,h0,i0,j0,()),(c1,f1,h1,i1,j1,k1,l1,m1,n1,o1,q1,s1,()),())) fun ⟨_,w1⟩ =>
bif u1 then
 bif w1 then
 bif (a==l0) then
 bif (c==m0) then
 bif (f==n0) then
 some ((),ByteArray.toList k0==ByteArray.toList t1)
 else
 some ((),false)
 else
 some ((),false)
 else
 some ((),false)
 else
 some ((),false)
else
 some ((),false)
def e48 (fu:Nat):Ent := ⟨48,(.cons Y60 (.cons Y60 .nil)),.nil,(.hole .bool),p48 fu⟩
theorem g48 (fu:Nat):(e48 fu).Good Try.prog := good_fx orders Try.func48 fu [(7,(.ent (e69 fu))),(13,(.ent (e68 fu)))] [] rs48 49 (l := [e69 fu,e68 fu]) ⟨g69 fu,g68 fu,trivial⟩
def rs27:List RVx := [(.tmp 4)]
def p27 (fu:Nat):(Z2)×((Z2)×(Unit))→Option ((Unit)×(Bool)) := fun ⟨⟨a,c,f,h,i,j,k,l,m,n,o,q,s,t,u,w,x,y,z,a0,c0,f0,h0,i0,j0,k0,_⟩,⟨l0,m0,n0,o0,q0,s0,t0,u0,w0,x0,y0,z0,a1,c1,f1,h1,i1,j1,k1,l1,m1,n1,o1,q1,s1,t1,_⟩,_⟩ =>
Option.bind (p48 fu ((a,c,f,h,i,j,k,l,m,n,o,q,s,t,u,w,x,y,z,a0,c0,f0,h0,i0,j0,k0,()),(l0,m0,n0,o0,q0,s0,t0,u0,w0,x0,y0,z0,a1,c1,f1,h1,i1,j1,k1,l1,m1,n1,o1,q1,s1,t1,()),())) fun ⟨_,u1⟩ =>
some ((),u1)
def e27 (fu:Nat):Ent := ⟨27,(.cons Y60 (.cons Y60 .nil)),.nil,(.hole .bool),p27 fu⟩
theorem g27 (fu:Nat):(e27 fu).Good Try.prog := good_fx orders Try.func27 fu [(5,(.ent (e48 fu)))] [] rs27 8 (l := [e48 fu]) ⟨g48 fu,trivial⟩
def rs84:List RVx := [(.tmp 4)]
def p84 (fu:Nat):(List (D_api_Record))×((List (D_api_Record))×(Unit))→Option ((Unit)×(Bool)) := fun ⟨a,c,_⟩ =>
bif ((List.length a:Int) != (List.length c:Int)) then
 some ((),false)
else
 loopO (S := ((Int)×(Unit))×(Unit)) fu (fun ⟨⟨f,_⟩,_⟩ =>
 bif decide (f<(List.length a:Int)) then
 bif decide ((0:Int)≤f∧f<(List.length a:Int)) then
 bif decide (Int.toNat f<List.length a) then
 bif decide ((0:Int)≤f∧f<(List.length c:Int)) then
 bif decide (Int.toNat f<List.length c) then
 bif (((List.getD a (Int.toNat f) (dflt T_api_Record)).1) != ((List.getD c (Int.toNat f) (dflt T_api_Record)).1)) then
 inrO (some ((),false))
 else
 bif decide ((0:Int)≤f∧f<(List.length a:Int)) then
 bif decide (Int.toNat f<List.length a) then
 bif decide ((0:Int)≤f∧f<(List.length c:Int)) then
 bif decide (Int.toNat f<List.length c) then
 bif !(ByteArray.toList (((List.getD a (Int.toNat f) (dflt T_api_Record)).2).1)==ByteArray.toList (((List.getD c (Int.toNat f) (dflt T_api_Record)).2).1)) then
 inrO (some ((),false))
 else
 bif decide ((0:Int)≤f∧f<(List.length a:Int)) then
 bif decide (Int.toNat f<List.length a) then
 bif decide ((0:Int)≤f∧f<(List.length c:Int)) then
 bif decide (Int.toNat f<List.length c) then
 bif !(ByteArray.toList (strOfNums ((((List.getD a (Int.toNat f) (dflt T_api_Record)).2).2).1))==ByteArray.toList (strOfNums ((((List.getD c (Int.toNat f) (dflt T_api_Record)).2).2).1))) then
 inrO (some ((),false))
 else
 bif decide ((0:Int)≤f∧f<(List.length a:Int)) then
 bif decide (Int.toNat f<List.length a) then
 bif decide ((0:Int)≤f∧f<(List.length c:Int)) then
 bif decide (Int.toNat f<List.length c) then
 bif ((((((List.getD a (Int.toNat f) (dflt T_api_Record)).2).2).2).1) != (((((List.getD c (Int.toNat f) (dflt T_api_Record)).2).2).2).1)) then
 inrO (some ((),false))
 else
 bif decide ((0:Int)≤f∧f<(List.length a:Int)) then
 bif decide (Int.toNat f<List.length a) then
 bif decide ((0:Int)≤f∧f<(List.length c:Int)) then
 bif decide (Int.toNat f<List.length c) then
 bif ((((((List.getD a (Int.toNat f) (dflt T_api_Record)).2).2).2).2) != (((((List.getD c (Int.toNat f) (dflt T_api_Record)).2).2).2).2)) then
 inrO (some ((),false))
 else
 some (.inl ((IntKind.wrap .i64 (f+(1:Int)),()),()))
 else none
 else none
 else none
 else none
 else none
 else none
 else none
 else none
 else none
 else none
 else none
 else none
 else none
 else none
 else none
 else none
 else none
 else none
 else none
 else none
 else
 inrO (some ((),true)))
 (((0:Int),()),())
def e84 (fu:Nat):Ent := ⟨84,(.cons (.hole (.sl .any T_api_Record)) (.cons (.hole (.sl .any T_api_Record)) .nil)),.nil,(.hole .bool),p84 fu⟩
theorem g84 (fu:Nat):(e84 fu).Good Try.prog := good_fx orders Try.func84 fu [] [(6,⟨[5],(.cons (.hole (.int .i64)) .nil),[],.nil,[0,1],[]⟩)] rs84 82 (l := []) trivial
def rs70:List RVx := [(.tmp 4)]
def p70 (fu:Nat):((Int)×((Int)×((Bool)×((List (D_api_Record))×(Unit)))))×(((Int)×((Int)×((Bool)×((List (D_api_Record))×(Unit)))))×(Unit))→Option ((Unit)×(Bool)) := fun ⟨⟨a,c,f,h,_⟩,⟨i,j,k,l,_⟩,_⟩ =>
Option.bind (p84 fu (h,l,())) fun ⟨_,m⟩ =>
bif m then
 bif (a==i) then
 bif (c==j) then
 some ((),f==k)
 else
 some ((),false)
 else
 some ((),false)
else
 some ((),false)
def e70 (fu:Nat):Ent := ⟨70,(.cons Y61 (.cons Y61 .nil)),.nil,(.hole .bool),p70 fu⟩
theorem g70 (fu:Nat):(e70 fu).Good Try.prog := good_fx orders Try.func70 fu [(7,(.ent (e84 fu)))] [] rs70 33 (l := [e84 fu]) ⟨g84 fu,trivial⟩
def rs49:List RVx := [(.tmp 4)]
def p49 (fu:Nat):(Z23)×((Z23)×(Unit))→Option ((Unit)×(Bool)) := fun ⟨⟨a,c,f,h,i,j,k,l,m,n,o,q,_⟩,⟨s,t,u,w,x,y,z,a0,c0,f0,h0,i0,_⟩,_⟩ =>
Option.bind (p70 fu ((h,i,j,k,()),(w,x,y,z,()),())) fun ⟨_,j0⟩ =>
Option.bind (p26 fu (m,c0,())) fun ⟨_,k0⟩ =>
bif j0 then
 bif k0 then
 bif (a==s) then
 bif (c==t) then
 bif (f==u) then
 bif (l==a0) then
 bif (n==f0) then
 bif (o==h0) then
 some ((),(q==i0))
 else
 some ((),false)
 else
 some ((),false)
 else
 some ((),false)
 else
 some ((),false)
 else
 some ((),false)
 else
 some ((),false)
 else
 some ((),false)
else
 some ((),false)
def e49 (fu:Nat):Ent := ⟨49,(.cons Y37 (.cons Y37 .nil)),.nil,(.hole .bool),p49 fu⟩
theorem g49 (fu:Nat):(e49 fu).Good Try.prog := good_fx orders Try.func49 fu [(7,(.ent (e70 fu))),(13,(.ent (e26 fu)))] [] rs49 70 (l := [e70 fu,e26 fu]) ⟨g70 fu,g26 fu,trivial⟩
def rs28:List RVx := [(.tmp 4)]
def p28 (fu:Nat):(Z23)×((Z23)×(Unit))→Option ((Unit)×(Bool)) := fun ⟨⟨a,c,f,h,i,j,k,l,m,n,o,q,_⟩,⟨s,t,u,w,x,y,z,a0,c0,f0,h0,i0,_⟩,_⟩ =>
Option.bind (p49 fu ((a,c,f,h,i,j,k,l,m,n,o,q,()),(s,t,u,w,x,y,z,a0,c0,f0,h0,i0,()),())) fun ⟨_,j0⟩ =>
some ((),j0)
def e28 (fu:Nat):Ent := ⟨28,(.cons Y37 (.cons Y37 .nil)),.nil,(.hole .bool),p28 fu⟩
theorem g28 (fu:Nat):(e28 fu).Good Try.prog := good_fx orders Try.func28 fu [(5,(.ent (e49 fu)))] [] rs28 8 (l := [e49 fu]) ⟨g49 fu,trivial⟩
def rs13:List RVx := [(.tmp 4)]
def p13 (fu:Nat):(Z5)×((Z5)×(Unit))→Option ((Unit)×(Bool)) := fun ⟨⟨a,c,f,h,i,j,k,l,m,n,o,q,s,t,u,w,x,y,z,a0,c0,f0,h0,i0,j0,k0,l0,m0,n0,o0,q0,s0,t0,u0,w0,x0,y0,z0,a1,c1,f1,_⟩,⟨h1,i1,j1,k1,l1,m1,n1,o1,q1,s1,t1,u1,w1,x1,y1,z1,a2,c2,f2,h2,i2,j2,k2,l2,m2,n2,o2,q2,s2,t2,u2,w2,x2,y2,z2,a3,c3,f3,h3,i3,j3,_⟩,_⟩ =>
Option.bind (p27 fu ((f,h,i,j,k,l,m,n,o,q,s,t,u,w,x,y,z,a0,c0,f0,h0,i0,j0,k0,l0,m0,()),(j1,k1,l1,m1,n1,o1,q1,s1,t1,u1,w1,x1,y1,z1,a2,c2,f2,h2,i2,j2,k2,l2,m2,n2,o2,q2,()),())) fun ⟨_,k3⟩ =>
Option.bind (p28 fu ((o0,q0,s0,t0,u0,w0,x0,y0,z0,a1,c1,f1,()),(t2,u2,w2,x2,y2,z2,a3,c3,f3,h3,i3,j3,()),())) fun ⟨_,l3⟩ =>
bif k3 then
 bif l3 then
 bif a==h1 then
 bif (c==i1) then
 some ((),n0==s2)
 else
 some ((),false)
 else
 some ((),false)
 else
 some ((),false)
else
 some ((),false)
def e13 (fu:Nat):Ent := ⟨13,(.cons Y62 (.cons Y62 .nil)),.nil,(.hole .bool),p13 fu⟩
theorem g13 (fu:Nat):(e13 fu).Good Try.prog := good_fx orders Try.func13 fu [(7,(.ent (e27 fu))),(13,(.ent (e28 fu)))] [] rs13 42 (l := [e27 fu,e28 fu]) ⟨g27 fu,g28 fu,trivial⟩
def rs3:List RVx := [(.tmp 6)]
def p3 (fu:Nat):(Int)×((List (Int))×((List (D_api_ClientInput))×(Unit)))→Option ((Unit)×(Bool)) := fun ⟨a,c,f,_⟩ =>
Option.bind (p4 fu ()) fun ⟨_,h⟩ =>
Option.bind (p5 fu (a,c,(9:Int),())) fun ⟨_,⟨⟨i,j,k,l,m,n,o,q,s,t,u,w,x,y,z,a0,c0,f0,h0,i0,j0,k0,l0,m0,n0,o0,q0,s0,t0,u0,w0,x0,y0,_⟩,z0,_⟩⟩ =>
Option.bind (p6 fu (a,c,(9:Int),())) fun ⟨_,⟨⟨a1,c1,f1,h1,i1,j1,k1,l1,m1,n1,o1,q1,s1,t1,u1,w1,x1,y1,z1,a2,c2,f2,h2,i2,j2,k2,l2,m2,n2,o2,q2,s2,t2,_⟩,u2,_⟩⟩ =>
bif !h then
 some ((),false)
else
 bif (z0 != u2) then
 some ((),false)
 else
 bif (z0 != (0:Int)) then
 some ((),true)
 else
 bif decide (List.length j=List.length j) then
 bif decide (List.length c1=List.length c1) then
 loopO (S := ((Int)×(Unit))×((Z6)×((Z6)×(Unit)))) fu (fun ⟨⟨w2,_⟩,⟨⟨x2,y2,z2,a3,c3,f3,h3,i3,j3,k3,l3,m3,n3,o3,q3,s3,t3,u3,w3,x3,y3,z3,a4,c4,f4,h4,i4,j4,k4,l4,m4,n4,o4,_⟩,⟨q4,s4,t4,u4,w4,x4,y4,z4,a5,c5,f5,h5,i5,j5,k5,l5,m5,n5,o5,q5,s5,t5,u5,w5,x5,y5,z5,a6,c6,f6,h6,i6,j6,_⟩,_⟩⟩ =>
 bif decide (w2<(List.length f:Int)) then
 bif decide ((0:Int)≤w2∧w2<(List.length f:Int)) then
 bif decide (Int.toNat w2<List.length f) then
 Option.bind (p7 fu (((((List.getD f (Int.toNat w2) (dflt T_api_ClientInput)).2).1).1,((((List.getD f (Int.toNat w2) (dflt T_api_ClientInput)).2).1).2).1,(((((List.getD f (Int.toNat w2) (dflt T_api_ClientInput)).2).1).2).2).1,((((((List.getD f (Int.toNat w2) (dflt T_api_ClientInput)).2).1).2).2).2).1,(((((((List.getD f (Int.toNat w2) (dflt T_api_ClientInput)).2).1).2).2).2).2).1,((((((((List.getD f (Int.toNat w2) (dflt T_api_ClientInput)).2).1).2).2).2).2).2).1,(((((((((List.getD f (Int.toNat w2) (dflt T_api_ClientInput)).2).1).2).2).2).2).2).2).1,((((((((((List.getD f (Int.toNat w2) (dflt T_api_ClientInput)).2).1).2).2).2).2).2).2).2).1,(((((((((((List.getD f (Int.toNat w2) (dflt T_api_ClientInput)).2).1).2).2).2).2).2).2).2).2).1,((((((((((((List.getD f (Int.toNat w2) (dflt T_api_ClientInput)).2).1).2).2).2).2).2).2).2).2).2).1,(((((((((((((List.getD f (Int.toNat w2) (dflt T_api_ClientInput)).2).1).2).2).2).2).2).2).2).2).2).2).1,((((((((((((((List.getD f (Int.toNat w2) (dflt T_api_ClientInput)).2).1).2).2).2).2).2).2).2).2).2).2).2).1,(((((((((((((((List.getD f (Int.toNat w2) (dflt T_api_ClientInput)).2).1).2).2).2).2).2).2).2).2).2).2).2).2).1,((((((((((((((((List.getD f (Int.toNat w2) (dflt T_api_ClientInput)).2).1).2).2).2).2).2).2).2).2).2).2).2).2).2).1,(((((((((((((((((List.getD f (Int.toNat w2) (dflt T_api_ClientInput)).2).1).2).2).2).2).2).2).2).2).2).2).2).2).2).2).1,((((((((((((((((((List.getD f (Int.toNat w2) (dflt T_api_ClientInput)).2).1).2).2).2).2).2).2).2).2).2).2).2).2).2).2).2).1,(((((((((((((((((((List.getD f (Int.toNat w2) (dflt T_api_ClientInput)).2).1).2).2).2).2).2).2).2).2).2).2).2).2).2).2).2).2).1,((((((((((((((((((((List.getD f (Int.toNat w2) (dflt T_api_ClientInput)).2).1).2).2).2).2).2).2).2).2).2).2).2).2).2).2).2).2).2).1,((((((((((((((((((((List.getD f (Int.toNat w2) (dflt T_api_ClientInput)).2).1).2).2).2).2).2).2).2).2).2).2).2).2).2).2).2).2).2).2,()),())) fun ⟨_,⟨k6,l6,m6,n6,o6,q6,s6,t6,u6,w6,x6,y6,z6,a7,c7,f7,h7,i7,j7,_⟩⟩ =>
 Option.bind (p8 fu (((((((((List.getD f (Int.toNat w2) (dflt T_api_ClientInput)).2).2).2).2).2).2).2).1,())) fun ⟨_,k7⟩ =>
 bif decide (List.length y2=List.length y2) then
 Option.bind (p9 fu ((x2,y2,z2,a3,c3,f3,h3,i3,j3,k3,l3,m3,n3,o3,q3,s3,t3,u3,w3,x3,y3,z3,a4,c4,f4,h4,i4,j4,k4,l4,m4,n4,o4,()),())) fun ⟨_,⟨l7,m7,n7,o7,q7,s7,t7,u7,w7,x7,y7,z7,a8,c8,f8,h8,i8,j8,k8,l8,m8,n8,o8,q8,s8,t8,u8,w8,x8,y8,z8,a9,c9,_⟩⟩ =>
 bif decide (List.length y2=List.length y2) then
 bif decide (List.length n6=List.length n6) then
 bif decide (List.length y6=List.length y6) then
 bif decide (List.length k7=List.length k7) then
 Option.bind (p10_7 fu ((x2,y2,z2,a3,c3,f3,h3,i3,j3,k3,l3,m3,n3,o3,q3,s3,t3,u3,w3,x3,y3,z3,a4,c4,f4,h4,i4,j4,k4,l4,m4,n4,o4,()),((List.getD f (Int.toNat w2) (dflt T_api_ClientInput)).1,k6,l6,m6,n6,o6,q6,s6,t6,u6,w6,x6,y6,z6,a7,c7,f7,h7,i7,j7,(((List.getD f (Int.toNat w2) (dflt T_api_ClientInput)).2).2).1,((((List.getD f (Int.toNat w2) (dflt T_api_ClientInput)).2).2).2).1,(((((List.getD f (Int.toNat w2) (dflt T_api_ClientInput)).2).2).2).2).1,(((((((List.getD f (Int.toNat w2) (dflt T_api_ClientInput)).2).2).2).2).2).1).1,((((((((List.getD f (Int.toNat w2) (dflt T_api_ClientInput)).2).2).2).2).2).1).2).1,(((((((((List.getD f (Int.toNat w2) (dflt T_api_ClientInput)).2).2).2).2).2).1).2).2).1,(((((((((List.getD f (Int.toNat w2) (dflt T_api_ClientInput)).2).2).2).2).2).1).2).2).2,(((((((List.getD f (Int.toNat w2) (dflt T_api_ClientInput)).2).2).2).2).2).2).1,k7,(((((((((List.getD f (Int.toNat w2) (dflt T_api_ClientInput)).2).2).2).2).2).2).2).2).1,((((((((((List.getD f (Int.toNat w2) (dflt T_api_ClientInput)).2).2).2).2).2).2).2).2).2).1,((((((((((List.getD f (Int.toNat w2) (dflt T_api_ClientInput)).2).2).2).2).2).2).2).2).2).2,()),())) fun ⟨_,⟨⟨f9,h9,i9,j9,k9,l9,m9,n9,o9,q9,s9,t9,u9,w9,x9,y9,z9,a10,c10,f10,h10,i10,j10,k10,l10,m10,n10,o10,q10,s10,t10,u10,w10,_⟩,⟨x10,y10,z10,a11,c11,f11,h11,i11,j11,k11,l11,m11,n11,o11,q11,s11,t11,u11,w11,x11,y11,z11,a12,c12,f12,h12,i12,j12,k12,l12,m12,n12,o12,q12,s12,t12,u12,w12,x12,y12,z12,_⟩,a13,_⟩⟩ =>
 bif decide ((0:Int)≤w2∧w2<(List.length f:Int)) then
 bif decide (Int.toNat w2<List.length f) then
 bif decide (List.length s4=List.length s4) then
 Option.bind (p11 fu ((q4,s4,t4,u4,w4,x4,y4,z4,a5,c5,f5,h5,i5,j5,k5,l5,m5,n5,o5,q5,s5,t5,u5,w5,x5,y5,z5,a6,c6,f6,h6,i6,j6,()),((List.getD f (Int.toNat w2) (dflt T_api_ClientInput)).1,(((List.getD f (Int.toNat w2) (dflt T_api_ClientInput)).2).1).1,((((List.getD f (Int.toNat w2) (dflt T_api_ClientInput)).2).1).2).1,(((((List.getD f (Int.toNat w2) (dflt T_api_ClientInput)).2).1).2).2).1,((((((List.getD f (Int.toNat w2) (dflt T_api_ClientInput)).2).1).2).2).2).1,(((((((List.getD f (Int.toNat w2) (dflt T_api_ClientInput)).2).1).2).2).2).2).1,((((((((List.getD f (Int.toNat w2) (dflt T_api_ClientInput)).2).1).2).2).2).2).2).1,(((((((((List.getD f (Int.toNat w2) (dflt T_api_ClientInput)).2).1).2).2).2).2).2).2).1,((((((((((List.getD f (Int.toNat w2) (dflt T_api_ClientInput)).2).1).2).2).2).2).2).2).2).1,(((((((((((List.getD f (Int.toNat w2) (dflt T_api_ClientInput)).2).1).2).2).2).2).2).2).2).2).1,((((((((((((List.getD f (Int.toNat w2) (dflt T_api_ClientInput)).2).1).2).2).2).2).2).2).2).2).2).1,(((((((((((((List.getD f (Int.toNat w2) (dflt T_api_ClientInput)).2).1).2).2).2).2).2).2).2).2).2).2).1,((((((((((((((List.getD f (Int.toNat w2) (dflt T_api_ClientInput)).2).1).2).2).2).2).2).2).2).2).2).2).2).1,(((((((((((((((List.getD f (Int.toNat w2) (dflt T_api_ClientInput)).2).1).2).2).2).2).2).2).2).2).2).2).2).2).1,((((((((((((((((List.getD f (Int.toNat w2) (dflt T_api_ClientInput)).2).1).2).2).2).2).2).2).2).2).2).2).2).2).2).1,(((((((((((((((((List.getD f (Int.toNat w2) (dflt T_api_ClientInput)).2).1).2).2).2).2).2).2).2).2).2).2).2).2).2).2).1,((((((((((((((((((List.getD f (Int.toNat w2) (dflt T_api_ClientInput)).2).1).2).2).2).2).2).2).2).2).2).2).2).2).2).2).2).1,(((((((((((((((((((List.getD f (Int.toNat w2) (dflt T_api_ClientInput)).2).1).2).2).2).2).2).2).2).2).2).2).2).2).2).2).2).2).1,((((((((((((((((((((List.getD f (Int.toNat w2) (dflt T_api_ClientInput)).2).1).2).2).2).2).2).2).2).2).2).2).2).2).2).2).2).2).2).1,((((((((((((((((((((List.getD f (Int.toNat w2) (dflt T_api_ClientInput)).2).1).2).2).2).2).2).2).2).2).2).2).2).2).2).2).2).2).2).2,(((List.getD f (Int.toNat w2) (dflt T_api_ClientInput)).2).2).1,((((List.getD f (Int.toNat w2) (dflt T_api_ClientInput)).2).2).2).1,(((((List.getD f (Int.toNat w2) (dflt T_api_ClientInput)).2).2).2).2).1,(((((((List.getD f (Int.toNat w2) (dflt T_api_ClientInput)).2).2).2).2).2).1).1,((((((((List.getD f (Int.toNat w2) (dflt T_api_ClientInput)).2).2).2).2).2).1).2).1,(((((((((List.getD f (Int.toNat w2) (dflt T_api_ClientInput)).2).2).2).2).2).1).2).2).1,(((((((((List.getD f (Int.toNat w2) (dflt T_api_ClientInput)).2).2).2).2).2).1).2).2).2,(((((((List.getD f (Int.toNat w2) (dflt T_api_ClientInput)).2).2).2).2).2).2).1,((((((((List.getD f (Int.toNat w2) (dflt T_api_ClientInput)).2).2).2).2).2).2).2).1,(((((((((List.getD f (Int.toNat w2) (dflt T_api_ClientInput)).2).2).2).2).2).2).2).2).1,((((((((((List.getD f (Int.toNat w2) (dflt T_api_ClientInput)).2).2).2).2).2).2).2).2).2).1,((((((((((List.getD f (Int.toNat w2) (dflt T_api_ClientInput)).2).2).2).2).2).2).2).2).2).2,()),())) fun ⟨_,⟨⟨c13,f13,h13,i13,j13,k13,l13,m13,n13,o13,q13,s13,t13,u13,w13,x13,y13,z13,a14,c14,f14,h14,i14,j14,k14,l14,m14,n14,o14,q14,s14,t14,u14,_⟩,⟨w14,x14,y14,z14,a15,c15,f15,h15,i15,j15,k15,l15,m15,n15,o15,q15,s15,t15,u15,w15,x15,y15,z15,a16,c16,f16,h16,i16,j16,k16,l16,m16,n16,o16,q16,s16,t16,u16,w16,x16,y16,_⟩,z16,_⟩⟩ =>
 bif decide (List.length h9=List.length h9) then
 bif decide (List.length l9=List.length l9) then
 bif decide (List.length s9=List.length s9) then
 bif decide (List.length c10=List.length c10) then
 bif decide (List.length f13=List.length f13) then
 bif decide (List.length j13=List.length j13) then
 bif decide (List.length k13=List.length k13) then
 bif decide (List.length q13=List.length q13) then
 bif decide (List.length a14=List.length a14) then
 Option.bind (p12 fu ((f9,h9,i9,j9,k9,l9,m9,n9,o9,q9,s9,t9,u9,w9,x9,y9,z9,a10,c10,f10,h10,i10,j10,k10,l10,m10,n10,o10,q10,s10,t10,u10,w10,()),(c13,f13,h13,i13,j13,k13,l13,m13,n13,o13,q13,s13,t13,u13,w13,x13,y13,z13,a14,c14,f14,h14,i14,j14,k14,l14,m14,n14,o14,q14,s14,t14,u14,()),())) fun ⟨_,a17⟩ =>
 bif decide (List.length l11=List.length l11) then
 bif decide (List.length x11=List.length x11) then
 bif decide (List.length t12=List.length t12) then
 bif decide (List.length w12=List.length w12) then
 bif decide (List.length k15=List.length k15) then
 bif decide (List.length w15=List.length w15) then
 Option.bind (p13 fu ((x10,y10,z10,a11,c11,f11,h11,i11,j11,k11,l11,m11,n11,o11,q11,s11,t11,u11,w11,x11,y11,z11,a12,c12,f12,h12,i12,j12,k12,l12,m12,n12,o12,q12,s12,t12,u12,w12,x12,y12,z12,()),(w14,x14,y14,z14,a15,c15,f15,h15,i15,j15,k15,l15,m15,n15,o15,q15,s15,t15,u15,w15,x15,y15,z15,a16,c16,f16,h16,i16,j16,k16,l16,m16,n16,o16,q16,s16,t16,u16,w16,x16,y16,()),())) fun ⟨_,c17⟩ =>
 bif decide (List.length y2=List.length y2) then
 bif decide (List.length m7=List.length m7) then
 bif decide (List.length q7=List.length q7) then
 bif decide (List.length s7=List.length s7) then
 bif decide (List.length y7=List.length y7) then
 bif decide (List.length k8=List.length k8) then
 Option.bind (p12 fu ((x2,y2,z2,a3,c3,f3,h3,i3,j3,k3,l3,m3,n3,o3,q3,s3,t3,u3,w3,x3,y3,z3,a4,c4,f4,h4,i4,j4,k4,l4,m4,n4,o4,()),(l7,m7,n7,o7,q7,s7,t7,u7,w7,x7,y7,z7,a8,c8,f8,h8,i8,j8,k8,l8,m8,n8,o8,q8,s8,t8,u8,w8,x8,y8,z8,a9,c9,()),())) fun ⟨_,f17⟩ =>
 bif !a17 then
 inrO (some ((),false))
 else
 bif !c17 then
 inrO (some ((),false))
 else
 bif !f17 then
 inrO (some ((),false))
 else
 bif (a13 != z16) then
 inrO (some ((),false))
 else
 bif decide (List.length l11=List.length l11) then
 bif decide (List.length x11=List.length x11) then
 bif decide (List.length t12=List.length t12) then
 bif decide (List.length w12=List.length w12) then
 loopO (S := ((Int)×(Unit))×((Z5)×(Unit))) fu (fun ⟨⟨h17,_⟩,⟨⟨i17,j17,k17,l17,m17,n17,o17,q17,s17,t17,u17,w17,x17,y17,z17,a18,c18,f18,h18,i18,j18,k18,l18,m18,n18,o18,q18,s18,t18,u18,w18,x18,y18,z18,a19,c19,f19,h19,i19,j19,k19,_⟩,_⟩⟩ =>
 bif decide (h17<((List.length u17):Int)) then
 bif decide ((0:Int)≤h17∧h17<(List.length u17:Int)) then
 bif decide (Int.toNat h17<List.length u17) then
 bif decide ((0:Int)≤h17∧h17<(List.length u17:Int)) then
 bif decide (Int.toNat h17<List.length u17) then
 bif decide (List.length u17=List.length (List.set u17 (Int.toNat h17) (IntKind.wrap .u8 ((List.getD u17 (Int.toNat h17) (dflt (.int .u8)))+(1:Int))))) then
 bif decide (List.length i18=List.length i18) then
 bif decide (List.length c19=List.length c19) then
 bif decide (List.length h19=List.length h19) then
 some (.inl ((IntKind.wrap .i64 (h17+(1:Int)),()),((i17,j17,k17,l17,m17,n17,o17,q17,s17,t17,(List.set u17 (Int.toNat h17) (IntKind.wrap .u8 ((List.getD u17 (Int.toNat h17) (dflt (.int .u8)))+(1:Int)))),w17,x17,y17,z17,a18,c18,f18,h18,i18,j18,k18,l18,m18,n18,o18,q18,s18,t18,u18,w18,x18,y18,z18,a19,c19,f19,h19,i19,j19,k19,()),())))
 else none
 else none
 else none
 else none
 else none
 else none
 else none
 else none
 else
 inrO (bif decide (List.length n6=List.length n6) then
 bif decide (List.length y6=List.length y6) then
 bif decide (List.length k7=List.length k7) then
 loopO (S := ((Int)×(Unit))×((Z4)×(Unit))) fu (fun ⟨⟨l19,_⟩,⟨⟨m19,n19,o19,q19,s19,t19,u19,w19,x19,y19,z19,a20,c20,f20,h20,i20,j20,k20,l20,m20,n20,o20,q20,s20,t20,u20,w20,x20,y20,z20,a21,c21,_⟩,_⟩⟩ =>
 bif decide (l19<((List.length y20):Int)) then
 bif decide ((0:Int)≤l19∧l19<(List.length y20:Int)) then
 bif decide (Int.toNat l19<List.length y20) then
 bif decide ((0:Int)≤l19∧l19<(List.length y20:Int)) then
 bif decide (Int.toNat l19<List.length (List.set y20 (Int.toNat l19) ((List.getD y20 (Int.toNat l19) (dflt T_api_Shard)).1,(((List.getD y20 (Int.toNat l19) (dflt T_api_Shard)).2).1,((((List.getD y20 (Int.toNat l19) (dflt T_api_Shard)).2).2).1,([],((((List.getD y20 (Int.toNat l19) (dflt T_api_Shard)).2).2).2).2)))))) then
 bif decide (List.length s19=List.length s19) then
 bif decide (List.length c20=List.length c20) then
 bif decide (List.length y20=List.length (List.set (List.set y20 (Int.toNat l19) ((List.getD y20 (Int.toNat l19) (dflt T_api_Shard)).1,(((List.getD y20 (Int.toNat l19) (dflt T_api_Shard)).2).1,((((List.getD y20 (Int.toNat l19) (dflt T_api_Shard)).2).2).1,([],((((List.getD y20 (Int.toNat l19) (dflt T_api_Shard)).2).2).2).2))))) (Int.toNat l19) ((99:Int),(List.getD (List.set y20 (Int.toNat l19) ((List.getD y20 (Int.toNat l19) (dflt T_api_Shard)).1,(((List.getD y20 (Int.toNat l19) (dflt T_api_Shard)).2).1,((((List.getD y20 (Int.toNat l19) (dflt T_api_Shard)).2).2).1,([],((((List.getD y20 (Int.toNat l19) (dflt T_api_Shard)).2).2).2).2))))) (Int.toNat l19) (dflt T_api_Shard)).2))) then
 some (.inl ((IntKind.wrap .i64 (l19+(1:Int)),()),((m19,n19,o19,q19,s19,t19,u19,w19,x19,y19,z19,a20,c20,f20,h20,i20,j20,k20,l20,m20,n20,o20,q20,s20,t20,u20,w20,x20,(List.set (List.set y20 (Int.toNat l19) ((List.getD y20 (Int.toNat l19) (dflt T_api_Shard)).1,(((List.getD y20 (Int.toNat l19) (dflt T_api_Shard)).2).1,((((List.getD y20 (Int.toNat l19) (dflt T_api_Shard)).2).2).1,([],((((List.getD y20 (Int.toNat l19) (dflt T_api_Shard)).2).2).2).2))))) (Int.toNat l19) ((99:Int),(List.getD (List.set y20 (Int.toNat l19) ((List.getD y20 (Int.toNat l19) (dflt T_api_Shard)).1,(((List.getD y20 (Int.toNat l19) (dflt T_api_Shard)).2).1,((((List.getD y20 (Int.toNat l19) (dflt T_api_Shard)).2).2).1,([],((((List.getD y20 (Int.toNat l19) (dflt T_api_Shard)).2).2).2).2))))) (Int.toNat l19) (dflt T_api_Shard)).2)),z20,a21,c21,()),())))
 else none
 else none
 else none
 else none
 else none
 else none
 else none
 else
 inrO (bif decide (List.length s19=List.length s19) then
 bif decide (List.length c20=List.length c20) then
 bif decide (List.length y20=List.length y20) then
 loopO (S := ((Int)×(Unit))×((Z4)×(Unit))) fu (fun ⟨⟨f21,_⟩,⟨⟨m19,n19,o19,q19,s19,t19,u19,w19,x19,y19,z19,a20,c20,f20,h20,i20,j20,k20,l20,m20,n20,o20,q20,s20,t20,u20,w20,x20,y20,z20,a21,c21,_⟩,_⟩⟩ =>
 bif decide (f21<((List.length s19):Int)) then
 bif decide ((0:Int)≤f21∧f21<(List.length s19:Int)) then
 bif decide (Int.toNat f21<List.length s19) then
 bif decide ((0:Int)≤f21∧f21<(List.length s19:Int)) then
 bif decide (Int.toNat f21<List.length s19) then
 bif decide (List.length s19=List.length (List.set s19 (Int.toNat f21) (IntKind.wrap .u8 ((List.getD s19 (Int.toNat f21) (dflt (.int .u8)))+(1:Int))))) then
 bif decide (List.length c20=List.length c20) then
 bif decide (List.length y20=List.length y20) then
 some (.inl ((IntKind.wrap .i64 (f21+(1:Int)),()),((m19,n19,o19,q19,(List.set s19 (Int.toNat f21) (IntKind.wrap .u8 ((List.getD s19 (Int.toNat f21) (dflt (.int .u8)))+(1:Int)))),t19,u19,w19,x19,y19,z19,a20,c20,f20,h20,i20,j20,k20,l20,m20,n20,o20,q20,s20,t20,u20,w20,x20,y20,z20,a21,c21,()),())))
 else none
 else none
 else none
 else none
 else none
 else none
 else none
 else
 inrO (bif decide (List.length h9=List.length h9) then
 bif decide (List.length l9=List.length l9) then
 bif decide (List.length s9=List.length s9) then
 bif decide (List.length c10=List.length c10) then
 bif decide (List.length f13=List.length f13) then
 bif decide (List.length j13=List.length j13) then
 bif decide (List.length k13=List.length k13) then
 bif decide (List.length q13=List.length q13) then
 bif decide (List.length a14=List.length a14) then
 some (.inl ((IntKind.wrap .i64 (w2+(1:Int)),()),((f9,h9,i9,j9,k9,l9,m9,n9,o9,q9,s9,t9,u9,w9,x9,y9,z9,a10,c10,f10,h10,i10,j10,k10,l10,m10,n10,o10,q10,s10,t10,u10,w10,()),(c13,f13,h13,i13,j13,k13,l13,m13,n13,o13,q13,s13,t13,u13,w13,x13,y13,z13,a14,c14,f14,h14,i14,j14,k14,l14,m14,n14,o14,q14,s14,t14,u14,()),())))
 else none
 else none
 else none
 else none
 else none
 else none
 else none
 else none
 else none))
 (((0:Int),()),((m19,n19,o19,q19,s19,t19,u19,w19,x19,y19,z19,a20,c20,f20,h20,i20,j20,k20,l20,m20,n20,o20,q20,s20,t20,u20,w20,x20,y20,z20,a21,c21,()),()))
 else none
 else none
 else none))
 (((0:Int),()),(((List.getD f (Int.toNat w2) (dflt T_api_ClientInput)).1,k6,l6,m6,n6,o6,q6,s6,t6,u6,w6,x6,y6,z6,a7,c7,f7,h7,i7,j7,(((List.getD f (Int.toNat w2) (dflt T_api_ClientInput)).2).2).1,((((List.getD f (Int.toNat w2) (dflt T_api_ClientInput)).2).2).2).1,(((((List.getD f (Int.toNat w2) (dflt T_api_ClientInput)).2).2).2).2).1,(((((((List.getD f (Int.toNat w2) (dflt T_api_ClientInput)).2).2).2).2).2).1).1,((((((((List.getD f (Int.toNat w2) (dflt T_api_ClientInput)).2).2).2).2).2).1).2).1,(((((((((List.getD f (Int.toNat w2) (dflt T_api_ClientInput)).2).2).2).2).2).1).2).2).1,(((((((((List.getD f (Int.toNat w2) (dflt T_api_ClientInput)).2).2).2).2).2).1).2).2).2,(((((((List.getD f (Int.toNat w2) (dflt T_api_ClientInput)).2).2).2).2).2).2).1,k7,(((((((((List.getD f (Int.toNat w2) (dflt T_api_ClientInput)).2).2).2).2).2).2).2).2).1,((((((((((List.getD f (Int.toNat w2) (dflt T_api_ClientInput)).2).2).2).2).2).2).2).2).2).1,((((((((((List.getD f (Int.toNat w2) (dflt T_api_ClientInput)).2).2).2).2).2).2).2).2).2).2,()),()))
 else none
 else none
 else none))
 (((0:Int),()),((x10,y10,z10,a11,c11,f11,h11,i11,j11,k11,l11,m11,n11,o11,q11,s11,t11,u11,w11,x11,y11,z11,a12,c12,f12,h12,i12,j12,k12,l12,m12,n12,o12,q12,s12,t12,u12,w12,x12,y12,z12,()),()))
 else none
 else none
 else none
 else none
 else none
 else none
 else none
 else none
 else none
 else none
 else none
 else none
 else none
 else none
 else none
 else none
 else none
 else none
 else none
 else none
 else none
 else none
 else none
 else none
 else none
 else none
 else none
 else none
 else none
 else none
 else none
 else none
 else none
 else none
 else none
 else
 inrO (some ((),true)))
 (((0:Int),()),((i,j,k,l,m,n,o,q,s,t,u,w,x,y,z,a0,c0,f0,h0,i0,j0,k0,l0,m0,n0,o0,q0,s0,t0,u0,w0,x0,y0,()),(a1,c1,f1,h1,i1,j1,k1,l1,m1,n1,o1,q1,s1,t1,u1,w1,x1,y1,z1,a2,c2,f2,h2,i2,j2,k2,l2,m2,n2,o2,q2,s2,t2,()),()))
 else none
 else none
def e3 (fu:Nat):Ent := ⟨3,(.cons (.hole (.int .i64)) (.cons (.hole (.sl .any (.int .i64))) (.cons (.hole (.sl .any T_api_ClientInput)) .nil))),.nil,(.hole .bool),p3 fu⟩
theorem g3 (fu:Nat):(e3 fu).Good Try.prog := good_fx orders Try.func3 fu [(1,(.ent (e4 fu))),(5,(.ent (e5 fu))),(14,(.ent (e6 fu))),(45,(.ent (e7 fu))),(51,(.ent (e8 fu))),(56,(.ent (e9 fu))),(61,(.ent (e10_7 fu))),(76,(.ent (e11 fu))),(88,(.ent (e12 fu))),(92,(.ent (e13 fu))),(96,(.ent (e12 fu)))] [(12,⟨[12],(.cons (.hole (.int .i64)) .nil),[(144,36,33),(288,36,33)],(.cons Y63 (.cons Y7 .nil)),[2,8,10],[]⟩),(30,⟨[24],(.cons (.hole (.int .i64)) .nil),[(1042,58,41)],(.cons Y43 .nil),[2,8,10,12,13,15,16,18,101,105,110],[144,288,496,497,626,690,691,786,946,947,948,949,1026,1186,1187,1188,1189,1190,1266]⟩),(36,⟨[25],(.cons (.hole (.int .i64)) .nil),[(626,48,32)],(.cons Y64 .nil),[2,8,10,12,13,15,18,101,105,110],[144,288,496,497,946,947,948,949,1026,1186,1187,1188,1189,1190,1266]⟩),(43,⟨[26],(.cons (.hole (.int .i64)) .nil),[(626,48,32)],(.cons Y64 .nil),[2,8,10,12,13,15,18,101,105,110],[144,288,496,497,946,947,948,949,1026,1186,1187,1188,1189,1190,1266]⟩)] rs3 168 (l := [e4 fu,e5 fu,e6 fu,e7 fu,e8 fu,e9 fu,e10_7 fu,e11 fu,e12 fu,e13 fu,e12 fu]) ⟨g4 fu,g5 fu,g6 fu,g7 fu,g8 fu,g9 fu,g10_7 fu,g11 fu,g12 fu,g13 fu,g12 fu,trivial⟩
end Go.Proofs.Ytnhniiannbimgaa
