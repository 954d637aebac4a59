/-
  The functions, typed, continued.
-/
import Derived.Test.YthlgaodaofpgoaaGreatDoorPtMA
namespace Go.Proofs.YthlgaodaofpgoaaGreatDoor
set_option maxRecDepth 1000000
open Go.RowKit
def rs93:List RVx := [(.tmp 4)]
def p93_2 (fu:Nat):((List Int)×(Int×((Bool×((Int×(Int×Unit))×Unit))×Unit)))×(Int×Unit)→Option ((((List Int)×(Int×((Bool×((Int×(Int×Unit))×Unit))×Unit)))×(Unit×Unit))×Int) := fun ⟨⟨a,c,⟨f,⟨h,i,_⟩,_⟩,_⟩,j,_⟩ =>
bif f then
 bif eqL a then
 Option.bind (p84_1 fu ((a,c,(true,(h,i,()),dflt .unit),()),())) fun ⟨⟨⟨k,l,⟨m,⟨n,o,_⟩,_⟩,_⟩,_,_⟩,q⟩ =>
 orK (E := Unit×(((List Int)×(Int×((Bool×((Int×(Int×Unit))×Unit))×Unit)))×Unit))
 (orK (E := (Bool×Unit)×Unit)
 (bif decide (j<(0:Int)) then
 some (.inl ((true,()),()))
 else
 some (.inl ((decide (q>(IntKind.wrap .u64 j)),()),())))
 fun ⟨⟨s,_⟩,_⟩ =>
 bif s then
 bif eqL k then
 Option.bind (p135_2 fu ((k,l,(m,(n,o,()),()),()),c,(13:Int),())) fun ⟨⟨⟨t,u,⟨w,⟨x,y,_⟩,_⟩,_⟩,_,_⟩,_⟩ =>
 bif eqL t then
 some (.inl ((),((t,u,(w,(x,y,()),()),()),())))
 else none
 else none
 else
 bif eqL k then
 some (.inl ((),((k,l,(m,(n,o,()),()),()),())))
 else none)
 fun ⟨_,⟨⟨z,a0,⟨c0,⟨f0,h0,_⟩,_⟩,_⟩,_⟩⟩ =>
 orK (E := Unit×(((List Int)×(Int×((Bool×((Int×(Int×Unit))×Unit))×Unit)))×Unit))
 (bif decide (q>(IntKind.wrap .u64 (IntKind.wrap .i64 (((z.length):Int)-a0)))) then
 bif eqL z then
 Option.bind (p135_2 fu ((z,a0,(c0,(f0,h0,()),()),()),c,(11:Int),())) fun ⟨⟨⟨i0,j0,⟨k0,⟨l0,m0,_⟩,_⟩,_⟩,_,_⟩,_⟩ =>
 bif eqL i0 then
 some (.inl ((),((i0,j0,(k0,(l0,m0,()),()),()),())))
 else none
 else none
 else
 bif eqL z then
 some (.inl ((),((z,a0,(c0,(f0,h0,()),()),()),())))
 else none)
 fun ⟨_,⟨⟨z,a0,⟨c0,⟨f0,h0,_⟩,_⟩,_⟩,_⟩⟩ =>
 bif eqL z then
 Option.bind (p138_1 fu ((z,a0,(c0,(f0,h0,()),()),()),IntKind.wrap .i64 q,())) fun ⟨⟨⟨n0,o0,⟨q0,⟨s0,t0,_⟩,_⟩,_⟩,_,_⟩,u0⟩ =>
 bif eqL n0 then
 some (((n0,o0,(q0,(s0,t0,()),()),()),(),()),u0)
 else none
 else none
 else none
else
 bif eqL a then
 Option.bind (p84_1 fu ((a,c,zR0,()),())) fun ⟨⟨⟨w0,x0,⟨y0,⟨z0,a1,_⟩,_⟩,_⟩,_,_⟩,c1⟩ =>
 orK (E := Unit×(((List Int)×(Int×((Bool×((Int×(Int×Unit))×Unit))×Unit)))×Unit))
 (orK (E := (Bool×Unit)×Unit)
 (bif decide (j<(0:Int)) then
 some (.inl ((true,()),()))
 else
 some (.inl ((decide (c1>(IntKind.wrap .u64 j)),()),())))
 fun ⟨⟨s,_⟩,_⟩ =>
 bif s then
 bif eqL w0 then
 Option.bind (p135_2 fu ((w0,x0,(y0,(z0,a1,()),()),()),c,(13:Int),())) fun ⟨⟨⟨f1,h1,⟨i1,⟨j1,k1,_⟩,_⟩,_⟩,_,_⟩,_⟩ =>
 bif eqL f1 then
 some (.inl ((),((f1,h1,(i1,(j1,k1,()),()),()),())))
 else none
 else none
 else
 bif eqL w0 then
 some (.inl ((),((w0,x0,(y0,(z0,a1,()),()),()),())))
 else none)
 fun ⟨_,⟨⟨z,a0,⟨c0,⟨f0,h0,_⟩,_⟩,_⟩,_⟩⟩ =>
 orK (E := Unit×(((List Int)×(Int×((Bool×((Int×(Int×Unit))×Unit))×Unit)))×Unit))
 (bif decide (c1>(IntKind.wrap .u64 (IntKind.wrap .i64 (((z.length):Int)-a0)))) then
 bif eqL z then
 Option.bind (p135_2 fu ((z,a0,(c0,(f0,h0,()),()),()),c,(11:Int),())) fun ⟨⟨⟨l1,m1,⟨n1,⟨o1,q1,_⟩,_⟩,_⟩,_,_⟩,_⟩ =>
 bif eqL l1 then
 some (.inl ((),((l1,m1,(n1,(o1,q1,()),()),()),())))
 else none
 else none
 else
 bif eqL z then
 some (.inl ((),((z,a0,(c0,(f0,h0,()),()),()),())))
 else none)
 fun ⟨_,⟨⟨z,a0,⟨c0,⟨f0,h0,_⟩,_⟩,_⟩,_⟩⟩ =>
 bif eqL z then
 Option.bind (p138_1 fu ((z,a0,(c0,(f0,h0,()),()),()),IntKind.wrap .i64 c1,())) fun ⟨⟨⟨s1,t1,⟨u1,⟨w1,x1,_⟩,_⟩,_⟩,_,_⟩,y1⟩ =>
 bif eqL s1 then
 some (((s1,t1,(u1,(w1,x1,()),()),()),(),()),y1)
 else none
 else none
 else none
def e93_2 (fu:Nat):Ent := ⟨93,(.cons Y17 (.cons hI .nil)),(.cons Y16 (.cons .dead .nil)),hI,p93_2 fu⟩
def d93_2 (fu:Nat):DC := (.seq (.region [opD 4 (.mov (cD 0))] [[]] false) (.seq (.region [mvD 7 0,nD 8 7,fD 9 1 8,lD 10 1 9,mvD 5 10] [[],[0],[1],[2],[3,0,1,2,3]] false) (.seq (.region [mvD 11 0,oqD 12 (.call 84 [(tD 11)]) (.ent (e84_1 fu)),mvD 6 12] [[],[0],[1,1,0,1]] false) (.join ⟨[],.nil,[(0,176,3)],(.cons Y16 .nil),[0,5,6],[1]⟩
 (.join ⟨[20],(.cons (.hole .bool) .nil),[],.nil,[0,5,6],[0,1,116]⟩
 (.region [mvD 13 1,opD 14 (.bin .lss (tD 13) (cD 0)),mvD 15 14,ogD 16 15 false (.mov (tD 6)),ogD 17 15 false (.mov (tD 1)),ogD 18 15 false (.conv .u64 (tD 17)),ogD 19 15 false (.bin .gtr (tD 16) (tD 18)),opD 20 (.pick (tD 15) (.const (.bool true)) (tD 19))] [[],[0],[1],[2],[2],[4,2],[3,5,2],[2,6]] false)
 (.cond (.tmp 20) (.region [mvD 21 0,mvD 22 5,oqD 23 (.call 135 [(tD 21),(tD 22),(cD 13)]) (.ent (e135_2 fu))] [[],[],[0,1]] false) .skip))
 (.join ⟨[],.nil,[(0,176,3)],(.cons Y16 .nil),[0,6],[1]⟩
 (.seq (.region [mvD 24 6,mvD 25 0,nD 26 25,fD 27 0 26,lD 28 1 27,opD 29 (.len false (tD 28)),mvD 30 0,nD 31 30,fD 32 1 31,lD 33 1 32,opD 34 (.bin .sub (tD 29) (tD 33)),opD 35 (.conv .u64 (tD 34)),opD 36 (.bin .gtr (tD 24) (tD 35))] [[],[],[1],[2],[3],[4],[],[6],[7],[8],[5,9],[10],[0,11]] true) (.cond (.tmp 36) (.region [mvD 37 0,mvD 38 5,oqD 39 (.call 135 [(tD 37),(tD 38),(cD 11)]) (.ent (e135_2 fu))] [[],[],[0,1]] false) .skip))
 (.seq (.region [mvD 40 0,mvD 41 6,opD 42 (.conv .i64 (tD 41)),oqD 43 (.call 138 [(tD 40),(tD 42)]) (.ent (e138_1 fu)),mvD 4 43] [[],[],[1],[0,2],[3,3,0,1,2,3]] false) .ret))))))
theorem X5o (fu:Nat):(e93_2 fu).Good Tryz.prog := Q0c Q0d Tryz.func93 fu (d93_2 fu) rs93 44 (l := [e84_1 fu,e135_2 fu,e135_2 fu,e138_1 fu]) ⟨Q1q fu,Q9k fu,Q9k fu,K9k fu,trivial⟩
def rs86:List RVx := [(.tmp 4)]
def p86_2 (fu:Nat):((List Int)×(Int×((Bool×((Int×(Int×Unit))×Unit))×Unit)))×(Int×Unit)→Option ((((List Int)×(Int×((Bool×((Int×(Int×Unit))×Unit))×Unit)))×(Unit×Unit))×(List Int)) := fun ⟨⟨a,c,⟨f,⟨h,i,_⟩,_⟩,_⟩,j,_⟩ =>
bif f then
 bif eqL a then
 Option.bind (p93_2 fu ((a,c,(true,(h,i,()),dflt .unit),()),j,())) fun ⟨⟨⟨k,l,⟨m,⟨n,o,_⟩,_⟩,_⟩,_,_⟩,q⟩ =>
 bif eqL k then
 Option.bind (p132_1 fu ((k,l,(m,(n,o,()),()),()),q,())) fun ⟨⟨⟨s,t,⟨u,⟨w,x,_⟩,_⟩,_⟩,_,_⟩,y⟩ =>
 bif eqL s then
 bif eqL y then
 some (((s,t,(u,(w,x,()),()),()),(),()),y)
 else none
 else none
 else none
 else none
else
 bif eqL a then
 Option.bind (p93_2 fu ((a,c,zR0,()),j,())) fun ⟨⟨⟨z,a0,⟨c0,⟨f0,h0,_⟩,_⟩,_⟩,_,_⟩,i0⟩ =>
 bif eqL z then
 Option.bind (p132_1 fu ((z,a0,(c0,(f0,h0,()),()),()),i0,())) fun ⟨⟨⟨j0,k0,⟨l0,⟨m0,n0,_⟩,_⟩,_⟩,_,_⟩,o0⟩ =>
 bif eqL j0 then
 bif eqL o0 then
 some (((j0,k0,(l0,(m0,n0,()),()),()),(),()),o0)
 else none
 else none
 else none
 else none
def e86_2 (fu:Nat):Ent := ⟨86,(.cons Y17 (.cons hI .nil)),(.cons Y16 (.cons .dead .nil)),(.own .own 5 (.int .u8)),p86_2 fu⟩
def d86_2 (fu:Nat):DC := (.seq (.region [opD 4 (.mov (.const vS))] [[]] false) (.seq (.region [mvD 5 0,mvD 6 0,mvD 7 1,oqD 8 (.call 93 [(tD 6),(tD 7)]) (.ent (e93_2 fu)),oqD 9 (.call 132 [(tD 5),(tD 8)]) (.ent (e132_1 fu)),mvD 4 9] [[],[],[],[1,2],[0,3,3],[4,4,0,1,2,3,4]] false) .ret))
theorem Q9j (fu:Nat):(e86_2 fu).Good Tryz.prog := Q0c Q0d Tryz.func86 fu (d86_2 fu) rs86 10 (l := [e93_2 fu,e132_1 fu]) ⟨X5o fu,X5p fu,trivial⟩
def rs85:List RVx := [(.tmp 4)]
def p85 (fu:Nat):((List Int)×(Int×((Bool×((Int×(Int×Unit))×Unit))×Unit)))×(Int×Unit)→Option ((((List Int)×(Int×((Bool×((Int×(Int×Unit))×Unit))×Unit)))×(Unit×Unit))×ByteArray) := fun ⟨⟨a,c,⟨f,⟨h,i,_⟩,_⟩,_⟩,j,_⟩ =>
bif f then
 bif eqL a then
 Option.bind (p86_2 fu ((a,c,(true,(h,i,()),dflt .unit),()),j,())) fun ⟨⟨⟨k,l,⟨m,⟨n,o,_⟩,_⟩,_⟩,_,_⟩,q⟩ =>
 bif eqL q then
 bif eqL k then
 some (((k,l,(m,(n,o,()),()),()),(),()),strOfNums q)
 else none
 else none
 else none
else
 bif eqL a then
 Option.bind (p86_2 fu ((a,c,zR0,()),j,())) fun ⟨⟨⟨s,t,⟨u,⟨w,x,_⟩,_⟩,_⟩,_,_⟩,y⟩ =>
 bif eqL y then
 bif eqL s then
 some (((s,t,(u,(w,x,()),()),()),(),()),strOfNums y)
 else none
 else none
 else none
def e85 (fu:Nat):Ent := ⟨85,(.cons Y17 (.cons hI .nil)),(.cons Y16 (.cons .dead .nil)),hT,p85 fu⟩
def d85 (fu:Nat):DC := (.seq (.region [opD 4 (.mov (.const vT))] [[]] false) (.seq (.region [mvD 5 0,mvD 6 1,oqD 7 (.call 86 [(tD 5),(tD 6)]) (.ent (e86_2 fu)),opD 8 (.b2s (tD 7)),mvD 4 8] [[],[],[0,1],[2],[3,2,0,1,2,3]] false) .ret))
theorem g85 (fu:Nat):(e85 fu).Good Tryz.prog := Q0c Q0d Tryz.func85 fu (d85 fu) rs85 9 (l := [e86_2 fu]) ⟨Q9j fu,trivial⟩
def p83_1 (fu:Nat):((List Int)×(Int×((Bool×((Int×(Int×Unit))×Unit))×Unit)))×Unit→Option ((((List Int)×(Int×((Bool×((Int×(Int×Unit))×Unit))×Unit)))×(Unit×Unit))×Int) := fun ⟨⟨a,c,⟨f,⟨h,i,_⟩,_⟩,_⟩,_⟩ =>
bif f then
 bif eqL a then
 Option.bind (p84_1 fu ((a,c,(true,(h,i,()),dflt .unit),()),())) fun ⟨⟨⟨j,k,⟨l,⟨m,n,_⟩,_⟩,_⟩,_,_⟩,o⟩ =>
 bif eqL j then
 some (((j,k,(l,(m,n,()),()),()),(),()),IntKind.wrap .i64 (IntKind.wrap .u64 ((BitVec.ofInt (IntKind.bits .u64) (Int.fdiv o (2 ^ (min (Int.toNat (1:Int)) (IntKind.bits .u64)))) ^^^ BitVec.ofInt (IntKind.bits .u64) (IntKind.wrap .u64 (0-(IntKind.wrap .u64 ((BitVec.ofInt (IntKind.bits .u64) o &&& BitVec.ofInt (IntKind.bits .u64) (1:Int)).toNat:Int))))).toNat:Int)))
 else none
 else none
else
 bif eqL a then
 Option.bind (p84_1 fu ((a,c,zR0,()),())) fun ⟨⟨⟨q,s,⟨t,⟨u,w,_⟩,_⟩,_⟩,_,_⟩,x⟩ =>
 bif eqL q then
 some (((q,s,(t,(u,w,()),()),()),(),()),IntKind.wrap .i64 (IntKind.wrap .u64 ((BitVec.ofInt (IntKind.bits .u64) (Int.fdiv x (2 ^ (min (Int.toNat (1:Int)) (IntKind.bits .u64)))) ^^^ BitVec.ofInt (IntKind.bits .u64) (IntKind.wrap .u64 (0-(IntKind.wrap .u64 ((BitVec.ofInt (IntKind.bits .u64) x &&& BitVec.ofInt (IntKind.bits .u64) (1:Int)).toNat:Int))))).toNat:Int)))
 else none
 else none
def e83_1 (fu:Nat):Ent := ⟨83,(.cons Y17 .nil),(.cons Y16 (.cons .dead .nil)),hI,p83_1 fu⟩
def d83_1 (fu:Nat):DC := (.seq (.region [opD 2 (.mov (cD 0))] [[]] false) (.seq (.region [mvD 4 0,oqD 5 (.call 84 [(tD 4)]) (.ent (e84_1 fu)),mvD 3 5] [[],[0],[1,1,0,1]] false) (.seq (.region [mvD 6 3,opD 7 (.bin .shr (tD 6) (.const (.int .u64 1))),mvD 8 3,opD 9 (.bin .and (tD 8) (.const (.int .u64 1))),opD 10 (.pure .neg [(tD 9)]),opD 11 (.bin .xor (tD 7) (tD 10)),opD 12 (.conv .i64 (tD 11)),mvD 2 12] [[],[0],[],[2],[3],[1,4],[5],[6,0,1,2,3,4,5,6]] false) .ret)))
theorem K9d (fu:Nat):(e83_1 fu).Good Tryz.prog := Q0c Q0d Tryz.func83 fu (d83_1 fu) rs83 13 (l := [e84_1 fu]) ⟨Q1q fu,trivial⟩
def rs133:List RVx := [(.tmp 2),(.tmp 3)]
def p133_2 (fu:Nat):((List Int)×(Int×((Bool×((Int×(Int×Unit))×Unit))×Unit)))×Unit→Option ((((List Int)×(Int×((Bool×((Int×(Int×Unit))×Unit))×Unit)))×(Unit×Unit))×(Int×(Int×Unit))) := fun ⟨⟨a,c,⟨f,⟨h,i,_⟩,_⟩,_⟩,_⟩ =>
bif f then
 orK (E := (Bool×Unit)×(((Bool×(Unit×(Int×(Int×Unit))))×Unit)×Unit))
 (Option.bind (pAsM fu ((false,dflt .unit,(h,i,())),((),()),())) fun ⟨⟨⟨⟨j,_,⟨k,l,_⟩⟩,_⟩,_⟩,m⟩ =>
 bif j then
 some (.inl ((m,()),(((true,(),dflt (.pair (.int .i64) (.pair (.int .i64) .unit))),()),())))
 else
 some (.inl ((m,()),(((false,dflt .unit,(k,l,())),()),()))))
 fun ⟨⟨n,_⟩,⟨⟨⟨o,_,⟨q,s,_⟩⟩,_⟩,_⟩⟩ =>
 bif o then
 bif n then
 none
 else
 bif eqL a then
 some (((a,c,(true,(h,i,()),dflt .unit),()),(),()),((0:Int),(0:Int),()))
 else none
 else
 bif n then
 bif eqL a then
 some (((a,c,(true,(h,i,()),dflt .unit),()),(),()),(q,s,()))
 else none
 else
 bif eqL a then
 some (((a,c,(true,(h,i,()),dflt .unit),()),(),()),((0:Int),(0:Int),()))
 else none
else
 orK (E := (Bool×Unit)×(((Bool×(Unit×(Int×(Int×Unit))))×Unit)×Unit))
 (Option.bind (pAsM fu ((true,(),dflt (.pair (.int .i64) (.pair (.int .i64) .unit))),((),()),())) fun ⟨⟨⟨⟨t,_,⟨u,w,_⟩⟩,_⟩,_⟩,x⟩ =>
 bif t then
 some (.inl ((x,()),(((true,(),dflt (.pair (.int .i64) (.pair (.int .i64) .unit))),()),())))
 else
 some (.inl ((x,()),(((false,dflt .unit,(u,w,())),()),()))))
 fun ⟨⟨n,_⟩,⟨⟨⟨o,_,⟨q,s,_⟩⟩,_⟩,_⟩⟩ =>
 bif o then
 bif n then
 none
 else
 bif eqL a then
 some (((a,c,zR0,()),(),()),((0:Int),(0:Int),()))
 else none
 else
 bif n then
 bif eqL a then
 some (((a,c,zR0,()),(),()),(q,s,()))
 else none
 else
 bif eqL a then
 some (((a,c,zR0,()),(),()),((0:Int),(0:Int),()))
 else none
def e133_2 (fu:Nat):Ent := ⟨133,(.cons Y17 .nil),(.cons Y16 (.cons .dead .nil)),(.tup 2 (.cons hI (.cons hI .nil))),p133_2 fu⟩
def d133_2 (fu:Nat):DC := (.seq (.region [opD 2 (.mov (cD 0)),opD 3 (.mov (cD 0))] [[],[0]] false) (.seq (.region [opD 4 (.alloc 207 1 [(.pointer none)])] [[]] false) (.seq (.join ⟨[10],(.cons (.hole .bool) .nil),[(36,207,1)],(.cons (.agg 1 (.cons (.alt false .nilp (.look (.cons hI (.cons hI .nil)))) .nil)) .nil),[4],[0,1,3]⟩
 (.region [mvD 5 0,nD 6 5,fD 7 2 6,lD 8 1 7,opD 9 (.ifc 208 (tD 4)),oqD 10 (.call 64 [(tD 8),(tD 9)]) (.ent (eAsM fu))] [[],[0],[1],[2],[],[3,4]] false)
 (.cond (.tmp 10) (.seq (.region [lD 11 1 4,nD 12 11,fD 13 0 12,lD 14 1 13,lD 15 1 4,nD 16 15,fD 17 1 16,lD 18 1 17,mvD 2 14,mvD 3 18] [[],[0],[1],[2],[],[4],[5],[6],[3,0,1,2,3],[7,8,0,1,2,3,4,5,6,7,8]] true) .ret) .skip)) (.seq (.region [opD 2 (.mov (cD 0)),opD 3 (.mov (cD 0))] [[],[0,0]] false) .ret))))
theorem K9e (fu:Nat):(e133_2 fu).Good Tryz.prog := Q0c Q0d Tryz.func133 fu (d133_2 fu) rs133 19 (l := [eAsM fu]) ⟨gAsM fu,trivial⟩
def rs87:List RVx := [(.tmp 2)]
def p87 (fu:Nat):((List Int)×(Int×((Bool×((Int×(Int×Unit))×Unit))×Unit)))×Unit→Option ((((List Int)×(Int×((Bool×((Int×(Int×Unit))×Unit))×Unit)))×(Unit×Unit))×Int) := fun ⟨⟨a,c,⟨f,⟨h,i,_⟩,_⟩,_⟩,_⟩ =>
bif f then
 bif eqL a then
 Option.bind (p133_2 fu ((a,c,(true,(h,i,()),dflt .unit),()),())) fun ⟨⟨⟨j,k,⟨l,⟨m,n,_⟩,_⟩,_⟩,_,_⟩,⟨o,_,_⟩⟩ =>
 bif (o==(0:Int)) then
 bif decide (k<((j.length):Int)) then
 bif eqL j then
 some (((j,k,(l,(m,n,()),()),()),(),()),(15:Int))
 else none
 else
 bif eqL j then
 some (((j,k,(l,(m,n,()),()),()),(),()),o)
 else none
 else
 bif eqL j then
 some (((j,k,(l,(m,n,()),()),()),(),()),o)
 else none
 else none
else
 bif eqL a then
 Option.bind (p133_2 fu ((a,c,zR0,()),())) fun ⟨⟨⟨q,s,⟨t,⟨u,w,_⟩,_⟩,_⟩,_,_⟩,⟨x,_,_⟩⟩ =>
 bif (x==(0:Int)) then
 bif decide (s<((q.length):Int)) then
 bif eqL q then
 some (((q,s,(t,(u,w,()),()),()),(),()),(15:Int))
 else none
 else
 bif eqL q then
 some (((q,s,(t,(u,w,()),()),()),(),()),x)
 else none
 else
 bif eqL q then
 some (((q,s,(t,(u,w,()),()),()),(),()),x)
 else none
 else none
def e87 (fu:Nat):Ent := ⟨87,(.cons Y17 .nil),(.cons Y16 (.cons .dead .nil)),hI,p87 fu⟩
def d87 (fu:Nat):DC := (.seq (.region [opD 2 (.mov (cD 0))] [[]] false) (.seq (.region [mvD 6 0,oqD 7 (.call 133 [(tD 6)]) (.ent (e133_2 fu)),mvD 5 7,opD 8 (.ext (tD 5) 0),opD 9 (.ext (tD 5) 1),mvD 3 8,mvD 4 9] [[],[0],[1],[2],[2],[3,1,0,1,2,3],[4,5,0,1,2,3,4,5]] false) (.seq (.seq (.region [mvD 10 3,opD 11 (.bin .eql (tD 10) (cD 0)),mvD 12 11,ogD 13 12 true (.mov (tD 0)),ogD 14 12 true (.pure .nilc [(tD 13)]),ogD 15 12 true (.faddr 1 (tD 14)),ogD 16 12 true (.load false 1 (tD 15)),ogD 17 12 true (.mov (tD 0)),ogD 18 12 true (.pure .nilc [(tD 17)]),ogD 19 12 true (.faddr 0 (tD 18)),ogD 20 12 true (.load false 1 (tD 19)),ogD 21 12 true (.len false (tD 20)),ogD 22 12 true (.bin .lss (tD 16) (tD 21)),opD 23 (.pick (tD 12) (tD 22) (.const vB))] [[],[0],[1],[2],[3,2],[4,2],[5,2],[2],[7,2],[8,2],[9,2],[10,2],[6,11,2],[2,12]] true) (.cond (.tmp 23) (.seq (.region [opD 2 (.mov (cD 15))] [[]] false) .ret) .skip)) (.seq (.region [mvD 24 3,mvD 2 24] [[],[0,0]] false) .ret))))
theorem g87 (fu:Nat):(e87 fu).Good Tryz.prog := Q0c Q0d Tryz.func87 fu (d87 fu) rs87 25 (l := [e133_2 fu]) ⟨K9e fu,trivial⟩
def rs26:List RVx := [(.cell 2 true 10),(.tmp 3)]
def p26 (fu:Nat):(List Int)×Unit→Option (Unit×((Z3)×(Int×Unit))) := fun ⟨a,_⟩ =>
Option.bind (p82 fu (a,())) fun ⟨_,⟨c,f,_,_⟩⟩ =>
bif eqL c then
 Option.bind (p83 fu ((c,f,(),()),())) fun ⟨⟨⟨h,i,⟨j,⟨k,l,_⟩,_⟩,_⟩,_,_⟩,m⟩ =>
 bif eqL h then
 Option.bind (p84_1 fu ((h,i,(j,(k,l,()),()),()),())) fun ⟨⟨⟨n,o,⟨q,⟨s,t,_⟩,_⟩,_⟩,_,_⟩,u⟩ =>
 orK (E := Unit×(((List Int)×(Int×((Bool×((Int×(Int×Unit))×Unit))×Unit)))×((Z3)×Unit)))
 (bif (m==(1:Int)) then
 bif eqL n then
 Option.bind (p84_1 fu ((n,o,(q,(s,t,()),()),()),())) fun ⟨⟨⟨w,x,⟨y,⟨z,a0,_⟩,_⟩,_⟩,_,_⟩,c0⟩ =>
 bif eqL w then
 Option.bind (p84_1 fu ((w,x,(y,(z,a0,()),()),()),())) fun ⟨⟨⟨f0,h0,⟨i0,⟨j0,k0,_⟩,_⟩,_⟩,_,_⟩,l0⟩ =>
 bif eqL f0 then
 Option.bind (p85 fu ((f0,h0,(i0,(j0,k0,()),()),()),(32:Int),())) fun ⟨⟨⟨m0,n0,⟨o0,⟨q0,s0,_⟩,_⟩,_⟩,_,_⟩,t0⟩ =>
 bif eqL m0 then
 Option.bind (p86_2 fu ((m0,n0,(o0,(q0,s0,()),()),()),(256:Int),())) fun ⟨⟨⟨u0,w0,⟨x0,⟨y0,z0,_⟩,_⟩,_⟩,_,_⟩,a1⟩ =>
 bif eqL u0 then
 bif eqL a1 then
 some (.inl ((),((u0,w0,(x0,(y0,z0,()),()),()),(m,u,c0,l0,t0,a1,(0:Int),(0:Int),(⟨#[]⟩:ByteArray),(0:Int),()),())))
 else none
 else none
 else none
 else none
 else none
 else none
 else
 bif (m==(2:Int)) then
 bif eqL n then
 Option.bind (p84_1 fu ((n,o,(q,(s,t,()),()),()),())) fun ⟨⟨⟨c1,f1,⟨h1,⟨i1,j1,_⟩,_⟩,_⟩,_,_⟩,k1⟩ =>
 bif eqL c1 then
 Option.bind (p83_1 fu ((c1,f1,(h1,(i1,j1,()),()),()),())) fun ⟨⟨⟨l1,m1,⟨n1,⟨o1,q1,_⟩,_⟩,_⟩,_,_⟩,s1⟩ =>
 bif eqL l1 then
 some (.inl ((),((l1,m1,(n1,(o1,q1,()),()),()),(m,u,(0:Int),(0:Int),(⟨#[]⟩:ByteArray),[],k1,s1,(⟨#[]⟩:ByteArray),(0:Int),()),())))
 else none
 else none
 else none
 else
 bif (m==(3:Int)) then
 bif eqL n then
 Option.bind (p84_1 fu ((n,o,(q,(s,t,()),()),()),())) fun ⟨⟨⟨t1,u1,⟨w1,⟨x1,y1,_⟩,_⟩,_⟩,_,_⟩,z1⟩ =>
 bif eqL t1 then
 Option.bind (p84_1 fu ((t1,u1,(w1,(x1,y1,()),()),()),())) fun ⟨⟨⟨a2,c2,⟨f2,⟨h2,i2,_⟩,_⟩,_⟩,_,_⟩,j2⟩ =>
 bif eqL a2 then
 Option.bind (p85 fu ((a2,c2,(f2,(h2,i2,()),()),()),(32:Int),())) fun ⟨⟨⟨k2,l2,⟨m2,⟨n2,o2,_⟩,_⟩,_⟩,_,_⟩,q2⟩ =>
 bif eqL k2 then
 Option.bind (p84_1 fu ((k2,l2,(m2,(n2,o2,()),()),()),())) fun ⟨⟨⟨s2,t2,⟨u2,⟨w2,x2,_⟩,_⟩,_⟩,_,_⟩,y2⟩ =>
 bif eqL s2 then
 some (.inl ((),((s2,t2,(u2,(w2,x2,()),()),()),(m,u,z1,j2,(⟨#[]⟩:ByteArray),[],y2,(0:Int),q2,(0:Int),()),())))
 else none
 else none
 else none
 else none
 else none
 else
 bif (m==(4:Int)) then
 bif eqL n then
 Option.bind (p85 fu ((n,o,(q,(s,t,()),()),()),(32:Int),())) fun ⟨⟨⟨z2,a3,⟨c3,⟨f3,h3,_⟩,_⟩,_⟩,_,_⟩,i3⟩ =>
 bif eqL z2 then
 some (.inl ((),((z2,a3,(c3,(f3,h3,()),()),()),(m,u,(0:Int),(0:Int),(⟨#[]⟩:ByteArray),[],(0:Int),(0:Int),i3,(0:Int),()),())))
 else none
 else none
 else
 orK (E := (Bool×Unit)×Unit)
 (bif (m==(5:Int)) then
 some (.inl ((true,()),()))
 else
 some (.inl (((m==(6:Int)),()),())))
 fun ⟨⟨j3,_⟩,_⟩ =>
 bif j3 then
 bif eqL n then
 Option.bind (p84_1 fu ((n,o,(q,(s,t,()),()),()),())) fun ⟨⟨⟨k3,l3,⟨m3,⟨n3,o3,_⟩,_⟩,_⟩,_,_⟩,q3⟩ =>
 bif eqL k3 then
 some (.inl ((),((k3,l3,(m3,(n3,o3,()),()),()),(m,u,(0:Int),(0:Int),(⟨#[]⟩:ByteArray),[],(0:Int),(0:Int),(⟨#[]⟩:ByteArray),q3,()),())))
 else none
 else none
 else
 bif eqL n then
 some (.inl ((),((n,o,(q,(s,t,()),()),()),(m,u,(0:Int),(0:Int),(⟨#[]⟩:ByteArray),[],(0:Int),(0:Int),(⟨#[]⟩:ByteArray),(0:Int),()),())))
 else none)
 fun ⟨_,⟨⟨s3,t3,⟨u3,⟨w3,x3,_⟩,_⟩,_⟩,⟨y3,z3,a4,c4,f4,h4,i4,j4,k4,l4,_⟩,_⟩⟩ =>
 orK (E := (Bool×Unit)×Unit)
 (bif eqL s3 then
 Option.bind (p87 fu ((s3,t3,(u3,(w3,x3,()),()),()),())) fun ⟨⟨⟨_,_,⟨_,⟨_,_,_⟩,_⟩,_⟩,_,_⟩,m4⟩ =>
 bif (m4 != (0:Int)) then
 some (.inl ((true,()),()))
 else
 bif eqL h4 then
 Option.bind (p88 fu ((y3,z3,a4,c4,f4,h4,i4,j4,k4,l4,()),())) fun ⟨_,n4⟩ =>
 some (.inl ((!n4,()),()))
 else none
 else none)
 fun ⟨⟨o4,_⟩,_⟩ =>
 bif o4 then
 some ((),(((0:Int),(0:Int),(0:Int),(0:Int),(⟨#[]⟩:ByteArray),[],(0:Int),(0:Int),(⟨#[]⟩:ByteArray),(0:Int),()),(161:Int),()))
 else
 bif eqL h4 then
 some ((),((y3,z3,a4,c4,f4,h4,i4,j4,k4,l4,()),(0:Int),()))
 else none
 else none
else none
def e26 (fu:Nat):Ent := ⟨26,(.cons (.hole (.sl (.int .u8))) .nil),.nil,(.tup 2 (.cons Y19 (.cons hI .nil))),p26 fu⟩
def d26 (fu:Nat):DC := (.seq (.region [opD 2 (.alloc 44 10 [vI,vU,vU,vU,vT,vS,vU,vI,vT,vU]),opD 3 (.mov (cD 0))] [[],[]] false) (.seq (.region [mvD 6 0,oqD 7 (.call 82 [(tD 6)]) (.ent (e82 fu)),mvD 4 7] [[],[0],[1,1,0,1]] false) (.seq (.region [mvD 8 4,oqD 9 (.call 83 [(tD 8)]) (.ent (e83 fu)),mvD 10 4,oqD 11 (.call 84 [(tD 10)]) (.ent (e84_1 fu)),opD 12 (.build 10 [vI,vU,vU,vU,vT,vS,vU,vI,vT,vU] [(0,(1,(tD 9))),(1,(1,(tD 11)))]),opD 5 (.alloc 44 10 [vI,vU,vU,vU,vT,vS,vU,vI,vT,vU]),onD (.store 10 (tD 5) (tD 12))] [[],[0],[],[2,1],[1,3],[],[5,4,3,0,1,2,3,4,5]] false) (.join ⟨[],.nil,[(48,176,3),(160,44,10)],(.cons Y16 (.cons Y19 .nil)),[2,4,5],[0]⟩
 (.seq (.region [fD 13 0 5,lD 14 1 13] [[],[0]] false) (.block 0 (.seq (.region [opD 16 (.bin .eql (tD 14) (cD 1)),mvD 15 16] [[],[0]] false) (.cond (.tmp 15) (.seq (.region [mvD 17 4,oqD 18 (.call 84 [(tD 17)]) (.ent (e84_1 fu)),mvD 19 4,oqD 20 (.call 84 [(tD 19)]) (.ent (e84_1 fu)),fD 21 2 5,onD (.store 1 (tD 21) (tD 18)),fD 22 3 5,onD (.store 1 (tD 22) (tD 20))] [[],[0],[],[2,1],[0,1],[4,1,3,0,1],[0,1,2,3,4,5],[6,3,5,0,1,2,3,4,5]] false) (.region [mvD 23 4,oqD 24 (.call 85 [(tD 23),(cD 32)]) (.ent (e85 fu)),mvD 25 4,oqD 26 (.call 86 [(tD 25),(cD 256)]) (.ent (e86_2 fu)),fD 27 4 5,onD (.store 1 (tD 27) (tD 24)),fD 28 5 5,onD (.store 1 (tD 28) (tD 26))] [[],[0],[],[2,1],[0,1],[4,1,3,0,1],[0,1,2,3,4,5],[6,3,5,0,1,2,3,4,5]] false)) (.seq (.region [opD 30 (.bin .eql (tD 14) (cD 2)),mvD 29 30] [[],[0]] false) (.cond (.tmp 29) (.region [mvD 31 4,oqD 32 (.call 84 [(tD 31)]) (.ent (e84_1 fu)),mvD 33 4,oqD 34 (.call 83 [(tD 33)]) (.ent (e83_1 fu)),fD 35 6 5,onD (.store 1 (tD 35) (tD 32)),fD 36 7 5,onD (.store 1 (tD 36) (tD 34))] [[],[0],[],[2,1],[0,1],[4,1,3,0,1],[0,1,2,3,4,5],[6,3,5,0,1,2,3,4,5]] false) (.seq (.region [opD 38 (.bin .eql (tD 14) (cD 3)),mvD 37 38] [[],[0]] false) (.cond (.tmp 37) (.seq (.region [mvD 39 4,oqD 40 (.call 84 [(tD 39)]) (.ent (e84_1 fu)),mvD 41 4,oqD 42 (.call 84 [(tD 41)]) (.ent (e84_1 fu)),fD 43 2 5,onD (.store 1 (tD 43) (tD 40)),fD 44 3 5,onD (.store 1 (tD 44) (tD 42))] [[],[0],[],[2,1],[0,1],[4,1,3,0,1],[0,1,2,3,4,5],[6,3,5,0,1,2,3,4,5]] false) (.region [mvD 45 4,oqD 46 (.call 85 [(tD 45),(cD 32)]) (.ent (e85 fu)),mvD 47 4,oqD 48 (.call 84 [(tD 47)]) (.ent (e84_1 fu)),fD 49 8 5,onD (.store 1 (tD 49) (tD 46)),fD 50 6 5,onD (.store 1 (tD 50) (tD 48))] [[],[0],[],[2,1],[0,1],[4,1,3,0,1],[0,1,2,3,4,5],[6,3,5,0,1,2,3,4,5]] false)) (.seq (.region [opD 52 (.bin .eql (tD 14) (cD 4)),mvD 51 52] [[],[0]] false) (.cond (.tmp 51) (.region [mvD 53 4,oqD 54 (.call 85 [(tD 53),(cD 32)]) (.ent (e85 fu)),fD 55 8 5,onD (.store 1 (tD 55) (tD 54))] [[],[0],[0,1],[2,1,1,0,1]] false) (.join ⟨[56],(.cons (.hole .bool) .nil),[],.nil,[2,4,5],[0,48,128,160]⟩
 (.seq (.region [opD 57 (.bin .eql (tD 14) (cD 5)),mvD 56 57] [[],[0]] false) (.cond (.tmp 56) .skip (.region [opD 58 (.bin .eql (tD 14) (cD 6)),mvD 56 58] [[],[0]] false)))
 (.cond (.tmp 56) (.region [mvD 59 4,oqD 60 (.call 84 [(tD 59)]) (.ent (e84_1 fu)),fD 61 9 5,onD (.store 1 (tD 61) (tD 60))] [[],[0],[0,1],[2,1,1,0,1]] false) .skip))))))))))))
 (.seq (.join ⟨[69],(.cons (.hole .bool) .nil),[],.nil,[2,5],[0,160,193]⟩
 (.region [mvD 62 4,oqD 63 (.call 87 [(tD 62)]) (.ent (e87 fu)),opD 64 (.bin .neq (tD 63) (cD 0)),mvD 65 64,ogD 66 65 false (.load true 10 (tD 5)),(⟨(some 67),(some (65,false)),(.call 88 [(tD 66)])⟩,(.ent (e88 fu))),ogD 68 65 false (.not (tD 67)),opD 69 (.pick (tD 65) (.const (.bool true)) (tD 68))] [[],[0],[1],[2,1],[3],[4,3,3],[5,3],[3,6]] false)
 (.cond (.tmp 69) (.seq (.region [opD 70 (.build 10 [vI,vU,vU,vU,vT,vS,vU,vI,vT,vU] []),onD (.store 10 (tD 2) (tD 70)),opD 3 (.mov (cD 161))] [[],[0,0],[1,0,1]] false) .ret) .skip)) (.seq (.region [opD 71 (.load true 10 (tD 5)),onD (.store 10 (tD 2) (tD 71)),opD 3 (.mov (cD 0))] [[],[0,0],[1,0,1]] false) .ret))))))
theorem g26 (fu:Nat):(e26 fu).Good Tryz.prog := Q0c Q0d Tryz.func26 fu (d26 fu) rs26 72 (l := [e82 fu,e83 fu,e84_1 fu,e84_1 fu,e84_1 fu,e85 fu,e86_2 fu,e84_1 fu,e83_1 fu,e84_1 fu,e84_1 fu,e85 fu,e84_1 fu,e85 fu,e84_1 fu,e87 fu,e88 fu]) ⟨g82 fu,g83 fu,Q1q fu,Q1q fu,Q1q fu,g85 fu,Q9j fu,Q1q fu,K9d fu,Q1q fu,Q1q fu,g85 fu,Q1q fu,g85 fu,Q1q fu,g87 fu,g88 fu,trivial⟩
def rs79:List RVx := []
def p79 (_:Nat):((List Int)×Unit)×(Bool×Unit)→Option ((((List Int)×Unit)×(Unit×Unit))×Unit) := fun ⟨⟨a,_⟩,c,_⟩ =>
bif c then
 bif eqL a then
 bif decide (a.length+List.length ([(1:Int)])≤maxLen∧(a.length+List.length ([(1:Int)])) * 1≤140737488355328) then
 bif eqL (a ++ [(1:Int)]) then
 some ((((a ++ [(1:Int)]),()),(),()),())
 else none
 else none
 else none
else
 bif eqL a then
 bif decide (a.length+List.length ([(0:Int)])≤maxLen∧(a.length+List.length ([(0:Int)])) * 1≤140737488355328) then
 bif eqL (a ++ [(0:Int)]) then
 some ((((a ++ [(0:Int)]),()),(),()),())
 else none
 else none
 else none
def e79 (fu:Nat):Ent := ⟨79,(.cons (.box 117 1 (.cons (.own .own 5 (.int .u8)) .nil)) (.cons (.hole .bool) .nil)),(.cons (.agg 1 (.cons (.own .own 5 (.int .u8)) .nil)) (.cons .dead .nil)),(.tup 0 .nil),p79 fu⟩
def d79 (_:Nat):DC := (.seq (.region [mvD 4 1] [[]] false) (.cond (.tmp 4) (.region [mvD 5 0,mvD 6 0,nD 7 6,fD 8 0 7,lD 9 1 8,oqD 10 (.bslice 5 1 1 [(.int .u8 0)] [(0,(.const (.int .u8 1)))]) (.ty (.int .u8)),oqD 11 (.app 5 1 [(.int .u8 0)] 1 (tD 9) (tD 10)) (.ty (.int .u8)),nD 12 5,fD 13 0 12,onD (.store 1 (tD 13) (tD 11))] [[],[],[1],[2],[3],[],[4,5],[0,0,1,2,3,4,5,6],[7,0,1,2,3,4,5,6],[8,6,6,0,1,2,3,4,5,6]] false) (.region [mvD 14 0,mvD 15 0,nD 16 15,fD 17 0 16,lD 18 1 17,oqD 19 (.bslice 5 1 1 [(.int .u8 0)] [(0,(.const (.int .u8 0)))]) (.ty (.int .u8)),oqD 20 (.app 5 1 [(.int .u8 0)] 1 (tD 18) (tD 19)) (.ty (.int .u8)),nD 21 14,fD 22 0 21,onD (.store 1 (tD 22) (tD 20))] [[],[],[1],[2],[3],[],[4,5],[0,0,1,2,3,4,5,6],[7,0,1,2,3,4,5,6],[8,6,6,0,1,2,3,4,5,6]] false)))
theorem g79 (fu:Nat):(e79 fu).Good Tryz.prog := Q0c Q0d Tryz.func79 fu (d79 fu) rs79 23 (l := []) trivial
def rs129:List RVx := []
def p129 (fu:Nat):((List Int)×Unit)×((Int×(ByteArray×((List Int)×(Int×(Int×Unit)))))×Unit)→Option ((((List Int)×Unit)×(Unit×Unit))×Unit) := fun ⟨⟨a,_⟩,⟨c,f,h,i,j,_⟩,_⟩ =>
bif eqL a then
 Option.bind (p74_1 fu ((a,()),c,())) fun ⟨⟨⟨k,_⟩,_,_⟩,_⟩ =>
 bif eqL k then
 Option.bind (p75 fu ((k,()),f,())) fun ⟨⟨⟨l,_⟩,_,_⟩,_⟩ =>
 bif eqL l then
 Option.bind (p76 fu ((l,()),h,())) fun ⟨⟨⟨m,_⟩,_,_⟩,_⟩ =>
 bif eqL m then
 Option.bind (p74_1 fu ((m,()),i,())) fun ⟨⟨⟨n,_⟩,_,_⟩,_⟩ =>
 bif eqL n then
 Option.bind (p74_1 fu ((n,()),j,())) fun ⟨⟨⟨o,_⟩,_,_⟩,_⟩ =>
 bif eqL o then
 some (((o,()),(),()),())
 else none
 else none
 else none
 else none
 else none
else none
def e129 (fu:Nat):Ent := ⟨129,(.cons (.box 117 1 (.cons (.own .own 5 (.int .u8)) .nil)) (.cons Y5 .nil)),(.cons (.agg 1 (.cons (.own .own 5 (.int .u8)) .nil)) (.cons .dead .nil)),(.tup 0 .nil),p129 fu⟩
def d129 (fu:Nat):DC := (.seq (.region [opD 3 (.box 49 5 (tD 1))] [[]] false) (.seq (.region [mvD 4 0,fD 5 0 3,lD 6 1 5,oqD 7 (.call 74 [(tD 4),(tD 6)]) (.ent (e74_1 fu))] [[],[],[1],[0,2]] false) (.seq (.region [mvD 8 0,fD 9 1 3,lD 10 1 9,oqD 11 (.call 75 [(tD 8),(tD 10)]) (.ent (e75 fu))] [[],[],[1],[0,2]] false) (.seq (.region [mvD 12 0,fD 13 2 3,lD 14 1 13,oqD 15 (.call 76 [(tD 12),(tD 14)]) (.ent (e76 fu))] [[],[],[1],[0,2]] false) (.seq (.region [mvD 16 0,fD 17 3 3,lD 18 1 17,oqD 19 (.call 74 [(tD 16),(tD 18)]) (.ent (e74_1 fu))] [[],[],[1],[0,2]] false) (.region [mvD 20 0,fD 21 4 3,lD 22 1 21,oqD 23 (.call 74 [(tD 20),(tD 22)]) (.ent (e74_1 fu))] [[],[],[1],[0,2]] false))))))
theorem g129 (fu:Nat):(e129 fu).Good Tryz.prog := Q0c Q0d Tryz.func129 fu (d129 fu) rs129 24 (l := [e74_1 fu,e75 fu,e76 fu,e74_1 fu,e74_1 fu]) ⟨Q1d fu,g75 fu,g76 fu,Q1d fu,Q1d fu,trivial⟩
def rs80:List RVx := []
def p80 (fu:Nat):((List Int)×Unit)×((List (D_api_Record))×Unit)→Option ((((List Int)×Unit)×(Unit×Unit))×Unit) := fun ⟨⟨a,_⟩,c,_⟩ =>
bif eqL a then
 Option.bind (p74_1 fu ((a,()),IntKind.wrap .u64 (c.length:Int),())) fun ⟨⟨⟨f,_⟩,_,_⟩,_⟩ =>
 bif eqL f then
 loopO (S := (Int×Unit)×(((List Int)×Unit)×Unit)) fu (fun ⟨⟨h,_⟩,⟨⟨i,_⟩,_⟩⟩ =>
 bif decide (h<(c.length:Int)) then
 bif decide ((0:Int)≤h∧h<(c.length:Int)) then
 bif decide (h.toNat<c.length) then
 bif eqL i then
 Option.bind (p129 fu ((i,()),((c.getD (h.toNat) (dflt T_api_Record)).1,((c.getD (h.toNat) (dflt T_api_Record)).2).1,(((c.getD (h.toNat) (dflt T_api_Record)).2).2).1,((((c.getD (h.toNat) (dflt T_api_Record)).2).2).2).1,((((c.getD (h.toNat) (dflt T_api_Record)).2).2).2).2,()),())) fun ⟨⟨⟨j,_⟩,_,_⟩,_⟩ =>
 bif eqL j then
 some (.inl ((IntKind.wrap .i64 (h+(1:Int)),()),((j,()),())))
 else none
 else none
 else none
 else none
 else
 inrO (bif eqL i then
 some (((i,()),(),()),())
 else none))
 (((0:Int),()),((f,()),()))
 else none
else none
def e80 (fu:Nat):Ent := ⟨80,(.cons (.box 117 1 (.cons (.own .own 5 (.int .u8)) .nil)) (.cons (.hole (.sl T_api_Record)) .nil)),(.cons (.agg 1 (.cons (.own .own 5 (.int .u8)) .nil)) (.cons .dead .nil)),(.tup 0 .nil),p80 fu⟩
def d80 (fu:Nat):DC := (.seq (.region [mvD 6 0,mvD 7 1,opD 8 (.len false (tD 7)),opD 9 (.conv .u64 (tD 8)),oqD 10 (.call 74 [(tD 6),(tD 9)]) (.ent (e74_1 fu))] [[],[],[1],[2],[0,3]] false) (.seq (.region [mvD 11 1,opD 12 (.len false (tD 11)),opD 13 (.mov (cD 0))] [[],[0],[]] false) (.block 0 (.loop ⟨[13],(.cons hI .nil),[(0,117,1)],(.cons (.agg 1 (.cons (.own .own 5 (.int .u8)) .nil)) .nil),[0,11,12],[1]⟩
 (.seq (.region [opD 14 (.bin .lss (tD 13) (tD 12))] [[]] false) (.seq (.cond (.tmp 14) .skip (.exit 0)) (.seq (.block 1 (.seq (.region [opD 15 (.iaddr 5 (tD 11) (tD 13)),opD 16 (.load true 5 (tD 15)),opD 5 (.alloc 49 5 [vU,vT,vS,vU,vU]),onD (.store 5 (tD 5) (tD 16))] [[],[0],[],[2,1,0,1,2]] false) (.region [mvD 17 0,opD 18 (.load true 5 (tD 5)),oqD 19 (.call 129 [(tD 17),(tD 18)]) (.ent (e129 fu))] [[],[],[0,1]] false))) (.region [opD 20 (.bin .add (tD 13) (cD 1)),mvD 13 20] [[],[0]] false))))))))
theorem g80 (fu:Nat):(e80 fu).Good Tryz.prog := Q0c Q0d Tryz.func80 fu (d80 fu) rs80 21 (l := [e74_1 fu,e129 fu]) ⟨Q1d fu,g129 fu,trivial⟩
def rs23:List RVx := [(.tmp 2)]
def p23 (fu:Nat):(Int×(Int×(Bool×((List (D_api_Record))×Unit))))×Unit→Option (Unit×(List Int)) := fun ⟨⟨a,c,f,h,_⟩,_⟩ =>
Option.bind (p73 fu (((),()),a,())) fun ⟨⟨⟨i,_⟩,_⟩,_⟩ =>
bif eqL i then
 Option.bind (p74_1 fu ((i,()),c,())) fun ⟨⟨⟨j,_⟩,_,_⟩,_⟩ =>
 bif eqL j then
 Option.bind (p79 fu ((j,()),f,())) fun ⟨⟨⟨k,_⟩,_,_⟩,_⟩ =>
 bif eqL k then
 Option.bind (p80 fu ((k,()),h,())) fun ⟨⟨⟨l,_⟩,_,_⟩,_⟩ =>
 bif eqL l then
 Option.bind (p77 fu ((l,()),())) fun ⟨_,m⟩ =>
 bif eqL m then
 some ((),m)
 else none
 else none
 else none
 else none
else none
def e23 (fu:Nat):Ent := ⟨23,(.cons Y20 .nil),.nil,(.own .own 5 (.int .u8)),p23 fu⟩
def d23 (fu:Nat):DC := (.seq (.region [opD 1 (.box 39 4 (tD 0)),opD 2 (.mov (.const vS))] [[],[]] false) (.seq (.region [opD 4 (.build 1 [vS] []),opD 5 (.box 117 1 (tD 4)),mvD 3 5] [[],[0],[1,0,1]] false) (.seq (.region [mvD 6 3,fD 7 0 1,lD 8 1 7,oqD 9 (.call 73 [(tD 6),(tD 8)]) (.ent (e73 fu))] [[],[],[1],[0,2]] false) (.seq (.region [mvD 10 3,fD 11 1 1,lD 12 1 11,oqD 13 (.call 74 [(tD 10),(tD 12)]) (.ent (e74_1 fu))] [[],[],[1],[0,2]] false) (.seq (.region [mvD 14 3,fD 15 2 1,lD 16 1 15,oqD 17 (.call 79 [(tD 14),(tD 16)]) (.ent (e79 fu))] [[],[],[1],[0,2]] false) (.seq (.region [mvD 18 3,fD 19 3 1,lD 20 1 19,oqD 21 (.call 80 [(tD 18),(tD 20)]) (.ent (e80 fu))] [[],[],[1],[0,2]] false) (.seq (.region [mvD 22 3,oqD 23 (.call 77 [(tD 22)]) (.ent (e77 fu)),mvD 2 23] [[],[0],[1,1,0,1]] false) .ret)))))))
theorem g23 (fu:Nat):(e23 fu).Good Tryz.prog := Q0c Q0d Tryz.func23 fu (d23 fu) rs23 24 (l := [e73 fu,e74_1 fu,e79 fu,e80 fu,e77 fu]) ⟨g73 fu,Q1d fu,g79 fu,g80 fu,g77 fu,trivial⟩
def rs32:List RVx := [(.cell 4 true 7),(.tmp 5)]
def p32 (fu:Nat):(Z4)×((List Int)×Unit)→Option (Unit×((Z4)×((List Int)×Unit))) := fun ⟨⟨a,c,f,h,i,j,k,_⟩,l,_⟩ =>
Option.bind (p26 fu (l,())) fun ⟨_,⟨⟨m,n,o,q,s,t,u,w,x,y,_⟩,z,_⟩⟩ =>
orK (E := Unit×((Z3)×Unit))
 (bif (z != (0:Int)) then
 some (.inl ((),(((0:Int),(0:Int),(0:Int),(0:Int),(⟨#[]⟩:ByteArray),[],(0:Int),(0:Int),(⟨#[]⟩:ByteArray),(0:Int),()),())))
 else
 bif eqL t then
 some (.inl ((),((m,n,o,q,s,t,u,w,x,y,()),())))
 else none)
 fun ⟨_,⟨⟨a0,c0,f0,h0,i0,j0,k0,l0,m0,n0,_⟩,_⟩⟩ =>
bif eqL j0 then
 Option.bind (p14 fu ((a,c,f,h,i,j,k,()),(a0,c0,f0,h0,i0,j0,k0,l0,m0,n0,()),())) fun ⟨_,⟨⟨o0,q0,s0,t0,u0,w0,x0,_⟩,⟨y0,z0,a1,c1,_⟩,_⟩⟩ =>
 bif eqL c1 then
 Option.bind (p23 fu ((y0,z0,a1,c1,()),())) fun ⟨_,f1⟩ =>
 bif eqL w0 then
 bif eqL x0 then
 bif eqL f1 then
 some ((),((o0,q0,s0,t0,u0,w0,x0,()),f1,()))
 else none
 else none
 else none
 else none
else none
def e32 (fu:Nat):Ent := ⟨32,(.cons Y6 (.cons (.hole (.sl (.int .u8))) .nil)),.nil,(.tup 2 (.cons Y14 (.cons (.own .own 5 (.int .u8)) .nil))),p32 fu⟩
def d32 (fu:Nat):DC := (.seq (.region [opD 2 (.box 29 7 (tD 0)),opD 4 (.alloc 29 7 [vT,vT,vU,vU,vS,vS,vS]),opD 5 (.mov (.const vS))] [[],[],[]] false) (.seq (.region [mvD 11 1,oqD 12 (.call 26 [(tD 11)]) (.ent (e26 fu)),mvD 10 12,opD 13 (.ext (tD 10) 0),opD 14 (.ext (tD 10) 1),opD 6 (.alloc 44 10 [vI,vU,vU,vU,vT,vS,vU,vI,vT,vU]),onD (.store 10 (tD 6) (tD 13)),mvD 7 14] [[],[0],[1],[2],[2],[],[5,3,1,0,1,2,3,5],[4,6,0,1,2,3,4,5,6]] false) (.join ⟨[],.nil,[(128,44,10)],(.cons Y19 .nil),[2,4,6],[0,16]⟩
 (.seq (.region [mvD 15 7,opD 16 (.bin .neq (tD 15) (cD 0))] [[],[0]] false) (.cond (.tmp 16) (.region [opD 17 (.build 10 [vI,vU,vU,vU,vT,vS,vU,vI,vT,vU] []),onD (.store 10 (tD 6) (tD 17))] [[],[0,0]] false) .skip))
 (.seq (.region [opD 19 (.load true 7 (tD 2)),opD 20 (.load true 10 (tD 6)),oqD 21 (.call 14 [(tD 19),(tD 20)]) (.ent (e14 fu)),mvD 18 21,opD 22 (.ext (tD 18) 0),opD 23 (.ext (tD 18) 1),opD 8 (.alloc 29 7 [vT,vT,vU,vU,vS,vS,vS]),opD 9 (.alloc 39 4 [vI,vU,vB,vS]),onD (.store 7 (tD 8) (tD 22)),onD (.store 4 (tD 9) (tD 23))] [[],[],[0,1],[2],[3],[3],[],[],[6,4,2,0,1,2,3,4,6,7],[7,5,8,0,1,2,3,4,5,6,7,8]] false) (.seq (.region [opD 24 (.load true 7 (tD 8)),opD 25 (.load true 4 (tD 9)),oqD 26 (.call 23 [(tD 25)]) (.ent (e23 fu)),onD (.store 7 (tD 4) (tD 24)),mvD 5 26] [[],[],[1],[0,2,0],[2,3,0,1,2,3]] true) .ret)))))
theorem g32 (fu:Nat):(e32 fu).Good Tryz.prog := Q0c Q0d Tryz.func32 fu (d32 fu) rs32 27 (l := [e26 fu,e14 fu,e23 fu]) ⟨g26 fu,g14 fu,g23 fu,trivial⟩
def rs90:List RVx := [(.tmp 2)]
def p90 (fu:Nat):((List Int)×(Int×((Bool×((Int×(Int×Unit))×Unit))×Unit)))×Unit→Option ((((List Int)×(Int×((Bool×((Int×(Int×Unit))×Unit))×Unit)))×(Unit×Unit))×Bool) := fun ⟨⟨a,c,⟨f,⟨h,i,_⟩,_⟩,_⟩,_⟩ =>
bif f then
 bif eqL a then
 Option.bind (p132_1 fu ((a,c,(true,(h,i,()),dflt .unit),()),(1:Int),())) fun ⟨⟨⟨j,k,⟨l,⟨m,n,_⟩,_⟩,_⟩,_,_⟩,o⟩ =>
 orK (E := Unit×(((List Int)×(Int×((Bool×((Int×(Int×Unit))×Unit))×Unit)))×Unit))
 (orK (E := (Bool×Unit)×Unit)
 (bif (((o.length):Int)==(1:Int)) then
 bif decide ((0:Int)≤0∧0<(o.length:Int)) then
 bif decide (0<o.length) then
 some (.inl ((decide ((o.getD 0 (dflt (.int .u8)))>(1:Int)),()),()))
 else none
 else none
 else
 some (.inl ((false,()),())))
 fun ⟨⟨q,_⟩,_⟩ =>
 bif q then
 bif eqL j then
 Option.bind (p135_2 fu ((j,k,(l,(m,n,()),()),()),c,(16:Int),())) fun ⟨⟨⟨s,t,⟨u,⟨w,x,_⟩,_⟩,_⟩,_,_⟩,_⟩ =>
 bif eqL s then
 some (.inl ((),((s,t,(u,(w,x,()),()),()),())))
 else none
 else none
 else
 bif eqL j then
 some (.inl ((),((j,k,(l,(m,n,()),()),()),())))
 else none)
 fun ⟨_,⟨⟨y,z,⟨a0,⟨c0,f0,_⟩,_⟩,_⟩,_⟩⟩ =>
 bif a0 then
 bif eqL y then
 some (((y,z,(true,(c0,f0,()),dflt .unit),()),(),()),false)
 else none
 else
 bif decide ((0:Int)≤0∧0<(o.length:Int)) then
 bif decide (0<o.length) then
 bif eqL y then
 some (((y,z,zR0,()),(),()),((o.getD 0 (dflt (.int .u8)))==(1:Int)))
 else none
 else none
 else none
 else none
else
 bif eqL a then
 Option.bind (p132_1 fu ((a,c,zR0,()),(1:Int),())) fun ⟨⟨⟨h0,i0,⟨j0,⟨k0,l0,_⟩,_⟩,_⟩,_,_⟩,m0⟩ =>
 orK (E := Unit×(((List Int)×(Int×((Bool×((Int×(Int×Unit))×Unit))×Unit)))×Unit))
 (orK (E := (Bool×Unit)×Unit)
 (bif (((m0.length):Int)==(1:Int)) then
 bif decide ((0:Int)≤0∧0<(m0.length:Int)) then
 bif decide (0<m0.length) then
 some (.inl ((decide ((m0.getD 0 (dflt (.int .u8)))>(1:Int)),()),()))
 else none
 else none
 else
 some (.inl ((false,()),())))
 fun ⟨⟨q,_⟩,_⟩ =>
 bif q then
 bif eqL h0 then
 Option.bind (p135_2 fu ((h0,i0,(j0,(k0,l0,()),()),()),c,(16:Int),())) fun ⟨⟨⟨n0,o0,⟨q0,⟨s0,t0,_⟩,_⟩,_⟩,_,_⟩,_⟩ =>
 bif eqL n0 then
 some (.inl ((),((n0,o0,(q0,(s0,t0,()),()),()),())))
 else none
 else none
 else
 bif eqL h0 then
 some (.inl ((),((h0,i0,(j0,(k0,l0,()),()),()),())))
 else none)
 fun ⟨_,⟨⟨y,z,⟨a0,⟨c0,f0,_⟩,_⟩,_⟩,_⟩⟩ =>
 bif a0 then
 bif eqL y then
 some (((y,z,(true,(c0,f0,()),dflt .unit),()),(),()),false)
 else none
 else
 bif decide ((0:Int)≤0∧0<(m0.length:Int)) then
 bif decide (0<m0.length) then
 bif eqL y then
 some (((y,z,zR0,()),(),()),((m0.getD 0 (dflt (.int .u8)))==(1:Int)))
 else none
 else none
 else none
 else none
def e90 (fu:Nat):Ent := ⟨90,(.cons Y17 .nil),(.cons Y16 (.cons .dead .nil)),(.hole .bool),p90 fu⟩
def d90 (fu:Nat):DC := (.seq (.region [opD 2 (.mov (.const vB))] [[]] false) (.seq (.region [mvD 5 0,nD 6 5,fD 7 1 6,lD 8 1 7,mvD 3 8] [[],[0],[1],[2],[3,0,1,2,3]] false) (.seq (.region [mvD 9 0,oqD 10 (.call 132 [(tD 9),(cD 1)]) (.ent (e132_1 fu)),mvD 4 10] [[],[0],[1,1,0,1]] false) (.join ⟨[],.nil,[(0,176,3)],(.cons Y18 .nil),[0,4],[1,117]⟩
 (.join ⟨[19],(.cons (.hole .bool) .nil),[],.nil,[0,3,4],[0,1,116,117]⟩
 (.region [mvD 11 4,opD 12 (.len false (tD 11)),opD 13 (.bin .eql (tD 12) (cD 1)),mvD 14 13,ogD 15 14 true (.mov (tD 4)),ogD 16 14 true (.iaddr 1 (tD 15) (cD 0)),ogD 17 14 true (.load false 1 (tD 16)),ogD 18 14 true (.bin .gtr (tD 17) (.const (.int .u8 1))),opD 19 (.pick (tD 14) (tD 18) (.const vB))] [[],[0],[1],[2],[3],[4,3],[5,3],[6,3],[3,7]] false)
 (.cond (.tmp 19) (.region [mvD 20 0,mvD 21 3,oqD 22 (.call 135 [(tD 20),(tD 21),(cD 16)]) (.ent (e135_2 fu))] [[],[],[0,1]] false) .skip))
 (.seq (.region [mvD 23 0,nD 24 23,fD 25 2 24,lD 26 1 25,opD 27 (.pure (.nilq 1 false) [(tD 26)]),mvD 28 27,ogD 29 28 true (.mov (tD 4)),ogD 30 28 true (.iaddr 1 (tD 29) (cD 0)),ogD 31 28 true (.load false 1 (tD 30)),ogD 32 28 true (.bin .eql (tD 31) (.const (.int .u8 1))),opD 33 (.pick (tD 28) (tD 32) (.const vB)),mvD 2 33] [[],[0],[1],[2],[3],[4],[5],[6,5],[7,5],[8,5],[5,9],[10,5,0,1,2,3,4,5,6,7,8,9,10]] false) .ret)))))
theorem g90 (fu:Nat):(e90 fu).Good Tryz.prog := Q0c Q0d Tryz.func90 fu (d90 fu) rs90 34 (l := [e132_1 fu,e135_2 fu]) ⟨X5p fu,Q9k fu,trivial⟩
def rs158:List RVx := [(.cell 4 true 5)]
def p158_2 (_:Nat):((List Int)×(Int×((Bool×((Int×(Int×Unit))×Unit))×Unit)))×((Int×(ByteArray×((List Int)×(Int×(Int×Unit)))))×Unit)→Option ((((List Int)×(Int×((Bool×((Int×(Int×Unit))×Unit))×Unit)))×(Unit×(Unit×Unit)))×(Int×(ByteArray×((List Int)×(Int×(Int×Unit)))))) := fun ⟨⟨a,c,⟨f,⟨h,i,_⟩,_⟩,_⟩,⟨j,k,l,m,n,_⟩,_⟩ =>
bif f then
 bif eqL a then
 some (((a,c,(true,(h,i,()),dflt .unit),()),(),(),()),((0:Int),(⟨#[]⟩:ByteArray),[],(0:Int),(0:Int),()))
 else none
else
 bif eqL a then
 bif eqL l then
 some (((a,c,zR0,()),(),(),()),(j,k,l,m,n,()))
 else none
 else none
def e158_2 (fu:Nat):Ent := ⟨158,(.cons Y17 (.cons Y11 .nil)),(.cons Y16 (.cons .dead (.cons .dead .nil))),Y11,p158_2 fu⟩
def d158_2 (_:Nat):DC := (.seq (.region [opD 3 (.box 49 5 (tD 1)),opD 4 (.alloc 49 5 [vU,vT,vS,vU,vU])] [[],[]] false) (.seq (.seq (.region [mvD 6 0,nD 7 6,fD 8 2 7,lD 9 1 8,opD 10 (.pure (.nilq 1 true) [(tD 9)])] [[],[0],[1],[2],[3]] false) (.cond (.tmp 10) (.seq (.region [opD 5 (.alloc 49 5 [vU,vT,vS,vU,vU])] [[]] false) (.seq (.region [opD 11 (.load true 5 (tD 5)),onD (.store 5 (tD 4) (tD 11))] [[],[0,0]] false) .ret)) .skip)) (.seq (.region [opD 12 (.load true 5 (tD 3)),onD (.store 5 (tD 4) (tD 12))] [[],[0,0]] false) .ret)))
theorem K9f (fu:Nat):(e158_2 fu).Good Tryz.prog := Q0c Q0d Tryz.func158 fu (d158_2 fu) rs158 13 (l := []) trivial
def rs136:List RVx := [(.cell 2 true 5)]
def p136_1 (fu:Nat):((List Int)×(Int×((Bool×((Int×(Int×Unit))×Unit))×Unit)))×Unit→Option ((((List Int)×(Int×((Bool×((Int×(Int×Unit))×Unit))×Unit)))×(Unit×Unit))×(Int×(ByteArray×((List Int)×(Int×(Int×Unit)))))) := fun ⟨⟨a,c,⟨f,⟨h,i,_⟩,_⟩,_⟩,_⟩ =>
bif f then
 bif eqL a then
 Option.bind (p84_1 fu ((a,c,(true,(h,i,()),dflt .unit),()),())) fun ⟨⟨⟨j,k,⟨l,⟨m,n,_⟩,_⟩,_⟩,_,_⟩,o⟩ =>
 bif eqL j then
 Option.bind (p85 fu ((j,k,(l,(m,n,()),()),()),(32:Int),())) fun ⟨⟨⟨q,s,⟨t,⟨u,w,_⟩,_⟩,_⟩,_,_⟩,x⟩ =>
 bif eqL q then
 Option.bind (p86_2 fu ((q,s,(t,(u,w,()),()),()),(256:Int),())) fun ⟨⟨⟨y,z,⟨a0,⟨c0,f0,_⟩,_⟩,_⟩,_,_⟩,h0⟩ =>
 bif eqL y then
 Option.bind (p84_1 fu ((y,z,(a0,(c0,f0,()),()),()),())) fun ⟨⟨⟨i0,j0,⟨k0,⟨l0,m0,_⟩,_⟩,_⟩,_,_⟩,n0⟩ =>
 bif eqL i0 then
 Option.bind (p84_1 fu ((i0,j0,(k0,(l0,m0,()),()),()),())) fun ⟨⟨⟨o0,q0,⟨s0,⟨t0,u0,_⟩,_⟩,_⟩,_,_⟩,w0⟩ =>
 bif eqL o0 then
 bif eqL h0 then
 Option.bind (p158_2 fu ((o0,q0,(s0,(t0,u0,()),()),()),(o,x,h0,n0,w0,()),())) fun ⟨⟨⟨x0,y0,⟨z0,⟨a1,c1,_⟩,_⟩,_⟩,_,_,_⟩,⟨f1,h1,i1,j1,k1,_⟩⟩ =>
 bif eqL x0 then
 bif eqL i1 then
 some (((x0,y0,(z0,(a1,c1,()),()),()),(),()),(f1,h1,i1,j1,k1,()))
 else none
 else none
 else none
 else none
 else none
 else none
 else none
 else none
 else none
else
 bif eqL a then
 Option.bind (p84_1 fu ((a,c,zR0,()),())) fun ⟨⟨⟨l1,m1,⟨n1,⟨o1,q1,_⟩,_⟩,_⟩,_,_⟩,s1⟩ =>
 bif eqL l1 then
 Option.bind (p85 fu ((l1,m1,(n1,(o1,q1,()),()),()),(32:Int),())) fun ⟨⟨⟨t1,u1,⟨w1,⟨x1,y1,_⟩,_⟩,_⟩,_,_⟩,z1⟩ =>
 bif eqL t1 then
 Option.bind (p86_2 fu ((t1,u1,(w1,(x1,y1,()),()),()),(256:Int),())) fun ⟨⟨⟨a2,c2,⟨f2,⟨h2,i2,_⟩,_⟩,_⟩,_,_⟩,j2⟩ =>
 bif eqL a2 then
 Option.bind (p84_1 fu ((a2,c2,(f2,(h2,i2,()),()),()),())) fun ⟨⟨⟨k2,l2,⟨m2,⟨n2,o2,_⟩,_⟩,_⟩,_,_⟩,q2⟩ =>
 bif eqL k2 then
 Option.bind (p84_1 fu ((k2,l2,(m2,(n2,o2,()),()),()),())) fun ⟨⟨⟨s2,t2,⟨u2,⟨w2,x2,_⟩,_⟩,_⟩,_,_⟩,y2⟩ =>
 bif eqL s2 then
 bif eqL j2 then
 Option.bind (p158_2 fu ((s2,t2,(u2,(w2,x2,()),()),()),(s1,z1,j2,q2,y2,()),())) fun ⟨⟨⟨z2,a3,⟨c3,⟨f3,h3,_⟩,_⟩,_⟩,_,_,_⟩,⟨i3,j3,k3,l3,m3,_⟩⟩ =>
 bif eqL z2 then
 bif eqL k3 then
 some (((z2,a3,(c3,(f3,h3,()),()),()),(),()),(i3,j3,k3,l3,m3,()))
 else none
 else none
 else none
 else none
 else none
 else none
 else none
 else none
 else none
def e136_1 (fu:Nat):Ent := ⟨136,(.cons Y17 .nil),(.cons Y16 (.cons .dead .nil)),Y11,p136_1 fu⟩
def d136_1 (fu:Nat):DC := (.seq (.region [opD 2 (.alloc 49 5 [vU,vT,vS,vU,vU])] [[]] false) (.seq (.region [mvD 3 0,mvD 4 0,oqD 5 (.call 84 [(tD 4)]) (.ent (e84_1 fu)),mvD 6 0,oqD 7 (.call 85 [(tD 6),(cD 32)]) (.ent (e85 fu)),mvD 8 0,oqD 9 (.call 86 [(tD 8),(cD 256)]) (.ent (e86_2 fu)),mvD 10 0,oqD 11 (.call 84 [(tD 10)]) (.ent (e84_1 fu)),mvD 12 0,oqD 13 (.call 84 [(tD 12)]) (.ent (e84_1 fu)),opD 14 (.build 5 [vU,vT,vS,vU,vU] [(0,(1,(tD 5))),(1,(1,(tD 7))),(2,(1,(tD 9))),(3,(1,(tD 11))),(4,(1,(tD 13)))]),oqD 15 (.call 158 [(tD 3),(tD 14)]) (.ent (e158_2 fu)),onD (.store 5 (tD 2) (tD 15))] [[],[],[1],[],[3,2],[],[5,4],[],[7,6],[],[9,8],[2,4,6,8,10],[0,11,10],[12,12,0,1,2,3,4,5,6,7,8,9,10,11,12]] false) .ret))
theorem K9g (fu:Nat):(e136_1 fu).Good Tryz.prog := Q0c Q0d Tryz.func136 fu (d136_1 fu) rs136 16 (l := [e84_1 fu,e85 fu,e86_2 fu,e84_1 fu,e84_1 fu,e158_2 fu]) ⟨Q1q fu,g85 fu,Q9j fu,Q1q fu,Q1q fu,K9f fu,trivial⟩
def rs91:List RVx := [(.tmp 4)]
def p91 (fu:Nat):((List Int)×(Int×((Bool×((Int×(Int×Unit))×Unit))×Unit)))×(Int×Unit)→Option ((((List Int)×(Int×((Bool×((Int×(Int×Unit))×Unit))×Unit)))×(Unit×Unit))×(List (D_api_Record))) := fun ⟨⟨a,c,⟨f,⟨h,i,_⟩,_⟩,_⟩,j,_⟩ =>
bif f then
 bif eqL a then
 Option.bind (p93_2 fu ((a,c,(true,(h,i,()),dflt .unit),()),j,())) fun ⟨⟨⟨k,l,⟨m,⟨n,o,_⟩,_⟩,_⟩,_,_⟩,q⟩ =>
 bif eqL k then
 loopO (S := ((List (D_api_Record))×(Int×Unit))×(((List Int)×(Int×((Bool×((Int×(Int×Unit))×Unit))×Unit)))×Unit)) fu (fun ⟨⟨s,t,_⟩,⟨⟨u,w,⟨x,⟨y,z,_⟩,_⟩,_⟩,_⟩⟩ =>
 bif decide (t<q) then
 bif eqL u then
 Option.bind (p136_1 fu ((u,w,(x,(y,z,()),()),()),())) fun ⟨⟨⟨a0,c0,⟨f0,⟨h0,i0,_⟩,_⟩,_⟩,_,_⟩,⟨j0,k0,l0,m0,n0,_⟩⟩ =>
 bif eqL l0 then
 bif eqL s then
 bif decide (s.length+List.length ([(j0,k0,l0,m0,n0)])≤maxLen∧(s.length+List.length ([(j0,k0,l0,m0,n0)])) * 64≤140737488355328) then
 bif eqL (s ++ [(j0,k0,l0,m0,n0)]) then
 bif eqL a0 then
 some (.inl (((s ++ [(j0,k0,l0,m0,n0)]),IntKind.wrap .i64 (t+(1:Int)),()),((a0,c0,(f0,(h0,i0,()),()),()),())))
 else none
 else none
 else none
 else none
 else none
 else none
 else
 inrO (bif eqL u then
 bif eqL s then
 some (((u,w,(x,(y,z,()),()),()),(),()),s)
 else none
 else none))
 (([],(0:Int),()),((k,l,(m,(n,o,()),()),()),()))
 else none
 else none
else
 bif eqL a then
 Option.bind (p93_2 fu ((a,c,zR0,()),j,())) fun ⟨⟨⟨o0,q0,⟨s0,⟨t0,u0,_⟩,_⟩,_⟩,_,_⟩,w0⟩ =>
 bif eqL o0 then
 loopO (S := ((List (D_api_Record))×(Int×Unit))×(((List Int)×(Int×((Bool×((Int×(Int×Unit))×Unit))×Unit)))×Unit)) fu (fun ⟨⟨s,t,_⟩,⟨⟨u,w,⟨x,⟨y,z,_⟩,_⟩,_⟩,_⟩⟩ =>
 bif decide (t<w0) then
 bif eqL u then
 Option.bind (p136_1 fu ((u,w,(x,(y,z,()),()),()),())) fun ⟨⟨⟨x0,y0,⟨z0,⟨a1,c1,_⟩,_⟩,_⟩,_,_⟩,⟨f1,h1,i1,j1,k1,_⟩⟩ =>
 bif eqL i1 then
 bif eqL s then
 bif decide (s.length+List.length ([(f1,h1,i1,j1,k1)])≤maxLen∧(s.length+List.length ([(f1,h1,i1,j1,k1)])) * 64≤140737488355328) then
 bif eqL (s ++ [(f1,h1,i1,j1,k1)]) then
 bif eqL x0 then
 some (.inl (((s ++ [(f1,h1,i1,j1,k1)]),IntKind.wrap .i64 (t+(1:Int)),()),((x0,y0,(z0,(a1,c1,()),()),()),())))
 else none
 else none
 else none
 else none
 else none
 else none
 else
 inrO (bif eqL u then
 bif eqL s then
 some (((u,w,(x,(y,z,()),()),()),(),()),s)
 else none
 else none))
 (([],(0:Int),()),((o0,q0,(s0,(t0,u0,()),()),()),()))
 else none
 else none
def e91 (fu:Nat):Ent := ⟨91,(.cons Y17 (.cons hI .nil)),(.cons Y16 (.cons .dead .nil)),(.own .own 49 T_api_Record),p91 fu⟩
def d91 (fu:Nat):DC := (.seq (.region [opD 4 (.mov (.const vS))] [[]] false) (.seq (.region [opD 5 (.mov (.const vS))] [[]] false) (.seq (.seq (.region [mvD 6 0,mvD 7 1,oqD 8 (.call 93 [(tD 6),(tD 7)]) (.ent (e93_2 fu)),opD 9 (.mov (cD 0))] [[],[],[0,1],[]] false) (.block 0 (.loop ⟨[5,9],(.cons (.own .own 49 T_api_Record) (.cons hI .nil)),[(0,176,3)],(.cons Y16 .nil),[0,8],[1]⟩
 (.seq (.region [opD 10 (.bin .lss (tD 9) (tD 8))] [[]] false) (.seq (.cond (.tmp 10) .skip (.exit 0)) (.seq (.block 1 (.region [mvD 11 5,mvD 12 0,oqD 13 (.call 136 [(tD 12)]) (.ent (e136_1 fu)),oqD 14 (.bslice 49 5 1 [vU,vT,vS,vU,vU] [(0,(tD 13))]) (.ty T_api_Record),oqD 15 (.app 49 5 [vU,vT,vS,vU,vU] 64 (tD 11) (tD 14)) (.ty T_api_Record),mvD 5 15] [[],[],[1],[2],[0,3,2],[4,4,0,1,2,3,4]] false)) (.region [opD 16 (.bin .add (tD 9) (cD 1)),mvD 9 16] [[],[0]] false))))))) (.seq (.region [mvD 17 5,mvD 4 17] [[],[0,0]] false) .ret))))
theorem g91 (fu:Nat):(e91 fu).Good Tryz.prog := Q0c Q0d Tryz.func91 fu (d91 fu) rs91 18 (l := [e93_2 fu,e136_1 fu]) ⟨X5o fu,K9g fu,trivial⟩
def rs28:List RVx := [(.cell 2 true 4),(.tmp 3)]
def p28 (fu:Nat):(List Int)×Unit→Option (Unit×((Int×(Int×(Bool×((List (D_api_Record))×Unit))))×(Int×Unit))) := fun ⟨a,_⟩ =>
Option.bind (p82 fu (a,())) fun ⟨_,⟨c,f,_,_⟩⟩ =>
bif eqL c then
 Option.bind (p83 fu ((c,f,(),()),())) fun ⟨⟨⟨h,i,⟨j,⟨k,l,_⟩,_⟩,_⟩,_,_⟩,m⟩ =>
 bif eqL h then
 Option.bind (p84_1 fu ((h,i,(j,(k,l,()),()),()),())) fun ⟨⟨⟨n,o,⟨q,⟨s,t,_⟩,_⟩,_⟩,_,_⟩,u⟩ =>
 bif eqL n then
 Option.bind (p90 fu ((n,o,(q,(s,t,()),()),()),())) fun ⟨⟨⟨w,x,⟨y,⟨z,a0,_⟩,_⟩,_⟩,_,_⟩,c0⟩ =>
 bif eqL w then
 Option.bind (p91 fu ((w,x,(y,(z,a0,()),()),()),(64:Int),())) fun ⟨⟨⟨f0,h0,⟨i0,⟨j0,k0,_⟩,_⟩,_⟩,_,_⟩,l0⟩ =>
 bif eqL f0 then
 Option.bind (p87 fu ((f0,h0,(i0,(j0,k0,()),()),()),())) fun ⟨⟨⟨_,_,⟨_,⟨_,_,_⟩,_⟩,_⟩,_,_⟩,m0⟩ =>
 bif (m0 != (0:Int)) then
 some ((),(((0:Int),(0:Int),false,[],()),(161:Int),()))
 else
 bif eqL l0 then
 some ((),((m,u,c0,l0,()),(0:Int),()))
 else none
 else none
 else none
 else none
 else none
else none
def e28 (fu:Nat):Ent := ⟨28,(.cons (.hole (.sl (.int .u8))) .nil),.nil,(.tup 2 (.cons Y15 (.cons hI .nil))),p28 fu⟩
def d28 (fu:Nat):DC := (.seq (.region [opD 2 (.alloc 39 4 [vI,vU,vB,vS]),opD 3 (.mov (cD 0))] [[],[]] false) (.seq (.region [mvD 6 0,oqD 7 (.call 82 [(tD 6)]) (.ent (e82 fu)),mvD 4 7] [[],[0],[1,1,0,1]] false) (.seq (.region [mvD 8 4,oqD 9 (.call 83 [(tD 8)]) (.ent (e83 fu)),mvD 10 4,oqD 11 (.call 84 [(tD 10)]) (.ent (e84_1 fu)),mvD 12 4,oqD 13 (.call 90 [(tD 12)]) (.ent (e90 fu)),mvD 14 4,oqD 15 (.call 91 [(tD 14),(cD 64)]) (.ent (e91 fu)),opD 16 (.build 4 [vI,vU,vB,vS] [(0,(1,(tD 9))),(1,(1,(tD 11))),(2,(1,(tD 13))),(3,(1,(tD 15)))]),opD 5 (.alloc 39 4 [vI,vU,vB,vS]),onD (.store 4 (tD 5) (tD 16))] [[],[0],[],[2,1],[],[4,3],[],[6,5],[1,3,5,7],[],[9,8,7,0,1,2,3,4,5,6,7,8,9]] false) (.seq (.seq (.region [mvD 17 4,oqD 18 (.call 87 [(tD 17)]) (.ent (e87 fu)),opD 19 (.bin .neq (tD 18) (cD 0))] [[],[0],[1]] false) (.cond (.tmp 19) (.seq (.region [opD 20 (.build 4 [vI,vU,vB,vS] []),onD (.store 4 (tD 2) (tD 20)),opD 3 (.mov (cD 161))] [[],[0,0],[1,0,1]] false) .ret) .skip)) (.seq (.region [opD 21 (.load true 4 (tD 5)),onD (.store 4 (tD 2) (tD 21)),opD 3 (.mov (cD 0))] [[],[0,0],[1,0,1]] false) .ret)))))
theorem g28 (fu:Nat):(e28 fu).Good Tryz.prog := Q0c Q0d Tryz.func28 fu (d28 fu) rs28 22 (l := [e82 fu,e83 fu,e84_1 fu,e90 fu,e91 fu,e87 fu]) ⟨g82 fu,g83 fu,Q1q fu,g90 fu,g91 fu,g87 fu,trivial⟩
def rs70:List RVx := [(.tmp 4)]
def p70 (fu:Nat):(List (D_api_Record))×((List (D_api_Record))×Unit)→Option (Unit×Bool) := fun ⟨a,c,_⟩ =>
bif ((a.length:Int) != (c.length:Int)) then
 some ((),false)
else
 loopO (S := (Int×Unit)×Unit) fu (fun ⟨⟨f,_⟩,_⟩ =>
 bif decide (f<(a.length:Int)) then
 bif decide ((0:Int)≤f∧f<(a.length:Int)) then
 bif decide (f.toNat<a.length) then
 bif decide ((0:Int)≤f∧f<(c.length:Int)) then
 bif decide (f.toNat<c.length) then
 bif (((a.getD (f.toNat) (dflt T_api_Record)).1) != ((c.getD (f.toNat) (dflt T_api_Record)).1)) then
 inrO (some ((),false))
 else
 bif decide ((0:Int)≤f∧f<(a.length:Int)) then
 bif decide (f.toNat<a.length) then
 bif decide ((0:Int)≤f∧f<(c.length:Int)) then
 bif decide (f.toNat<c.length) then
 bif !(ByteArray.toList (((a.getD (f.toNat) (dflt T_api_Record)).2).1)==ByteArray.toList (((c.getD (f.toNat) (dflt T_api_Record)).2).1)) then
 inrO (some ((),false))
 else
 bif decide ((0:Int)≤f∧f<(a.length:Int)) then
 bif decide (f.toNat<a.length) then
 bif decide ((0:Int)≤f∧f<(c.length:Int)) then
 bif decide (f.toNat<c.length) then
 bif !(ByteArray.toList (strOfNums ((((a.getD (f.toNat) (dflt T_api_Record)).2).2).1))==ByteArray.toList (strOfNums ((((c.getD (f.toNat) (dflt T_api_Record)).2).2).1))) then
 inrO (some ((),false))
 else
 bif decide ((0:Int)≤f∧f<(a.length:Int)) then
 bif decide (f.toNat<a.length) then
 bif decide ((0:Int)≤f∧f<(c.length:Int)) then
 bif decide (f.toNat<c.length) then
 bif ((((((a.getD (f.toNat) (dflt T_api_Record)).2).2).2).1) != (((((c.getD (f.toNat) (dflt T_api_Record)).2).2).2).1)) then
 inrO (some ((),false))
 else
 bif decide ((0:Int)≤f∧f<(a.length:Int)) then
 bif decide (f.toNat<a.length) then
 bif decide ((0:Int)≤f∧f<(c.length:Int)) then
 bif decide (f.toNat<c.length) then
 bif ((((((a.getD (f.toNat) (dflt T_api_Record)).2).2).2).2) != (((((c.getD (f.toNat) (dflt T_api_Record)).2).2).2).2)) then
 inrO (some ((),false))
 else
 some (.inl ((IntKind.wrap .i64 (f+(1:Int)),()),()))
 else none
 else none
 else none
 else none
 else none
 else none
 else none
 else none
 else none
 else none
 else none
 else none
 else none
 else none
 else none
 else none
 else none
 else none
 else none
 else none
 else
 inrO (some ((),true)))
 (((0:Int),()),())
def e70 (fu:Nat):Ent := ⟨70,(.cons (.hole (.sl T_api_Record)) (.cons (.hole (.sl T_api_Record)) .nil)),.nil,(.hole .bool),p70 fu⟩
def d70 (_:Nat):DC := (.seq (.region [opD 4 (.mov (.const vB))] [[]] false) (.seq (.seq (.region [mvD 6 0,opD 7 (.len false (tD 6)),mvD 8 1,opD 9 (.len false (tD 8)),opD 10 (.bin .neq (tD 7) (tD 9))] [[],[0],[],[2],[1,3]] false) (.cond (.tmp 10) (.seq (.region [opD 4 (.mov (.const vB))] [[]] false) .ret) .skip)) (.seq (.seq (.region [opD 5 (.mov (cD 0))] [[]] false) (.block 0 (.loop ⟨[5],(.cons hI .nil),[],.nil,[0,1],[]⟩
 (.seq (.seq (.region [mvD 11 5,mvD 12 0,opD 13 (.len false (tD 12)),opD 14 (.bin .lss (tD 11) (tD 13))] [[],[],[1],[0,2]] false) (.cond (.tmp 14) .skip (.exit 0))) (.seq (.block 1 (.seq (.region [mvD 17 0,mvD 18 5,opD 19 (.iaddr 5 (tD 17) (tD 18)),fD 20 0 19,lD 21 1 20,mvD 22 1,mvD 23 5,opD 24 (.iaddr 5 (tD 22) (tD 23)),fD 25 0 24,lD 26 1 25,opD 27 (.bin .neq (tD 21) (tD 26)),mvD 28 27,ogD 29 28 false (.mov (tD 0)),ogD 30 28 false (.mov (tD 5)),ogD 31 28 false (.iaddr 5 (tD 29) (tD 30)),ogD 32 28 false (.faddr 1 (tD 31)),ogD 33 28 false (.load false 1 (tD 32)),ogD 34 28 false (.mov (tD 1)),ogD 35 28 false (.mov (tD 5)),ogD 36 28 false (.iaddr 5 (tD 34) (tD 35)),ogD 37 28 false (.faddr 1 (tD 36)),ogD 38 28 false (.load false 1 (tD 37)),ogD 39 28 false (.bin .neq (tD 33) (tD 38)),opD 40 (.pick (tD 28) (.const (.bool true)) (tD 39)),mvD 41 40,ogD 42 41 false (.mov (tD 0)),ogD 43 41 false (.mov (tD 5)),ogD 44 41 false (.iaddr 5 (tD 42) (tD 43)),ogD 45 41 false (.faddr 2 (tD 44)),ogD 46 41 false (.load false 1 (tD 45)),ogD 47 41 false (.b2s (tD 46)),ogD 48 41 false (.mov (tD 1)),ogD 49 41 false (.mov (tD 5)),ogD 50 41 false (.iaddr 5 (tD 48) (tD 49)),ogD 51 41 false (.faddr 2 (tD 50)),ogD 52 41 false (.load false 1 (tD 51)),ogD 53 41 false (.b2s (tD 52)),ogD 54 41 false (.bin .neq (tD 47) (tD 53)),opD 55 (.pick (tD 41) (.const (.bool true)) (tD 54)),mvD 56 55,ogD 57 56 false (.mov (tD 0)),ogD 58 56 false (.mov (tD 5)),ogD 59 56 false (.iaddr 5 (tD 57) (tD 58)),ogD 60 56 false (.faddr 3 (tD 59)),ogD 61 56 false (.load false 1 (tD 60)),ogD 62 56 false (.mov (tD 1)),ogD 63 56 false (.mov (tD 5)),ogD 64 56 false (.iaddr 5 (tD 62) (tD 63)),ogD 65 56 false (.faddr 3 (tD 64)),ogD 66 56 false (.load false 1 (tD 65)),ogD 67 56 false (.bin .neq (tD 61) (tD 66)),opD 68 (.pick (tD 56) (.const (.bool true)) (tD 67)),mvD 69 68,ogD 70 69 false (.mov (tD 0)),ogD 71 69 false (.mov (tD 5)),ogD 72 69 false (.iaddr 5 (tD 70) (tD 71)),ogD 73 69 false (.faddr 4 (tD 72)),ogD 74 69 false (.load false 1 (tD 73)),ogD 75 69 false (.mov (tD 1)),ogD 76 69 false (.mov (tD 5)),ogD 77 69 false (.iaddr 5 (tD 75) (tD 76)),ogD 78 69 false (.faddr 4 (tD 77)),ogD 79 69 false (.load false 1 (tD 78)),ogD 80 69 false (.bin .neq (tD 74) (tD 79)),opD 81 (.pick (tD 69) (.const (.bool true)) (tD 80))] [[],[],[0,1],[2],[3],[],[],[5,6],[7],[8],[4,9],[10],[11],[11],[12,13,11],[14,11],[15,11],[11],[11],[17,18,11],[19,11],[20,11],[16,21,11],[11,22],[23,11],[24],[24],[25,26,24],[27,24],[28,24],[29,24],[24],[24],[31,32,24],[33,24],[34,24],[35,24],[30,36,24],[24,37],[38,24],[39],[39],[40,41,39],[42,39],[43,39],[39],[39],[45,46,39],[47,39],[48,39],[44,49,39],[39,50],[51,39],[52],[52],[53,54,52],[55,52],[56,52],[52],[52],[58,59,52],[60,52],[61,52],[57,62,52],[52,63]] true) (.cond (.tmp 81) (.seq (.region [opD 4 (.mov (.const vB))] [[]] false) .ret) .skip))) (.region [mvD 15 5,opD 16 (.bin .add (tD 15) (cD 1)),mvD 5 16] [[],[0],[1,0,1]] false)))))) (.seq (.region [opD 4 (.mov (.const (.bool true)))] [[]] false) .ret))))
theorem g70 (fu:Nat):(e70 fu).Good Tryz.prog := Q0c Q0d Tryz.func70 fu (d70 fu) rs70 82 (l := []) trivial
def rs71:List RVx := [(.tmp 4)]
def p71 (fu:Nat):(List (D_api_Producer))×((List (D_api_Producer))×Unit)→Option (Unit×Bool) := fun ⟨a,c,_⟩ =>
bif ((a.length:Int) != (c.length:Int)) then
 some ((),false)
else
 loopO (S := (Int×Unit)×Unit) fu (fun ⟨⟨f,_⟩,_⟩ =>
 bif decide (f<(a.length:Int)) then
 bif decide ((0:Int)≤f∧f<(a.length:Int)) then
 bif decide (f.toNat<a.length) then
 bif decide ((0:Int)≤f∧f<(c.length:Int)) then
 bif decide (f.toNat<c.length) then
 bif !(((a.getD (f.toNat) (dflt T_api_Producer)).1)==((c.getD (f.toNat) (dflt T_api_Producer)).1) && ((((a.getD (f.toNat) (dflt T_api_Producer)).2).1)==(((c.getD (f.toNat) (dflt T_api_Producer)).2).1) && (((((a.getD (f.toNat) (dflt T_api_Producer)).2).2).1)==((((c.getD (f.toNat) (dflt T_api_Producer)).2).2).1) && (((((a.getD (f.toNat) (dflt T_api_Producer)).2).2).2)==((((c.getD (f.toNat) (dflt T_api_Producer)).2).2).2) && true)))) then
 inrO (some ((),false))
 else
 some (.inl ((IntKind.wrap .i64 (f+(1:Int)),()),()))
 else none
 else none
 else none
 else none
 else
 inrO (some ((),true)))
 (((0:Int),()),())
def e71 (fu:Nat):Ent := ⟨71,(.cons (.hole (.sl T_api_Producer)) (.cons (.hole (.sl T_api_Producer)) .nil)),.nil,(.hole .bool),p71 fu⟩
def d71 (_:Nat):DC := (.seq (.region [opD 4 (.mov (.const vB))] [[]] false) (.seq (.seq (.region [mvD 6 0,opD 7 (.len false (tD 6)),mvD 8 1,opD 9 (.len false (tD 8)),opD 10 (.bin .neq (tD 7) (tD 9))] [[],[0],[],[2],[1,3]] false) (.cond (.tmp 10) (.seq (.region [opD 4 (.mov (.const vB))] [[]] false) .ret) .skip)) (.seq (.seq (.region [opD 5 (.mov (cD 0))] [[]] false) (.block 0 (.loop ⟨[5],(.cons hI .nil),[],.nil,[0,1],[]⟩
 (.seq (.seq (.region [mvD 11 5,mvD 12 0,opD 13 (.len false (tD 12)),opD 14 (.bin .lss (tD 11) (tD 13))] [[],[],[1],[0,2]] false) (.cond (.tmp 14) .skip (.exit 0))) (.seq (.block 1 (.seq (.region [mvD 17 0,mvD 18 5,opD 19 (.iaddr 4 (tD 17) (tD 18)),opD 20 (.load true 4 (tD 19)),mvD 21 1,mvD 22 5,opD 23 (.iaddr 4 (tD 21) (tD 22)),opD 24 (.load true 4 (tD 23)),opD 25 (.seq true [.int,.int,.bool,.int] (tD 20) (tD 24))] [[],[],[0,1],[2],[],[],[4,5],[6],[3,7]] true) (.cond (.tmp 25) (.seq (.region [opD 4 (.mov (.const vB))] [[]] false) .ret) .skip))) (.region [mvD 15 5,opD 16 (.bin .add (tD 15) (cD 1)),mvD 5 16] [[],[0],[1,0,1]] false)))))) (.seq (.region [opD 4 (.mov (.const (.bool true)))] [[]] false) .ret))))
theorem g71 (fu:Nat):(e71 fu).Good Tryz.prog := Q0c Q0d Tryz.func71 fu (d71 fu) rs71 26 (l := []) trivial
def rs72:List RVx := [(.tmp 4)]
def p72 (fu:Nat):(List (D_runtime_errorAddressString))×((List (D_runtime_errorAddressString))×Unit)→Option (Unit×Bool) := fun ⟨a,c,_⟩ =>
bif ((a.length:Int) != (c.length:Int)) then
 some ((),false)
else
 loopO (S := (Int×Unit)×Unit) fu (fun ⟨⟨f,_⟩,_⟩ =>
 bif decide (f<(a.length:Int)) then
 bif decide ((0:Int)≤f∧f<(a.length:Int)) then
 bif decide (f.toNat<a.length) then
 bif decide ((0:Int)≤f∧f<(c.length:Int)) then
 bif decide (f.toNat<c.length) then
 bif !(((a.getD (f.toNat) (dflt T_runtime_errorAddressString)).1)==((c.getD (f.toNat) (dflt T_runtime_errorAddressString)).1) && (((a.getD (f.toNat) (dflt T_runtime_errorAddressString)).2)==((c.getD (f.toNat) (dflt T_runtime_errorAddressString)).2) && true)) then
 inrO (some ((),false))
 else
 some (.inl ((IntKind.wrap .i64 (f+(1:Int)),()),()))
 else none
 else none
 else none
 else none
 else
 inrO (some ((),true)))
 (((0:Int),()),())
def e72 (fu:Nat):Ent := ⟨72,(.cons (.hole (.sl T_runtime_errorAddressString)) (.cons (.hole (.sl T_runtime_errorAddressString)) .nil)),.nil,(.hole .bool),p72 fu⟩
def d72 (_:Nat):DC := (.seq (.region [opD 4 (.mov (.const vB))] [[]] false) (.seq (.seq (.region [mvD 6 0,opD 7 (.len false (tD 6)),mvD 8 1,opD 9 (.len false (tD 8)),opD 10 (.bin .neq (tD 7) (tD 9))] [[],[0],[],[2],[1,3]] false) (.cond (.tmp 10) (.seq (.region [opD 4 (.mov (.const vB))] [[]] false) .ret) .skip)) (.seq (.seq (.region [opD 5 (.mov (cD 0))] [[]] false) (.block 0 (.loop ⟨[5],(.cons hI .nil),[],.nil,[0,1],[]⟩
 (.seq (.seq (.region [mvD 11 5,mvD 12 0,opD 13 (.len false (tD 12)),opD 14 (.bin .lss (tD 11) (tD 13))] [[],[],[1],[0,2]] false) (.cond (.tmp 14) .skip (.exit 0))) (.seq (.block 1 (.seq (.region [mvD 17 0,mvD 18 5,opD 19 (.iaddr 2 (tD 17) (tD 18)),opD 20 (.load true 2 (tD 19)),mvD 21 1,mvD 22 5,opD 23 (.iaddr 2 (tD 21) (tD 22)),opD 24 (.load true 2 (tD 23)),opD 25 (.seq true [.str,.int] (tD 20) (tD 24))] [[],[],[0,1],[2],[],[],[4,5],[6],[3,7]] true) (.cond (.tmp 25) (.seq (.region [opD 4 (.mov (.const vB))] [[]] false) .ret) .skip))) (.region [mvD 15 5,opD 16 (.bin .add (tD 15) (cD 1)),mvD 5 16] [[],[0],[1,0,1]] false)))))) (.seq (.region [opD 4 (.mov (.const (.bool true)))] [[]] false) .ret))))
theorem g72 (fu:Nat):(e72 fu).Good Tryz.prog := Q0c Q0d Tryz.func72 fu (d72 fu) rs72 26 (l := []) trivial
def rs16:List RVx := [(.tmp 4)]
def p16 (fu:Nat):(Z4)×((Z4)×Unit)→Option (Unit×Bool) := fun ⟨⟨a,c,f,h,i,j,k,_⟩,⟨l,m,n,o,q,s,t,_⟩,_⟩ =>
Option.bind (p70 fu (i,q,())) fun ⟨_,u⟩ =>
Option.bind (p71 fu (j,s,())) fun ⟨_,w⟩ =>
Option.bind (p72 fu (k,t,())) fun ⟨_,x⟩ =>
bif u then
 bif w then
 bif x then
 bif (a==l && (c==m && true)) then
 bif (f==n) then
 some ((),(h==o))
 else
 some ((),false)
 else
 some ((),false)
 else
 some ((),false)
 else
 some ((),false)
else
 some ((),false)
def e16 (fu:Nat):Ent := ⟨16,(.cons Y6 (.cons Y6 .nil)),.nil,(.hole .bool),p16 fu⟩
def d16 (fu:Nat):DC := (.seq (.region [opD 2 (.box 29 7 (tD 0)),opD 3 (.box 29 7 (tD 1)),opD 4 (.mov (.const vB))] [[],[],[]] false) (.seq (.region [fD 8 4 2,lD 9 1 8,fD 10 4 3,lD 11 1 10,oqD 12 (.call 70 [(tD 9),(tD 11)]) (.ent (e70 fu)),mvD 5 12] [[],[0],[],[2],[1,3],[4,4,0,1,2,3,4]] false) (.seq (.region [fD 13 5 2,lD 14 1 13,fD 15 5 3,lD 16 1 15,oqD 17 (.call 71 [(tD 14),(tD 16)]) (.ent (e71 fu)),mvD 6 17] [[],[0],[],[2],[1,3],[4,4,0,1,2,3,4]] false) (.seq (.region [fD 18 6 2,lD 19 1 18,fD 20 6 3,lD 21 1 20,oqD 22 (.call 72 [(tD 19),(tD 21)]) (.ent (e72 fu)),mvD 7 22] [[],[0],[],[2],[1,3],[4,4,0,1,2,3,4]] false) (.seq (.region [mvD 23 5,mvD 24 23,ogD 25 24 true (.mov (tD 6)),opD 26 (.pick (tD 24) (tD 25) (.const vB)),mvD 27 26,ogD 28 27 true (.mov (tD 7)),opD 29 (.pick (tD 27) (tD 28) (.const vB)),mvD 30 29,ogD 31 30 true (.faddr 0 (tD 2)),ogD 32 30 true (.load true 2 (tD 31)),ogD 33 30 true (.faddr 0 (tD 3)),ogD 34 30 true (.load true 2 (tD 33)),ogD 35 30 true (.seq false [.str,.str] (tD 32) (tD 34)),opD 36 (.pick (tD 30) (tD 35) (.const vB)),mvD 37 36,ogD 38 37 true (.faddr 2 (tD 2)),ogD 39 37 true (.load false 1 (tD 38)),ogD 40 37 true (.faddr 2 (tD 3)),ogD 41 37 true (.load false 1 (tD 40)),ogD 42 37 true (.bin .eql (tD 39) (tD 41)),opD 43 (.pick (tD 37) (tD 42) (.const vB)),mvD 44 43,ogD 45 44 true (.faddr 3 (tD 2)),ogD 46 44 true (.load false 1 (tD 45)),ogD 47 44 true (.faddr 3 (tD 3)),ogD 48 44 true (.load false 1 (tD 47)),ogD 49 44 true (.bin .eql (tD 46) (tD 48)),opD 50 (.pick (tD 44) (tD 49) (.const vB)),mvD 4 50] [[],[0],[1],[1,2],[3,1],[4],[4,5],[6,4],[7],[8,7],[7],[10,7],[9,11,7],[7,12],[13,7],[14],[15,14],[14],[17,14],[16,18,14],[14,19],[20,14],[21],[22,21],[21],[24,21],[23,25,21],[21,26],[27,21,0,1,2,3,4,5,6,7,8,9,10,11,12,13,14,15,16,17,18,19,20,21,22,23,24,25,26,27]] false) .ret)))))
theorem g16 (fu:Nat):(e16 fu).Good Tryz.prog := Q0c Q0d Tryz.func16 fu (d16 fu) rs16 51 (l := [e70 fu,e71 fu,e72 fu]) ⟨g70 fu,g71 fu,g72 fu,trivial⟩
def rs17:List RVx := [(.tmp 4)]
def p17 (fu:Nat):(Int×(Int×(Bool×((List (D_api_Record))×Unit))))×((Int×(Int×(Bool×((List (D_api_Record))×Unit))))×Unit)→Option (Unit×Bool) := fun ⟨⟨a,c,f,h,_⟩,⟨i,j,k,l,_⟩,_⟩ =>
Option.bind (p70 fu (h,l,())) fun ⟨_,m⟩ =>
bif m then
 bif (a==i) then
 bif (c==j) then
 some ((),f==k)
 else
 some ((),false)
 else
 some ((),false)
else
 some ((),false)
def e17 (fu:Nat):Ent := ⟨17,(.cons Y20 (.cons Y20 .nil)),.nil,(.hole .bool),p17 fu⟩
def d17 (fu:Nat):DC := (.seq (.region [opD 2 (.box 39 4 (tD 0)),opD 3 (.box 39 4 (tD 1)),opD 4 (.mov (.const vB))] [[],[],[]] false) (.seq (.region [fD 6 3 2,lD 7 1 6,fD 8 3 3,lD 9 1 8,oqD 10 (.call 70 [(tD 7),(tD 9)]) (.ent (e70 fu)),mvD 5 10] [[],[0],[],[2],[1,3],[4,4,0,1,2,3,4]] false) (.seq (.region [mvD 11 5,mvD 12 11,ogD 13 12 true (.faddr 0 (tD 2)),ogD 14 12 true (.load false 1 (tD 13)),ogD 15 12 true (.faddr 0 (tD 3)),ogD 16 12 true (.load false 1 (tD 15)),ogD 17 12 true (.bin .eql (tD 14) (tD 16)),opD 18 (.pick (tD 12) (tD 17) (.const vB)),mvD 19 18,ogD 20 19 true (.faddr 1 (tD 2)),ogD 21 19 true (.load false 1 (tD 20)),ogD 22 19 true (.faddr 1 (tD 3)),ogD 23 19 true (.load false 1 (tD 22)),ogD 24 19 true (.bin .eql (tD 21) (tD 23)),opD 25 (.pick (tD 19) (tD 24) (.const vB)),mvD 26 25,ogD 27 26 true (.faddr 2 (tD 2)),ogD 28 26 true (.load false 1 (tD 27)),ogD 29 26 true (.faddr 2 (tD 3)),ogD 30 26 true (.load false 1 (tD 29)),ogD 31 26 true (.beq false (tD 28) (tD 30)),opD 32 (.pick (tD 26) (tD 31) (.const vB)),mvD 4 32] [[],[0],[1],[2,1],[1],[4,1],[3,5,1],[1,6],[7,1],[8],[9,8],[8],[11,8],[10,12,8],[8,13],[14,8],[15],[16,15],[15],[18,15],[17,19,15],[15,20],[21,15,0,1,2,3,4,5,6,7,8,9,10,11,12,13,14,15,16,17,18,19,20,21]] false) .ret)))
theorem g17 (fu:Nat):(e17 fu).Good Tryz.prog := Q0c Q0d Tryz.func17 fu (d17 fu) rs17 33 (l := [e70 fu]) ⟨g70 fu,trivial⟩
def rs8:List RVx := [(.tmp 6)]
def p8 (fu:Nat):(Z4)×((List (D_api_PartCommand))×((List Int)×Unit))→Option (Unit×Bool) := fun ⟨⟨a,c,f,h,i,j,k,_⟩,l,m,_⟩ =>
Option.bind (p9 fu ()) fun ⟨_,n⟩ =>
Option.bind (p10 fu ((a,c,f,h,i,j,k,()),())) fun ⟨_,o⟩ =>
bif (o != (0:Int)) then
 some ((),n)
else
 loopO (S := (Int×Unit)×((Z4)×Unit)) fu (fun ⟨⟨q,_⟩,⟨⟨s,t,u,w,x,y,z,_⟩,_⟩⟩ =>
 bif decide (q<(l.length:Int)) then
 bif decide ((0:Int)≤q∧q<(l.length:Int)) then
 bif decide (q.toNat<l.length) then
 Option.bind (p14 fu ((s,t,u,w,x,y,z,()),((l.getD (q.toNat) (dflt T_api_PartCommand)).1,((l.getD (q.toNat) (dflt T_api_PartCommand)).2).1,(((l.getD (q.toNat) (dflt T_api_PartCommand)).2).2).1,((((l.getD (q.toNat) (dflt T_api_PartCommand)).2).2).2).1,(((((l.getD (q.toNat) (dflt T_api_PartCommand)).2).2).2).2).1,((((((l.getD (q.toNat) (dflt T_api_PartCommand)).2).2).2).2).2).1,(((((((l.getD (q.toNat) (dflt T_api_PartCommand)).2).2).2).2).2).2).1,((((((((l.getD (q.toNat) (dflt T_api_PartCommand)).2).2).2).2).2).2).2).1,(((((((((l.getD (q.toNat) (dflt T_api_PartCommand)).2).2).2).2).2).2).2).2).1,(((((((((l.getD (q.toNat) (dflt T_api_PartCommand)).2).2).2).2).2).2).2).2).2,()),())) fun ⟨_,⟨⟨a0,c0,f0,h0,i0,j0,k0,_⟩,⟨l0,m0,n0,o0,_⟩,_⟩⟩ =>
 bif decide ((0:Int)≤q∧q<(l.length:Int)) then
 bif decide (q.toNat<l.length) then
 Option.bind (p21 fu (((l.getD (q.toNat) (dflt T_api_PartCommand)).1,((l.getD (q.toNat) (dflt T_api_PartCommand)).2).1,(((l.getD (q.toNat) (dflt T_api_PartCommand)).2).2).1,((((l.getD (q.toNat) (dflt T_api_PartCommand)).2).2).2).1,(((((l.getD (q.toNat) (dflt T_api_PartCommand)).2).2).2).2).1,((((((l.getD (q.toNat) (dflt T_api_PartCommand)).2).2).2).2).2).1,(((((((l.getD (q.toNat) (dflt T_api_PartCommand)).2).2).2).2).2).2).1,((((((((l.getD (q.toNat) (dflt T_api_PartCommand)).2).2).2).2).2).2).2).1,(((((((((l.getD (q.toNat) (dflt T_api_PartCommand)).2).2).2).2).2).2).2).2).1,(((((((((l.getD (q.toNat) (dflt T_api_PartCommand)).2).2).2).2).2).2).2).2).2,()),())) fun ⟨_,q0⟩ =>
 bif eqL q0 then
 Option.bind (p32 fu ((s,t,u,w,x,y,z,()),q0,())) fun ⟨_,⟨⟨s0,t0,u0,w0,x0,y0,z0,_⟩,a1,_⟩⟩ =>
 bif eqL a1 then
 Option.bind (p28 fu (a1,())) fun ⟨_,⟨⟨c1,f1,h1,i1,_⟩,j1,_⟩⟩ =>
 bif eqL q0 then
 Option.bind (p26 fu (q0,())) fun ⟨_,⟨⟨_,_,_,_,_,_,_,_,_,_,_⟩,k1,_⟩⟩ =>
 bif eqL j0 then
 bif eqL k0 then
 bif eqL y0 then
 bif eqL z0 then
 Option.bind (p16 fu ((a0,c0,f0,h0,i0,j0,k0,()),(s0,t0,u0,w0,x0,y0,z0,()),())) fun ⟨_,l1⟩ =>
 bif eqL o0 then
 bif eqL i1 then
 Option.bind (p17 fu ((l0,m0,n0,o0,()),(c1,f1,h1,i1,()),())) fun ⟨_,m1⟩ =>
 bif !l1 then
 inrO (some ((),false))
 else
 bif (j1 != (0:Int)) then
 inrO (some ((),false))
 else
 bif (k1==(0:Int)) then
 bif !m1 then
 inrO (some ((),false))
 else
 bif (k1 != (0:Int)) then
 bif (l0 != (161:Int)) then
 inrO (some ((),false))
 else
 bif (c1 != (161:Int)) then
 inrO (some ((),false))
 else
 bif eqL j0 then
 bif eqL k0 then
 some (.inl ((IntKind.wrap .i64 (q+(1:Int)),()),((a0,c0,f0,h0,i0,j0,k0,()),())))
 else none
 else none
 else
 bif eqL j0 then
 bif eqL k0 then
 some (.inl ((IntKind.wrap .i64 (q+(1:Int)),()),((a0,c0,f0,h0,i0,j0,k0,()),())))
 else none
 else none
 else
 bif (k1 != (0:Int)) then
 bif (l0 != (161:Int)) then
 inrO (some ((),false))
 else
 bif (c1 != (161:Int)) then
 inrO (some ((),false))
 else
 bif eqL j0 then
 bif eqL k0 then
 some (.inl ((IntKind.wrap .i64 (q+(1:Int)),()),((a0,c0,f0,h0,i0,j0,k0,()),())))
 else none
 else none
 else
 bif eqL j0 then
 bif eqL k0 then
 some (.inl ((IntKind.wrap .i64 (q+(1:Int)),()),((a0,c0,f0,h0,i0,j0,k0,()),())))
 else none
 else none
 else none
 else none
 else none
 else none
 else none
 else none
 else none
 else none
 else none
 else none
 else none
 else none
 else none
 else
 inrO (Option.bind (p26 fu (m,())) fun ⟨_,⟨⟨_,_,_,_,_,_,_,_,_,_,_⟩,n1,_⟩⟩ =>
 Option.bind (p32 fu ((s,t,u,w,x,y,z,()),m,())) fun ⟨_,⟨⟨o1,q1,s1,t1,u1,w1,x1,_⟩,_,_⟩⟩ =>
 bif n then
 bif (n1==(0:Int)) then
 some ((),true)
 else
 bif eqL w1 then
 bif eqL x1 then
 Option.bind (p16 fu ((o1,q1,s1,t1,u1,w1,x1,()),(s,t,u,w,x,y,z,()),())) fun ⟨_,y1⟩ =>
 some ((),y1)
 else none
 else none
 else
 some ((),false)))
 (((0:Int),()),((a,c,f,h,i,j,k,()),()))
def e8 (fu:Nat):Ent := ⟨8,(.cons Y6 (.cons (.hole (.sl T_api_PartCommand)) (.cons (.hole (.sl (.int .u8))) .nil))),.nil,(.hole .bool),p8 fu⟩
def d8 (fu:Nat):DC := (.seq (.region [opD 3 (.box 29 7 (tD 0)),opD 6 (.mov (.const vB))] [[],[]] false) (.seq (.region [oqD 24 (.call 9 []) (.ent (e9 fu)),mvD 7 24] [[],[0,0,0]] false) (.seq (.seq (.region [opD 25 (.load true 7 (tD 3)),oqD 26 (.call 10 [(tD 25)]) (.ent (e10 fu)),opD 27 (.bin .neq (tD 26) (cD 0))] [[],[0],[1]] false) (.cond (.tmp 27) (.seq (.region [mvD 28 7,mvD 6 28] [[],[0,0]] false) .ret) .skip)) (.seq (.seq (.region [opD 8 (.mov (cD 0))] [[]] false) (.block 0 (.loop ⟨[8],(.cons hI .nil),[(0,29,7)],(.cons Y6 .nil),[1,2,3,7],[]⟩
 (.seq (.seq (.region [mvD 29 8,mvD 30 1,opD 31 (.len false (tD 30)),opD 32 (.bin .lss (tD 29) (tD 31))] [[],[],[1],[0,2]] false) (.cond (.tmp 32) .skip (.exit 0))) (.seq (.block 1 (.seq (.region [opD 36 (.load true 7 (tD 3)),mvD 37 1,mvD 38 8,opD 39 (.iaddr 10 (tD 37) (tD 38)),opD 40 (.load true 10 (tD 39)),oqD 41 (.call 14 [(tD 36),(tD 40)]) (.ent (e14 fu)),mvD 35 41,opD 42 (.ext (tD 35) 0),opD 43 (.ext (tD 35) 1),opD 9 (.alloc 29 7 [vT,vT,vU,vU,vS,vS,vS]),opD 10 (.alloc 39 4 [vI,vU,vB,vS]),onD (.store 7 (tD 9) (tD 42)),onD (.store 4 (tD 10) (tD 43))] [[],[],[],[1,2],[3],[0,4],[5],[6],[6],[],[],[9,7,5,0,1,2,3,4,5,6,7,9,10],[10,8,11,0,1,2,3,4,5,6,7,8,9,10,11]] true) (.seq (.region [mvD 44 1,mvD 45 8,opD 46 (.iaddr 10 (tD 44) (tD 45)),opD 47 (.load true 10 (tD 46)),oqD 48 (.call 21 [(tD 47)]) (.ent (e21 fu)),mvD 11 48] [[],[],[0,1],[2],[3],[4,4,0,1,2,3,4]] false) (.seq (.region [opD 50 (.load true 7 (tD 3)),mvD 51 11,oqD 52 (.call 32 [(tD 50),(tD 51)]) (.ent (e32 fu)),mvD 49 52,opD 53 (.ext (tD 49) 0),opD 54 (.ext (tD 49) 1),opD 12 (.alloc 29 7 [vT,vT,vU,vU,vS,vS,vS]),onD (.store 7 (tD 12) (tD 53)),mvD 13 54] [[],[],[0,1],[2],[3],[3],[],[6,4,2,0,1,2,3,4,6],[5,7,0,1,2,3,4,5,6,7]] false) (.seq (.region [mvD 56 13,oqD 57 (.call 28 [(tD 56)]) (.ent (e28 fu)),mvD 55 57,opD 58 (.ext (tD 55) 0),opD 59 (.ext (tD 55) 1),opD 14 (.alloc 39 4 [vI,vU,vB,vS]),onD (.store 4 (tD 14) (tD 58)),mvD 15 59] [[],[0],[1],[2],[2],[],[5,3,1,0,1,2,3,5],[4,6,0,1,2,3,4,5,6]] false) (.seq (.region [mvD 61 11,oqD 62 (.call 26 [(tD 61)]) (.ent (e26 fu)),mvD 60 62,opD 63 (.ext (tD 60) 0),opD 64 (.ext (tD 60) 1),opD 16 (.alloc 44 10 [vI,vU,vU,vU,vT,vS,vU,vI,vT,vU]),onD (.store 10 (tD 16) (tD 63)),mvD 17 64] [[],[0],[1],[2],[2],[],[5,3,1,0,1,2,3,5],[4,6,0,1,2,3,4,5,6]] false) (.seq (.region [opD 65 (.load true 7 (tD 9)),opD 66 (.load true 7 (tD 12)),oqD 67 (.call 16 [(tD 65),(tD 66)]) (.ent (e16 fu)),mvD 18 67] [[],[],[0,1],[2,2,0,1,2]] false) (.seq (.region [opD 68 (.load true 4 (tD 10)),opD 69 (.load true 4 (tD 14)),oqD 70 (.call 17 [(tD 68),(tD 69)]) (.ent (e17 fu)),mvD 19 70] [[],[],[0,1],[2,2,0,1,2]] false) (.seq (.seq (.region [mvD 71 18,opD 72 (.not (tD 71)),mvD 73 72,ogD 74 73 false (.mov (tD 15)),ogD 75 73 false (.bin .neq (tD 74) (cD 0)),opD 76 (.pick (tD 73) (.const (.bool true)) (tD 75)),mvD 77 76,ogD 78 77 false (.mov (tD 17)),ogD 79 77 false (.bin .eql (tD 78) (cD 0)),ogD 80 77 false (.mov (tD 79)),ogD 81 80 true (.mov (tD 19)),ogD 82 80 true (.not (tD 81)),ogD 83 77 false (.pick (tD 80) (tD 82) (.const vB)),opD 84 (.pick (tD 77) (.const (.bool true)) (tD 83)),mvD 85 84,ogD 86 85 false (.mov (tD 17)),ogD 87 85 false (.bin .neq (tD 86) (cD 0)),ogD 88 85 false (.mov (tD 87)),ogD 89 88 true (.faddr 0 (tD 10)),ogD 90 88 true (.load false 1 (tD 89)),ogD 91 88 true (.bin .neq (tD 90) (cD 161)),ogD 92 88 true (.mov (tD 91)),ogD 93 92 false (.faddr 0 (tD 14)),ogD 94 92 false (.load false 1 (tD 93)),ogD 95 92 false (.bin .neq (tD 94) (cD 161)),ogD 96 88 true (.pick (tD 92) (.const (.bool true)) (tD 95)),ogD 97 85 false (.pick (tD 88) (tD 96) (.const vB)),opD 98 (.pick (tD 85) (.const (.bool true)) (tD 97))] [[],[0],[1],[2],[3,2],[2,4],[5,2],[6],[7,6],[8,6,6],[9],[10,9],[9,11,6],[6,12],[13,9],[14],[15,14],[16,14,14],[17],[18,17],[19,17],[20,17,17],[21],[22,21],[23,21],[21,24,17],[17,25,14],[14,26]] false) (.cond (.tmp 98) (.seq (.region [opD 6 (.mov (.const vB))] [[]] false) .ret) .skip)) (.region [opD 99 (.load true 7 (tD 9)),onD (.store 7 (tD 3) (tD 99))] [[],[0,0]] false)))))))))) (.region [mvD 33 8,opD 34 (.bin .add (tD 33) (cD 1)),mvD 8 34] [[],[0],[1,0,1]] false)))))) (.seq (.region [mvD 101 2,oqD 102 (.call 26 [(tD 101)]) (.ent (e26 fu)),mvD 100 102,opD 103 (.ext (tD 100) 0),opD 104 (.ext (tD 100) 1),opD 20 (.alloc 44 10 [vI,vU,vU,vU,vT,vS,vU,vI,vT,vU]),onD (.store 10 (tD 20) (tD 103)),mvD 21 104] [[],[0],[1],[2],[2],[],[5,3,1,0,1,2,3,5],[4,6,0,1,2,3,4,5,6]] false) (.seq (.region [opD 106 (.load true 7 (tD 3)),mvD 107 2,oqD 108 (.call 32 [(tD 106),(tD 107)]) (.ent (e32 fu)),mvD 105 108,opD 109 (.ext (tD 105) 0),opD 110 (.ext (tD 105) 1),opD 22 (.alloc 29 7 [vT,vT,vU,vU,vS,vS,vS]),onD (.store 7 (tD 22) (tD 109)),mvD 23 110] [[],[],[0,1],[2],[3],[3],[],[6,4,2,0,1,2,3,4,6],[5,7,0,1,2,3,4,5,6,7]] false) (.seq (.region [mvD 111 7,mvD 112 111,ogD 113 112 true (.mov (tD 21)),ogD 114 112 true (.bin .eql (tD 113) (cD 0)),ogD 115 112 true (.mov (tD 114)),ogD 116 115 false (.load true 7 (tD 22)),ogD 117 115 false (.load true 7 (tD 3)),(⟨(some 118),(some (115,false)),(.call 16 [(tD 116),(tD 117)])⟩,(.ent (e16 fu))),ogD 119 112 true (.pick (tD 115) (.const (.bool true)) (tD 118)),opD 120 (.pick (tD 112) (tD 119) (.const vB)),mvD 6 120] [[],[0],[1],[2,1],[3,1,1],[4],[4],[5,6,4,4],[4,7,1],[1,8],[9,7,0,1,2,3,4,5,6,7,8,9]] false) .ret)))))))
theorem g8 (fu:Nat):(e8 fu).Good Tryz.prog := Q0c Q0d Tryz.func8 fu (d8 fu) rs8 121 (l := [e9 fu,e10 fu,e14 fu,e21 fu,e32 fu,e28 fu,e26 fu,e16 fu,e17 fu,e26 fu,e32 fu,e16 fu]) ⟨g9 fu,g10 fu,g14 fu,g21 fu,g32 fu,g28 fu,g26 fu,g16 fu,g17 fu,g26 fu,g32 fu,g16 fu,trivial⟩
end Go.Proofs.YthlgaodaofpgoaaGreatDoor
