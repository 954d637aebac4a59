/-
  The functions, typed, continued.
-/
import Derived.Test.YthlgaodaofpgoaaGreatDoorPtLA
namespace Go.Proofs.YthlgaodaofpgoaaGreatDoor
set_option maxRecDepth 1000000
open Go.RowKit
def rs132:List RVx := [(.tmp 4)]
def p132 (fu:Nat):((List Int)×(Int×((Bool×((Int×(Int×Unit))×Unit))×Unit)))×(Int×Unit)→Option ((((List Int)×(Int×((Bool×((Int×(Int×Unit))×Unit))×Unit)))×(Unit×Unit))×(List Int)) := fun ⟨⟨a,c,⟨f,⟨h,i,_⟩,_⟩,_⟩,j,_⟩ =>
bif f then
 orK (E := Unit×(((List Int)×(Int×((Bool×((Int×(Int×Unit))×Unit))×Unit)))×Unit))
 (bif eqL a then
 some (.inl ((),((a,c,(true,(h,i,()),dflt .unit),()),())))
 else none)
 fun ⟨_,⟨⟨k,l,⟨m,⟨n,o,_⟩,_⟩,_⟩,_⟩⟩ =>
 bif m then
 bif eqL k then
 some (((k,l,(true,(n,o,()),dflt .unit),()),(),()),[])
 else none
 else
 bif decide ((0:Int)≤IntKind.wrap .i64 ((IntKind.wrap .i64 (l+j))-j)) then
 bif decide ((0:Int)≤IntKind.wrap .i64 (l+j)) then
 bif decide (Int.toNat (IntKind.wrap .i64 ((IntKind.wrap .i64 (l+j))-j))≤Int.toNat (IntKind.wrap .i64 (l+j))∧0+(Int.toNat (IntKind.wrap .i64 (l+j)))≤k.length) then
 bif decide ((Int.toNat (IntKind.wrap .i64 ((IntKind.wrap .i64 (l+j))-j)))+((Int.toNat (IntKind.wrap .i64 (l+j)))-(Int.toNat (IntKind.wrap .i64 ((IntKind.wrap .i64 (l+j))-j))))≤k.length) then
 bif decide (List.length (sub' k (Int.toNat (IntKind.wrap .i64 ((IntKind.wrap .i64 (l+j))-j))) ((Int.toNat (IntKind.wrap .i64 (l+j)))-(Int.toNat (IntKind.wrap .i64 ((IntKind.wrap .i64 (l+j))-j)))))≤maxLen∧List.length (sub' k (Int.toNat (IntKind.wrap .i64 ((IntKind.wrap .i64 (l+j))-j))) ((Int.toNat (IntKind.wrap .i64 (l+j)))-(Int.toNat (IntKind.wrap .i64 ((IntKind.wrap .i64 (l+j))-j))))) * 1≤140737488355328) then
 bif eqL k then
 bif eqL (sub' k (Int.toNat (IntKind.wrap .i64 ((IntKind.wrap .i64 (l+j))-j))) ((Int.toNat (IntKind.wrap .i64 (l+j)))-(Int.toNat (IntKind.wrap .i64 ((IntKind.wrap .i64 (l+j))-j))))) then
 some (((k,IntKind.wrap .i64 (l+j),zR0,()),(),()),sub' k (Int.toNat (IntKind.wrap .i64 ((IntKind.wrap .i64 (l+j))-j))) ((Int.toNat (IntKind.wrap .i64 (l+j)))-(Int.toNat (IntKind.wrap .i64 ((IntKind.wrap .i64 (l+j))-j)))))
 else none
 else none
 else none
 else none
 else none
 else none
 else none
else
 orK (E := Unit×(((List Int)×(Int×((Bool×((Int×(Int×Unit))×Unit))×Unit)))×Unit))
 (bif decide (j>(IntKind.wrap .i64 (((a.length):Int)-c))) then
 bif eqL a then
 Option.bind (p131 fu ((a,c,(),()),(11:Int),())) fun ⟨⟨⟨q,s,⟨t,⟨u,w,_⟩,_⟩,_⟩,_,_⟩,_⟩ =>
 bif eqL q then
 some (.inl ((),((q,s,(t,(u,w,()),()),()),())))
 else none
 else none
 else
 bif eqL a then
 some (.inl ((),((a,c,zR0,()),())))
 else none)
 fun ⟨_,⟨⟨k,l,⟨m,⟨n,o,_⟩,_⟩,_⟩,_⟩⟩ =>
 bif m then
 bif eqL k then
 some (((k,l,(true,(n,o,()),dflt .unit),()),(),()),[])
 else none
 else
 bif decide ((0:Int)≤IntKind.wrap .i64 ((IntKind.wrap .i64 (l+j))-j)) then
 bif decide ((0:Int)≤IntKind.wrap .i64 (l+j)) then
 bif decide (Int.toNat (IntKind.wrap .i64 ((IntKind.wrap .i64 (l+j))-j))≤Int.toNat (IntKind.wrap .i64 (l+j))∧0+(Int.toNat (IntKind.wrap .i64 (l+j)))≤k.length) then
 bif decide ((Int.toNat (IntKind.wrap .i64 ((IntKind.wrap .i64 (l+j))-j)))+((Int.toNat (IntKind.wrap .i64 (l+j)))-(Int.toNat (IntKind.wrap .i64 ((IntKind.wrap .i64 (l+j))-j))))≤k.length) then
 bif decide (List.length (sub' k (Int.toNat (IntKind.wrap .i64 ((IntKind.wrap .i64 (l+j))-j))) ((Int.toNat (IntKind.wrap .i64 (l+j)))-(Int.toNat (IntKind.wrap .i64 ((IntKind.wrap .i64 (l+j))-j)))))≤maxLen∧List.length (sub' k (Int.toNat (IntKind.wrap .i64 ((IntKind.wrap .i64 (l+j))-j))) ((Int.toNat (IntKind.wrap .i64 (l+j)))-(Int.toNat (IntKind.wrap .i64 ((IntKind.wrap .i64 (l+j))-j))))) * 1≤140737488355328) then
 bif eqL k then
 bif eqL (sub' k (Int.toNat (IntKind.wrap .i64 ((IntKind.wrap .i64 (l+j))-j))) ((Int.toNat (IntKind.wrap .i64 (l+j)))-(Int.toNat (IntKind.wrap .i64 ((IntKind.wrap .i64 (l+j))-j))))) then
 some (((k,IntKind.wrap .i64 (l+j),zR0,()),(),()),sub' k (Int.toNat (IntKind.wrap .i64 ((IntKind.wrap .i64 (l+j))-j))) ((Int.toNat (IntKind.wrap .i64 (l+j)))-(Int.toNat (IntKind.wrap .i64 ((IntKind.wrap .i64 (l+j))-j)))))
 else none
 else none
 else none
 else none
 else none
 else none
 else none
def e132 (fu:Nat):Ent := ⟨132,(.cons Y18 (.cons hI .nil)),(.cons Y17 (.cons .dead .nil)),(.own .own 5 (.int .u8)),p132 fu⟩
def d132 (fu:Nat):DC := (.seq (.region [opD 4 (.mov (.const vS))] [[]] false) (.join ⟨[],.nil,[(0,176,3)],(.cons Y19 .nil),[0,1],[1]⟩
 (.seq (.region [mvD 5 0,nD 6 5,fD 7 2 6,lD 8 1 7,opD 9 (.pure (.nilq 1 false) [(tD 8)]),mvD 10 9,ogD 11 10 true (.mov (tD 1)),ogD 12 10 true (.mov (tD 0)),ogD 13 10 true (.pure .nilc [(tD 12)]),ogD 14 10 true (.faddr 0 (tD 13)),ogD 15 10 true (.load false 1 (tD 14)),ogD 16 10 true (.len false (tD 15)),ogD 17 10 true (.mov (tD 0)),ogD 18 10 true (.pure .nilc [(tD 17)]),ogD 19 10 true (.faddr 1 (tD 18)),ogD 20 10 true (.load false 1 (tD 19)),ogD 21 10 true (.bin .sub (tD 16) (tD 20)),ogD 22 10 true (.bin .gtr (tD 11) (tD 21)),opD 23 (.pick (tD 10) (tD 22) (.const vB))] [[],[0],[1],[2],[3],[4],[5],[5],[7,5],[8,5],[9,5],[10,5],[5],[12,5],[13,5],[14,5],[11,15,5],[6,16,5],[5,17]] true) (.cond (.tmp 23) (.region [mvD 24 0,oqD 25 (.call 131 [(tD 24),(cD 11)]) (.ent (e131 fu))] [[],[0]] false) .skip))
 (.seq (.seq (.region [mvD 26 0,nD 27 26,fD 28 2 27,lD 29 1 28,opD 30 (.pure (.nilq 1 true) [(tD 29)])] [[],[0],[1],[2],[3]] false) (.cond (.tmp 30) (.seq (.region [opD 4 (.mov (.const vS))] [[]] false) .ret) .skip)) (.seq (.region [mvD 31 0,nD 32 31,fD 33 1 32,lD 34 1 33,mvD 35 1,opD 36 (.bin .add (tD 34) (tD 35)),nD 37 31,fD 38 1 37,onD (.store 1 (tD 38) (tD 36))] [[],[0],[1],[2],[],[3,4],[0,0,1,2,3,4,5],[6,0,1,2,3,4,5],[7,5,0,1,2,3,4,5]] false) (.seq (.region [mvD 39 0,nD 40 39,fD 41 0 40,lD 42 1 41,mvD 43 0,nD 44 43,fD 45 1 44,lD 46 1 45,mvD 47 1,opD 48 (.bin .sub (tD 46) (tD 47)),mvD 49 0,nD 50 49,fD 51 1 50,lD 52 1 51,opD 53 (.slc 1 (tD 42) (some (tD 48)) (some (tD 52))),oqD 54 (.app 5 1 [(.int .u8 0)] 1 (.const vS) (tD 53)) (.ty (.int .u8)),mvD 4 54] [[],[0],[1],[2],[],[4],[5],[6],[],[7,8],[],[10],[11],[12],[3,9,13],[14],[15,15,0,1,2,3,4,5,6,7,8,9,10,11,12,13,14,15]] true) .ret)))))
theorem g132 (fu:Nat):(e132 fu).Good Tryz.prog := good_fn orders Tryz.func132 fu (d132 fu) rs132 55 (l := [e131 fu]) ⟨g131 fu,trivial⟩
def rs86:List RVx := [(.tmp 4)]
def p86 (fu:Nat):((List Int)×(Int×(Unit×Unit)))×(Int×Unit)→Option ((((List Int)×(Int×((Bool×((Int×(Int×Unit))×Unit))×Unit)))×(Unit×Unit))×(List Int)) := fun ⟨⟨a,c,_,_⟩,f,_⟩ =>
bif eqL a then
 Option.bind (p93 fu ((a,c,(),()),f,())) fun ⟨⟨⟨h,i,⟨j,⟨k,l,_⟩,_⟩,_⟩,_,_⟩,m⟩ =>
 bif eqL h then
 Option.bind (p132 fu ((h,i,(j,(k,l,()),()),()),m,())) fun ⟨⟨⟨n,o,⟨q,⟨s,t,_⟩,_⟩,_⟩,_,_⟩,u⟩ =>
 bif eqL n then
 bif eqL u then
 some (((n,o,(q,(s,t,()),()),()),(),()),u)
 else none
 else none
 else none
else none
def e86 (fu:Nat):Ent := ⟨86,(.cons (.box 176 3 (.cons (.own .own 5 (.int .u8)) (.cons hI (.cons (.nilv 1) .nil)))) (.cons hI .nil)),(.cons Y17 (.cons .dead .nil)),(.own .own 5 (.int .u8)),p86 fu⟩
def d86 (fu:Nat):DC := (.seq (.region [opD 4 (.mov (.const vS))] [[]] false) (.seq (.region [mvD 5 0,mvD 6 0,mvD 7 1,oqD 8 (.call 93 [(tD 6),(tD 7)]) (.ent (e93 fu)),oqD 9 (.call 132 [(tD 5),(tD 8)]) (.ent (e132 fu)),mvD 4 9] [[],[],[],[1,2],[0,3,3],[4,4,0,1,2,3,4]] false) .ret))
theorem g86 (fu:Nat):(e86 fu).Good Tryz.prog := good_fn orders Tryz.func86 fu (d86 fu) rs86 10 (l := [e93 fu,e132 fu]) ⟨g93 fu,g132 fu,trivial⟩
def rs85:List RVx := [(.tmp 4)]
def p85 (fu:Nat):((List Int)×(Int×(Unit×Unit)))×(Int×Unit)→Option ((((List Int)×(Int×((Bool×((Int×(Int×Unit))×Unit))×Unit)))×(Unit×Unit))×ByteArray) := fun ⟨⟨a,c,_,_⟩,f,_⟩ =>
bif eqL a then
 Option.bind (p86 fu ((a,c,(),()),f,())) fun ⟨⟨⟨h,i,⟨j,⟨k,l,_⟩,_⟩,_⟩,_,_⟩,m⟩ =>
 bif eqL m then
 bif eqL h then
 some (((h,i,(j,(k,l,()),()),()),(),()),strOfNums m)
 else none
 else none
else none
def e85 (fu:Nat):Ent := ⟨85,(.cons (.box 176 3 (.cons (.own .own 5 (.int .u8)) (.cons hI (.cons (.nilv 1) .nil)))) (.cons hI .nil)),(.cons Y17 (.cons .dead .nil)),hT,p85 fu⟩
def d85 (fu:Nat):DC := (.seq (.region [opD 4 (.mov (.const vT))] [[]] false) (.seq (.region [mvD 5 0,mvD 6 1,oqD 7 (.call 86 [(tD 5),(tD 6)]) (.ent (e86 fu)),opD 8 (.b2s (tD 7)),mvD 4 8] [[],[],[0,1],[2],[3,2,0,1,2,3]] false) .ret))
theorem g85 (fu:Nat):(e85 fu).Good Tryz.prog := good_fn orders Tryz.func85 fu (d85 fu) rs85 9 (l := [e86 fu]) ⟨g86 fu,trivial⟩
def p84_2 (fu:Nat):((List Int)×(Int×((Bool×((Int×(Int×Unit))×Unit))×Unit)))×Unit→Option ((((List Int)×(Int×((Bool×((Int×(Int×Unit))×Unit))×Unit)))×(Unit×Unit))×Int) := fun ⟨⟨a,c,⟨f,⟨h,i,_⟩,_⟩,_⟩,_⟩ =>
bif f then
 bif eqL a then
 some (((a,c,(true,(h,i,()),dflt .unit),()),(),()),(0:Int))
 else none
else
 bif decide ((0:Int)≤c) then
 bif decide (c.toNat≤a.length∧0+(a.length)≤a.length) then
 bif decide ((c.toNat)+((a.length)-(c.toNat))≤a.length) then
 Option.bind (p130 fu (sub' a (c.toNat) ((a.length)-(c.toNat)),())) fun ⟨_,⟨j,k,l,_⟩⟩ =>
 bif eqL a then
 Option.bind (p131 fu ((a,c,(),()),l,())) fun ⟨⟨⟨m,n,⟨o,⟨q,s,_⟩,_⟩,_⟩,_,_⟩,_⟩ =>
 bif eqL m then
 some (((m,IntKind.wrap .i64 (n+k),(o,(q,s,()),()),()),(),()),j)
 else none
 else none
 else none
 else none
 else none
def e84_2 (fu:Nat):Ent := ⟨84,(.cons Y18 .nil),(.cons Y17 (.cons .dead .nil)),hU,p84_2 fu⟩
def d84_2 (fu:Nat):DC := (.seq (.region [opD 2 (.mov (.const vU))] [[]] false) (.seq (.seq (.region [mvD 6 0,nD 7 6,fD 8 2 7,lD 9 1 8,opD 10 (.pure (.nilq 1 true) [(tD 9)])] [[],[0],[1],[2],[3]] false) (.cond (.tmp 10) (.seq (.region [opD 2 (.mov (.const vU))] [[]] false) .ret) .skip)) (.seq (.region [mvD 12 0,nD 13 12,fD 14 0 13,lD 15 1 14,mvD 16 0,nD 17 16,fD 18 1 17,lD 19 1 18,opD 20 (.slc 1 (tD 15) (some (tD 19)) none),oqD 21 (.call 130 [(tD 20)]) (.ent (e130 fu)),mvD 11 21,opD 22 (.ext (tD 11) 0),opD 23 (.ext (tD 11) 1),opD 24 (.ext (tD 11) 2),mvD 3 22,mvD 4 23,mvD 5 24] [[],[0],[1],[2],[],[4],[5],[6],[3,7],[8],[9],[10],[10],[10],[11,9,0,1,2,3,4,5,6,7,8,9,10,11],[12,14,0,1,2,3,4,5,6,7,8,9,10,11,12,14],[13,15,0,1,2,3,4,5,6,7,8,9,10,11,12,13,14,15]] true) (.seq (.region [mvD 25 0,mvD 26 5,oqD 27 (.call 131 [(tD 25),(tD 26)]) (.ent (e131 fu))] [[],[],[0,1]] false) (.seq (.region [mvD 28 0,nD 29 28,fD 30 1 29,lD 31 1 30,mvD 32 4,opD 33 (.bin .add (tD 31) (tD 32)),nD 34 28,fD 35 1 34,onD (.store 1 (tD 35) (tD 33))] [[],[0],[1],[2],[],[3,4],[0,0,1,2,3,4,5],[6,0,1,2,3,4,5],[7,5,0,1,2,3,4,5]] false) (.seq (.region [mvD 36 3,mvD 2 36] [[],[0,0]] false) .ret))))))
theorem g84_2 (fu:Nat):(e84_2 fu).Good Tryz.prog := good_fn orders Tryz.func84 fu (d84_2 fu) rs84 37 (l := [e130 fu,e131 fu]) ⟨g130 fu,g131 fu,trivial⟩
def p93_2 (fu:Nat):((List Int)×(Int×((Bool×((Int×(Int×Unit))×Unit))×Unit)))×(Int×Unit)→Option ((((List Int)×(Int×((Bool×((Int×(Int×Unit))×Unit))×Unit)))×(Unit×Unit))×Int) := fun ⟨⟨a,c,⟨f,⟨h,i,_⟩,_⟩,_⟩,j,_⟩ =>
bif f then
 bif eqL a then
 Option.bind (p84_2 fu ((a,c,(true,(h,i,()),dflt .unit),()),())) fun ⟨⟨⟨k,l,⟨m,⟨n,o,_⟩,_⟩,_⟩,_,_⟩,q⟩ =>
 orK (E := Unit×(((List Int)×(Int×((Bool×((Int×(Int×Unit))×Unit))×Unit)))×Unit))
 (orK (E := (Bool×Unit)×Unit)
 (bif decide (j<(0:Int)) then
 some (.inl ((true,()),()))
 else
 some (.inl ((decide (q>(IntKind.wrap .u64 j)),()),())))
 fun ⟨⟨s,_⟩,_⟩ =>
 bif s then
 bif eqL k then
 Option.bind (p135_1 fu ((k,l,(m,(n,o,()),()),()),c,(13:Int),())) fun ⟨⟨⟨t,u,⟨w,⟨x,y,_⟩,_⟩,_⟩,_,_⟩,_⟩ =>
 bif eqL t then
 some (.inl ((),((t,u,(w,(x,y,()),()),()),())))
 else none
 else none
 else
 bif eqL k then
 some (.inl ((),((k,l,(m,(n,o,()),()),()),())))
 else none)
 fun ⟨_,⟨⟨z,a0,⟨c0,⟨f0,h0,_⟩,_⟩,_⟩,_⟩⟩ =>
 orK (E := Unit×(((List Int)×(Int×((Bool×((Int×(Int×Unit))×Unit))×Unit)))×Unit))
 (bif decide (q>(IntKind.wrap .u64 (IntKind.wrap .i64 (((z.length):Int)-a0)))) then
 bif eqL z then
 Option.bind (p135_1 fu ((z,a0,(c0,(f0,h0,()),()),()),c,(11:Int),())) fun ⟨⟨⟨i0,j0,⟨k0,⟨l0,m0,_⟩,_⟩,_⟩,_,_⟩,_⟩ =>
 bif eqL i0 then
 some (.inl ((),((i0,j0,(k0,(l0,m0,()),()),()),())))
 else none
 else none
 else
 bif eqL z then
 some (.inl ((),((z,a0,(c0,(f0,h0,()),()),()),())))
 else none)
 fun ⟨_,⟨⟨z,a0,⟨c0,⟨f0,h0,_⟩,_⟩,_⟩,_⟩⟩ =>
 bif eqL z then
 Option.bind (p138 fu ((z,a0,(c0,(f0,h0,()),()),()),IntKind.wrap .i64 q,())) fun ⟨⟨⟨n0,o0,⟨q0,⟨s0,t0,_⟩,_⟩,_⟩,_,_⟩,u0⟩ =>
 bif eqL n0 then
 some (((n0,o0,(q0,(s0,t0,()),()),()),(),()),u0)
 else none
 else none
 else none
else
 bif eqL a then
 Option.bind (p84_2 fu ((a,c,zR0,()),())) fun ⟨⟨⟨w0,x0,⟨y0,⟨z0,a1,_⟩,_⟩,_⟩,_,_⟩,c1⟩ =>
 orK (E := Unit×(((List Int)×(Int×((Bool×((Int×(Int×Unit))×Unit))×Unit)))×Unit))
 (orK (E := (Bool×Unit)×Unit)
 (bif decide (j<(0:Int)) then
 some (.inl ((true,()),()))
 else
 some (.inl ((decide (c1>(IntKind.wrap .u64 j)),()),())))
 fun ⟨⟨s,_⟩,_⟩ =>
 bif s then
 bif eqL w0 then
 Option.bind (p135_1 fu ((w0,x0,(y0,(z0,a1,()),()),()),c,(13:Int),())) fun ⟨⟨⟨f1,h1,⟨i1,⟨j1,k1,_⟩,_⟩,_⟩,_,_⟩,_⟩ =>
 bif eqL f1 then
 some (.inl ((),((f1,h1,(i1,(j1,k1,()),()),()),())))
 else none
 else none
 else
 bif eqL w0 then
 some (.inl ((),((w0,x0,(y0,(z0,a1,()),()),()),())))
 else none)
 fun ⟨_,⟨⟨z,a0,⟨c0,⟨f0,h0,_⟩,_⟩,_⟩,_⟩⟩ =>
 orK (E := Unit×(((List Int)×(Int×((Bool×((Int×(Int×Unit))×Unit))×Unit)))×Unit))
 (bif decide (c1>(IntKind.wrap .u64 (IntKind.wrap .i64 (((z.length):Int)-a0)))) then
 bif eqL z then
 Option.bind (p135_1 fu ((z,a0,(c0,(f0,h0,()),()),()),c,(11:Int),())) fun ⟨⟨⟨l1,m1,⟨n1,⟨o1,q1,_⟩,_⟩,_⟩,_,_⟩,_⟩ =>
 bif eqL l1 then
 some (.inl ((),((l1,m1,(n1,(o1,q1,()),()),()),())))
 else none
 else none
 else
 bif eqL z then
 some (.inl ((),((z,a0,(c0,(f0,h0,()),()),()),())))
 else none)
 fun ⟨_,⟨⟨z,a0,⟨c0,⟨f0,h0,_⟩,_⟩,_⟩,_⟩⟩ =>
 bif eqL z then
 Option.bind (p138 fu ((z,a0,(c0,(f0,h0,()),()),()),IntKind.wrap .i64 c1,())) fun ⟨⟨⟨s1,t1,⟨u1,⟨w1,x1,_⟩,_⟩,_⟩,_,_⟩,y1⟩ =>
 bif eqL s1 then
 some (((s1,t1,(u1,(w1,x1,()),()),()),(),()),y1)
 else none
 else none
 else none
def e93_2 (fu:Nat):Ent := ⟨93,(.cons Y18 (.cons hI .nil)),(.cons Y17 (.cons .dead .nil)),hI,p93_2 fu⟩
def d93_2 (fu:Nat):DC := (.seq (.region [opD 4 (.mov (cD 0))] [[]] false) (.seq (.region [mvD 7 0,nD 8 7,fD 9 1 8,lD 10 1 9,mvD 5 10] [[],[0],[1],[2],[3,0,1,2,3]] false) (.seq (.region [mvD 11 0,oqD 12 (.call 84 [(tD 11)]) (.ent (e84_2 fu)),mvD 6 12] [[],[0],[1,1,0,1]] false) (.join ⟨[],.nil,[(0,176,3)],(.cons Y17 .nil),[0,5,6],[1]⟩
 (.join ⟨[20],(.cons (.hole .bool) .nil),[],.nil,[0,5,6],[0,1,116]⟩
 (.region [mvD 13 1,opD 14 (.bin .lss (tD 13) (cD 0)),mvD 15 14,ogD 16 15 false (.mov (tD 6)),ogD 17 15 false (.mov (tD 1)),ogD 18 15 false (.conv .u64 (tD 17)),ogD 19 15 false (.bin .gtr (tD 16) (tD 18)),opD 20 (.pick (tD 15) (.const (.bool true)) (tD 19))] [[],[0],[1],[2],[2],[4,2],[3,5,2],[2,6]] false)
 (.cond (.tmp 20) (.region [mvD 21 0,mvD 22 5,oqD 23 (.call 135 [(tD 21),(tD 22),(cD 13)]) (.ent (e135_1 fu))] [[],[],[0,1]] false) .skip))
 (.join ⟨[],.nil,[(0,176,3)],(.cons Y17 .nil),[0,6],[1]⟩
 (.seq (.region [mvD 24 6,mvD 25 0,nD 26 25,fD 27 0 26,lD 28 1 27,opD 29 (.len false (tD 28)),mvD 30 0,nD 31 30,fD 32 1 31,lD 33 1 32,opD 34 (.bin .sub (tD 29) (tD 33)),opD 35 (.conv .u64 (tD 34)),opD 36 (.bin .gtr (tD 24) (tD 35))] [[],[],[1],[2],[3],[4],[],[6],[7],[8],[5,9],[10],[0,11]] true) (.cond (.tmp 36) (.region [mvD 37 0,mvD 38 5,oqD 39 (.call 135 [(tD 37),(tD 38),(cD 11)]) (.ent (e135_1 fu))] [[],[],[0,1]] false) .skip))
 (.seq (.region [mvD 40 0,mvD 41 6,opD 42 (.conv .i64 (tD 41)),oqD 43 (.call 138 [(tD 40),(tD 42)]) (.ent (e138 fu)),mvD 4 43] [[],[],[1],[0,2],[3,3,0,1,2,3]] false) .ret))))))
theorem g93_2 (fu:Nat):(e93_2 fu).Good Tryz.prog := good_fn orders Tryz.func93 fu (d93_2 fu) rs93 44 (l := [e84_2 fu,e135_1 fu,e135_1 fu,e138 fu]) ⟨g84_2 fu,g135_1 fu,g135_1 fu,g138 fu,trivial⟩
def p86_2 (fu:Nat):((List Int)×(Int×((Bool×((Int×(Int×Unit))×Unit))×Unit)))×(Int×Unit)→Option ((((List Int)×(Int×((Bool×((Int×(Int×Unit))×Unit))×Unit)))×(Unit×Unit))×(List Int)) := fun ⟨⟨a,c,⟨f,⟨h,i,_⟩,_⟩,_⟩,j,_⟩ =>
bif f then
 bif eqL a then
 Option.bind (p93_2 fu ((a,c,(true,(h,i,()),dflt .unit),()),j,())) fun ⟨⟨⟨k,l,⟨m,⟨n,o,_⟩,_⟩,_⟩,_,_⟩,q⟩ =>
 bif eqL k then
 Option.bind (p132 fu ((k,l,(m,(n,o,()),()),()),q,())) fun ⟨⟨⟨s,t,⟨u,⟨w,x,_⟩,_⟩,_⟩,_,_⟩,y⟩ =>
 bif eqL s then
 bif eqL y then
 some (((s,t,(u,(w,x,()),()),()),(),()),y)
 else none
 else none
 else none
 else none
else
 bif eqL a then
 Option.bind (p93_2 fu ((a,c,zR0,()),j,())) fun ⟨⟨⟨z,a0,⟨c0,⟨f0,h0,_⟩,_⟩,_⟩,_,_⟩,i0⟩ =>
 bif eqL z then
 Option.bind (p132 fu ((z,a0,(c0,(f0,h0,()),()),()),i0,())) fun ⟨⟨⟨j0,k0,⟨l0,⟨m0,n0,_⟩,_⟩,_⟩,_,_⟩,o0⟩ =>
 bif eqL j0 then
 bif eqL o0 then
 some (((j0,k0,(l0,(m0,n0,()),()),()),(),()),o0)
 else none
 else none
 else none
 else none
def e86_2 (fu:Nat):Ent := ⟨86,(.cons Y18 (.cons hI .nil)),(.cons Y17 (.cons .dead .nil)),(.own .own 5 (.int .u8)),p86_2 fu⟩
def d86_2 (fu:Nat):DC := (.seq (.region [opD 4 (.mov (.const vS))] [[]] false) (.seq (.region [mvD 5 0,mvD 6 0,mvD 7 1,oqD 8 (.call 93 [(tD 6),(tD 7)]) (.ent (e93_2 fu)),oqD 9 (.call 132 [(tD 5),(tD 8)]) (.ent (e132 fu)),mvD 4 9] [[],[],[],[1,2],[0,3,3],[4,4,0,1,2,3,4]] false) .ret))
theorem g86_2 (fu:Nat):(e86_2 fu).Good Tryz.prog := good_fn orders Tryz.func86 fu (d86_2 fu) rs86 10 (l := [e93_2 fu,e132 fu]) ⟨g93_2 fu,g132 fu,trivial⟩
def p85_1 (fu:Nat):((List Int)×(Int×((Bool×((Int×(Int×Unit))×Unit))×Unit)))×(Int×Unit)→Option ((((List Int)×(Int×((Bool×((Int×(Int×Unit))×Unit))×Unit)))×(Unit×Unit))×ByteArray) := fun ⟨⟨a,c,⟨f,⟨h,i,_⟩,_⟩,_⟩,j,_⟩ =>
bif f then
 bif eqL a then
 Option.bind (p86_2 fu ((a,c,(true,(h,i,()),dflt .unit),()),j,())) fun ⟨⟨⟨k,l,⟨m,⟨n,o,_⟩,_⟩,_⟩,_,_⟩,q⟩ =>
 bif eqL q then
 bif eqL k then
 some (((k,l,(m,(n,o,()),()),()),(),()),strOfNums q)
 else none
 else none
 else none
else
 bif eqL a then
 Option.bind (p86_2 fu ((a,c,zR0,()),j,())) fun ⟨⟨⟨s,t,⟨u,⟨w,x,_⟩,_⟩,_⟩,_,_⟩,y⟩ =>
 bif eqL y then
 bif eqL s then
 some (((s,t,(u,(w,x,()),()),()),(),()),strOfNums y)
 else none
 else none
 else none
def e85_1 (fu:Nat):Ent := ⟨85,(.cons Y18 (.cons hI .nil)),(.cons Y17 (.cons .dead .nil)),hT,p85_1 fu⟩
def d85_1 (fu:Nat):DC := (.seq (.region [opD 4 (.mov (.const vT))] [[]] false) (.seq (.region [mvD 5 0,mvD 6 1,oqD 7 (.call 86 [(tD 5),(tD 6)]) (.ent (e86_2 fu)),opD 8 (.b2s (tD 7)),mvD 4 8] [[],[],[0,1],[2],[3,2,0,1,2,3]] false) .ret))
theorem g85_1 (fu:Nat):(e85_1 fu).Good Tryz.prog := good_fn orders Tryz.func85 fu (d85_1 fu) rs85 9 (l := [e86_2 fu]) ⟨g86_2 fu,trivial⟩
def rs137:List RVx := [(.cell 4 true 2)]
def p137 (_:Nat):((List Int)×(Int×((Bool×((Int×(Int×Unit))×Unit))×Unit)))×((ByteArray×(ByteArray×Unit))×Unit)→Option ((((List Int)×(Int×((Bool×((Int×(Int×Unit))×Unit))×Unit)))×(Unit×Unit))×(ByteArray×(ByteArray×Unit))) := fun ⟨⟨a,c,⟨f,⟨h,i,_⟩,_⟩,_⟩,⟨j,k,_⟩,_⟩ =>
bif f then
 bif eqL a then
 some (((a,c,(true,(h,i,()),dflt .unit),()),(),()),((⟨#[]⟩:ByteArray),(⟨#[]⟩:ByteArray),()))
 else none
else
 bif eqL a then
 some (((a,c,zR0,()),(),()),(j,k,()))
 else none
def e137 (fu:Nat):Ent := ⟨137,(.cons Y18 (.cons (.agg 2 (.cons hT (.cons hT .nil))) .nil)),(.cons Y17 (.cons .dead .nil)),(.agg 2 (.cons hT (.cons hT .nil))),p137 fu⟩
def d137 (_:Nat):DC := (.seq (.region [opD 3 (.box 23 2 (tD 1)),opD 4 (.alloc 23 2 [vT,vT])] [[],[]] false) (.seq (.seq (.region [mvD 6 0,nD 7 6,fD 8 2 7,lD 9 1 8,opD 10 (.pure (.nilq 1 true) [(tD 9)])] [[],[0],[1],[2],[3]] false) (.cond (.tmp 10) (.seq (.region [opD 5 (.alloc 23 2 [vT,vT])] [[]] false) (.seq (.region [opD 11 (.load true 2 (tD 5)),onD (.store 2 (tD 4) (tD 11))] [[],[0,0]] false) .ret)) .skip)) (.seq (.region [opD 12 (.load true 2 (tD 3)),onD (.store 2 (tD 4) (tD 12))] [[],[0,0]] false) .ret)))
theorem g137 (fu:Nat):(e137 fu).Good Tryz.prog := good_fn orders Tryz.func137 fu (d137 fu) rs137 13 (l := []) trivial
def rs92:List RVx := [(.cell 2 true 2)]
def p92 (fu:Nat):((List Int)×(Int×(Unit×Unit)))×Unit→Option ((((List Int)×(Int×((Bool×((Int×(Int×Unit))×Unit))×Unit)))×(Unit×Unit))×(ByteArray×(ByteArray×Unit))) := fun ⟨⟨a,c,_,_⟩,_⟩ =>
bif eqL a then
 Option.bind (p85 fu ((a,c,(),()),(32:Int),())) fun ⟨⟨⟨f,h,⟨i,⟨j,k,_⟩,_⟩,_⟩,_,_⟩,l⟩ =>
 bif eqL f then
 Option.bind (p85_1 fu ((f,h,(i,(j,k,()),()),()),(32:Int),())) fun ⟨⟨⟨m,n,⟨o,⟨q,s,_⟩,_⟩,_⟩,_,_⟩,t⟩ =>
 bif eqL m then
 Option.bind (p137 fu ((m,n,(o,(q,s,()),()),()),(l,t,()),())) fun ⟨⟨⟨u,w,⟨x,⟨y,z,_⟩,_⟩,_⟩,_,_⟩,⟨a0,c0,_⟩⟩ =>
 bif eqL u then
 some (((u,w,(x,(y,z,()),()),()),(),()),(a0,c0,()))
 else none
 else none
 else none
else none
def e92 (fu:Nat):Ent := ⟨92,(.cons (.box 176 3 (.cons (.own .own 5 (.int .u8)) (.cons hI (.cons (.nilv 1) .nil)))) .nil),(.cons Y17 (.cons .dead .nil)),(.agg 2 (.cons hT (.cons hT .nil))),p92 fu⟩
def d92 (fu:Nat):DC := (.seq (.region [opD 2 (.alloc 23 2 [vT,vT])] [[]] false) (.seq (.region [mvD 3 0,mvD 4 0,oqD 5 (.call 85 [(tD 4),(cD 32)]) (.ent (e85 fu)),mvD 6 0,oqD 7 (.call 85 [(tD 6),(cD 32)]) (.ent (e85_1 fu)),opD 8 (.build 2 [vT,vT] [(0,(1,(tD 5))),(1,(1,(tD 7)))]),oqD 9 (.call 137 [(tD 3),(tD 8)]) (.ent (e137 fu)),onD (.store 2 (tD 2) (tD 9))] [[],[],[1],[],[3,2],[2,4],[0,5,4],[6,6,0,1,2,3,4,5,6]] false) .ret))
theorem g92 (fu:Nat):(e92 fu).Good Tryz.prog := good_fn orders Tryz.func92 fu (d92 fu) rs92 10 (l := [e85 fu,e85_1 fu,e137 fu]) ⟨g85 fu,g85_1 fu,g137 fu,trivial⟩
def rs158:List RVx := [(.cell 4 true 5)]
def p158_2 (_:Nat):((List Int)×(Int×((Bool×((Int×(Int×Unit))×Unit))×Unit)))×((Int×(ByteArray×((List Int)×(Int×(Int×Unit)))))×Unit)→Option ((((List Int)×(Int×((Bool×((Int×(Int×Unit))×Unit))×Unit)))×(Unit×(Unit×Unit)))×(Int×(ByteArray×((List Int)×(Int×(Int×Unit)))))) := fun ⟨⟨a,c,⟨f,⟨h,i,_⟩,_⟩,_⟩,⟨j,k,l,m,n,_⟩,_⟩ =>
bif f then
 bif eqL a then
 some (((a,c,(true,(h,i,()),dflt .unit),()),(),(),()),((0:Int),(⟨#[]⟩:ByteArray),[],(0:Int),(0:Int),()))
 else none
else
 bif eqL a then
 bif eqL l then
 some (((a,c,zR0,()),(),(),()),(j,k,l,m,n,()))
 else none
 else none
def e158_2 (fu:Nat):Ent := ⟨158,(.cons Y18 (.cons Y12 .nil)),(.cons Y17 (.cons .dead (.cons .dead .nil))),Y12,p158_2 fu⟩
def d158_2 (_:Nat):DC := (.seq (.region [opD 3 (.box 49 5 (tD 1)),opD 4 (.alloc 49 5 [vU,vT,vS,vU,vU])] [[],[]] false) (.seq (.seq (.region [mvD 6 0,nD 7 6,fD 8 2 7,lD 9 1 8,opD 10 (.pure (.nilq 1 true) [(tD 9)])] [[],[0],[1],[2],[3]] false) (.cond (.tmp 10) (.seq (.region [opD 5 (.alloc 49 5 [vU,vT,vS,vU,vU])] [[]] false) (.seq (.region [opD 11 (.load true 5 (tD 5)),onD (.store 5 (tD 4) (tD 11))] [[],[0,0]] false) .ret)) .skip)) (.seq (.region [opD 12 (.load true 5 (tD 3)),onD (.store 5 (tD 4) (tD 12))] [[],[0,0]] false) .ret)))
theorem g158_2 (fu:Nat):(e158_2 fu).Good Tryz.prog := good_fn orders Tryz.func158 fu (d158_2 fu) rs158 13 (l := []) trivial
def rs136:List RVx := [(.cell 2 true 5)]
def p136_1 (fu:Nat):((List Int)×(Int×((Bool×((Int×(Int×Unit))×Unit))×Unit)))×Unit→Option ((((List Int)×(Int×((Bool×((Int×(Int×Unit))×Unit))×Unit)))×(Unit×Unit))×(Int×(ByteArray×((List Int)×(Int×(Int×Unit)))))) := fun ⟨⟨a,c,⟨f,⟨h,i,_⟩,_⟩,_⟩,_⟩ =>
bif f then
 bif eqL a then
 Option.bind (p84_2 fu ((a,c,(true,(h,i,()),dflt .unit),()),())) fun ⟨⟨⟨j,k,⟨l,⟨m,n,_⟩,_⟩,_⟩,_,_⟩,o⟩ =>
 bif eqL j then
 Option.bind (p85_1 fu ((j,k,(l,(m,n,()),()),()),(32:Int),())) fun ⟨⟨⟨q,s,⟨t,⟨u,w,_⟩,_⟩,_⟩,_,_⟩,x⟩ =>
 bif eqL q then
 Option.bind (p86_2 fu ((q,s,(t,(u,w,()),()),()),(256:Int),())) fun ⟨⟨⟨y,z,⟨a0,⟨c0,f0,_⟩,_⟩,_⟩,_,_⟩,h0⟩ =>
 bif eqL y then
 Option.bind (p84_2 fu ((y,z,(a0,(c0,f0,()),()),()),())) fun ⟨⟨⟨i0,j0,⟨k0,⟨l0,m0,_⟩,_⟩,_⟩,_,_⟩,n0⟩ =>
 bif eqL i0 then
 Option.bind (p84_2 fu ((i0,j0,(k0,(l0,m0,()),()),()),())) fun ⟨⟨⟨o0,q0,⟨s0,⟨t0,u0,_⟩,_⟩,_⟩,_,_⟩,w0⟩ =>
 bif eqL o0 then
 bif eqL h0 then
 Option.bind (p158_2 fu ((o0,q0,(s0,(t0,u0,()),()),()),(o,x,h0,n0,w0,()),())) fun ⟨⟨⟨x0,y0,⟨z0,⟨a1,c1,_⟩,_⟩,_⟩,_,_,_⟩,⟨f1,h1,i1,j1,k1,_⟩⟩ =>
 bif eqL x0 then
 bif eqL i1 then
 some (((x0,y0,(z0,(a1,c1,()),()),()),(),()),(f1,h1,i1,j1,k1,()))
 else none
 else none
 else none
 else none
 else none
 else none
 else none
 else none
 else none
else
 bif eqL a then
 Option.bind (p84_2 fu ((a,c,zR0,()),())) fun ⟨⟨⟨l1,m1,⟨n1,⟨o1,q1,_⟩,_⟩,_⟩,_,_⟩,s1⟩ =>
 bif eqL l1 then
 Option.bind (p85_1 fu ((l1,m1,(n1,(o1,q1,()),()),()),(32:Int),())) fun ⟨⟨⟨t1,u1,⟨w1,⟨x1,y1,_⟩,_⟩,_⟩,_,_⟩,z1⟩ =>
 bif eqL t1 then
 Option.bind (p86_2 fu ((t1,u1,(w1,(x1,y1,()),()),()),(256:Int),())) fun ⟨⟨⟨a2,c2,⟨f2,⟨h2,i2,_⟩,_⟩,_⟩,_,_⟩,j2⟩ =>
 bif eqL a2 then
 Option.bind (p84_2 fu ((a2,c2,(f2,(h2,i2,()),()),()),())) fun ⟨⟨⟨k2,l2,⟨m2,⟨n2,o2,_⟩,_⟩,_⟩,_,_⟩,q2⟩ =>
 bif eqL k2 then
 Option.bind (p84_2 fu ((k2,l2,(m2,(n2,o2,()),()),()),())) fun ⟨⟨⟨s2,t2,⟨u2,⟨w2,x2,_⟩,_⟩,_⟩,_,_⟩,y2⟩ =>
 bif eqL s2 then
 bif eqL j2 then
 Option.bind (p158_2 fu ((s2,t2,(u2,(w2,x2,()),()),()),(s1,z1,j2,q2,y2,()),())) fun ⟨⟨⟨z2,a3,⟨c3,⟨f3,h3,_⟩,_⟩,_⟩,_,_,_⟩,⟨i3,j3,k3,l3,m3,_⟩⟩ =>
 bif eqL z2 then
 bif eqL k3 then
 some (((z2,a3,(c3,(f3,h3,()),()),()),(),()),(i3,j3,k3,l3,m3,()))
 else none
 else none
 else none
 else none
 else none
 else none
 else none
 else none
 else none
def e136_1 (fu:Nat):Ent := ⟨136,(.cons Y18 .nil),(.cons Y17 (.cons .dead .nil)),Y12,p136_1 fu⟩
def d136_1 (fu:Nat):DC := (.seq (.region [opD 2 (.alloc 49 5 [vU,vT,vS,vU,vU])] [[]] false) (.seq (.region [mvD 3 0,mvD 4 0,oqD 5 (.call 84 [(tD 4)]) (.ent (e84_2 fu)),mvD 6 0,oqD 7 (.call 85 [(tD 6),(cD 32)]) (.ent (e85_1 fu)),mvD 8 0,oqD 9 (.call 86 [(tD 8),(cD 256)]) (.ent (e86_2 fu)),mvD 10 0,oqD 11 (.call 84 [(tD 10)]) (.ent (e84_2 fu)),mvD 12 0,oqD 13 (.call 84 [(tD 12)]) (.ent (e84_2 fu)),opD 14 (.build 5 [vU,vT,vS,vU,vU] [(0,(1,(tD 5))),(1,(1,(tD 7))),(2,(1,(tD 9))),(3,(1,(tD 11))),(4,(1,(tD 13)))]),oqD 15 (.call 158 [(tD 3),(tD 14)]) (.ent (e158_2 fu)),onD (.store 5 (tD 2) (tD 15))] [[],[],[1],[],[3,2],[],[5,4],[],[7,6],[],[9,8],[2,4,6,8,10],[0,11,10],[12,12,0,1,2,3,4,5,6,7,8,9,10,11,12]] false) .ret))
theorem g136_1 (fu:Nat):(e136_1 fu).Good Tryz.prog := good_fn orders Tryz.func136 fu (d136_1 fu) rs136 16 (l := [e84_2 fu,e85_1 fu,e86_2 fu,e84_2 fu,e84_2 fu,e158_2 fu]) ⟨g84_2 fu,g85_1 fu,g86_2 fu,g84_2 fu,g84_2 fu,g158_2 fu,trivial⟩
def rs91:List RVx := [(.tmp 4)]
def p91 (fu:Nat):((List Int)×(Int×((Bool×((Int×(Int×Unit))×Unit))×Unit)))×(Int×Unit)→Option ((((List Int)×(Int×((Bool×((Int×(Int×Unit))×Unit))×Unit)))×(Unit×Unit))×(List (D_api_Record))) := fun ⟨⟨a,c,⟨f,⟨h,i,_⟩,_⟩,_⟩,j,_⟩ =>
bif f then
 bif eqL a then
 Option.bind (p93_2 fu ((a,c,(true,(h,i,()),dflt .unit),()),j,())) fun ⟨⟨⟨k,l,⟨m,⟨n,o,_⟩,_⟩,_⟩,_,_⟩,q⟩ =>
 bif eqL k then
 loopO (S := ((List (D_api_Record))×(Int×Unit))×(((List Int)×(Int×((Bool×((Int×(Int×Unit))×Unit))×Unit)))×Unit)) fu (fun ⟨⟨s,t,_⟩,⟨⟨u,w,⟨x,⟨y,z,_⟩,_⟩,_⟩,_⟩⟩ =>
 bif decide (t<q) then
 bif eqL u then
 Option.bind (p136_1 fu ((u,w,(x,(y,z,()),()),()),())) fun ⟨⟨⟨a0,c0,⟨f0,⟨h0,i0,_⟩,_⟩,_⟩,_,_⟩,⟨j0,k0,l0,m0,n0,_⟩⟩ =>
 bif eqL l0 then
 bif eqL s then
 bif decide (s.length+List.length ([(j0,k0,l0,m0,n0)])≤maxLen∧(s.length+List.length ([(j0,k0,l0,m0,n0)])) * 64≤140737488355328) then
 bif eqL (s ++ [(j0,k0,l0,m0,n0)]) then
 bif eqL a0 then
 some (.inl (((s ++ [(j0,k0,l0,m0,n0)]),IntKind.wrap .i64 (t+(1:Int)),()),((a0,c0,(f0,(h0,i0,()),()),()),())))
 else none
 else none
 else none
 else none
 else none
 else none
 else
 inrO (bif eqL u then
 bif eqL s then
 some (((u,w,(x,(y,z,()),()),()),(),()),s)
 else none
 else none))
 (([],(0:Int),()),((k,l,(m,(n,o,()),()),()),()))
 else none
 else none
else
 bif eqL a then
 Option.bind (p93_2 fu ((a,c,zR0,()),j,())) fun ⟨⟨⟨o0,q0,⟨s0,⟨t0,u0,_⟩,_⟩,_⟩,_,_⟩,w0⟩ =>
 bif eqL o0 then
 loopO (S := ((List (D_api_Record))×(Int×Unit))×(((List Int)×(Int×((Bool×((Int×(Int×Unit))×Unit))×Unit)))×Unit)) fu (fun ⟨⟨s,t,_⟩,⟨⟨u,w,⟨x,⟨y,z,_⟩,_⟩,_⟩,_⟩⟩ =>
 bif decide (t<w0) then
 bif eqL u then
 Option.bind (p136_1 fu ((u,w,(x,(y,z,()),()),()),())) fun ⟨⟨⟨x0,y0,⟨z0,⟨a1,c1,_⟩,_⟩,_⟩,_,_⟩,⟨f1,h1,i1,j1,k1,_⟩⟩ =>
 bif eqL i1 then
 bif eqL s then
 bif decide (s.length+List.length ([(f1,h1,i1,j1,k1)])≤maxLen∧(s.length+List.length ([(f1,h1,i1,j1,k1)])) * 64≤140737488355328) then
 bif eqL (s ++ [(f1,h1,i1,j1,k1)]) then
 bif eqL x0 then
 some (.inl (((s ++ [(f1,h1,i1,j1,k1)]),IntKind.wrap .i64 (t+(1:Int)),()),((x0,y0,(z0,(a1,c1,()),()),()),())))
 else none
 else none
 else none
 else none
 else none
 else none
 else
 inrO (bif eqL u then
 bif eqL s then
 some (((u,w,(x,(y,z,()),()),()),(),()),s)
 else none
 else none))
 (([],(0:Int),()),((o0,q0,(s0,(t0,u0,()),()),()),()))
 else none
 else none
def e91 (fu:Nat):Ent := ⟨91,(.cons Y18 (.cons hI .nil)),(.cons Y17 (.cons .dead .nil)),(.own .own 49 T_api_Record),p91 fu⟩
def d91 (fu:Nat):DC := (.seq (.region [opD 4 (.mov (.const vS))] [[]] false) (.seq (.region [opD 5 (.mov (.const vS))] [[]] false) (.seq (.seq (.region [mvD 6 0,mvD 7 1,oqD 8 (.call 93 [(tD 6),(tD 7)]) (.ent (e93_2 fu)),opD 9 (.mov (cD 0))] [[],[],[0,1],[]] false) (.block 0 (.loop ⟨[5,9],(.cons (.own .own 49 T_api_Record) (.cons hI .nil)),[(0,176,3)],(.cons Y17 .nil),[0,8],[1]⟩
 (.seq (.region [opD 10 (.bin .lss (tD 9) (tD 8))] [[]] false) (.seq (.cond (.tmp 10) .skip (.exit 0)) (.seq (.block 1 (.region [mvD 11 5,mvD 12 0,oqD 13 (.call 136 [(tD 12)]) (.ent (e136_1 fu)),oqD 14 (.bslice 49 5 1 [vU,vT,vS,vU,vU] [(0,(tD 13))]) (.ty T_api_Record),oqD 15 (.app 49 5 [vU,vT,vS,vU,vU] 64 (tD 11) (tD 14)) (.ty T_api_Record),mvD 5 15] [[],[],[1],[2],[0,3,2],[4,4,0,1,2,3,4]] false)) (.region [opD 16 (.bin .add (tD 9) (cD 1)),mvD 9 16] [[],[0]] false))))))) (.seq (.region [mvD 17 5,mvD 4 17] [[],[0,0]] false) .ret))))
theorem g91 (fu:Nat):(e91 fu).Good Tryz.prog := good_fn orders Tryz.func91 fu (d91 fu) rs91 18 (l := [e93_2 fu,e136_1 fu]) ⟨g93_2 fu,g136_1 fu,trivial⟩
def rs90:List RVx := [(.tmp 2)]
def p90 (fu:Nat):((List Int)×(Int×((Bool×((Int×(Int×Unit))×Unit))×Unit)))×Unit→Option ((((List Int)×(Int×((Bool×((Int×(Int×Unit))×Unit))×Unit)))×(Unit×Unit))×Bool) := fun ⟨⟨a,c,⟨f,⟨h,i,_⟩,_⟩,_⟩,_⟩ =>
bif f then
 bif eqL a then
 Option.bind (p132 fu ((a,c,(true,(h,i,()),dflt .unit),()),(1:Int),())) fun ⟨⟨⟨j,k,⟨l,⟨m,n,_⟩,_⟩,_⟩,_,_⟩,o⟩ =>
 orK (E := Unit×(((List Int)×(Int×((Bool×((Int×(Int×Unit))×Unit))×Unit)))×Unit))
 (orK (E := (Bool×Unit)×Unit)
 (bif (((o.length):Int)==(1:Int)) then
 bif decide ((0:Int)≤0∧0<(o.length:Int)) then
 bif decide (0<o.length) then
 some (.inl ((decide ((o.getD 0 (dflt (.int .u8)))>(1:Int)),()),()))
 else none
 else none
 else
 some (.inl ((false,()),())))
 fun ⟨⟨q,_⟩,_⟩ =>
 bif q then
 bif eqL j then
 Option.bind (p135_1 fu ((j,k,(l,(m,n,()),()),()),c,(16:Int),())) fun ⟨⟨⟨s,t,⟨u,⟨w,x,_⟩,_⟩,_⟩,_,_⟩,_⟩ =>
 bif eqL s then
 some (.inl ((),((s,t,(u,(w,x,()),()),()),())))
 else none
 else none
 else
 bif eqL j then
 some (.inl ((),((j,k,(l,(m,n,()),()),()),())))
 else none)
 fun ⟨_,⟨⟨y,z,⟨a0,⟨c0,f0,_⟩,_⟩,_⟩,_⟩⟩ =>
 bif a0 then
 bif eqL y then
 some (((y,z,(true,(c0,f0,()),dflt .unit),()),(),()),false)
 else none
 else
 bif decide ((0:Int)≤0∧0<(o.length:Int)) then
 bif decide (0<o.length) then
 bif eqL y then
 some (((y,z,zR0,()),(),()),((o.getD 0 (dflt (.int .u8)))==(1:Int)))
 else none
 else none
 else none
 else none
else
 bif eqL a then
 Option.bind (p132 fu ((a,c,zR0,()),(1:Int),())) fun ⟨⟨⟨h0,i0,⟨j0,⟨k0,l0,_⟩,_⟩,_⟩,_,_⟩,m0⟩ =>
 orK (E := Unit×(((List Int)×(Int×((Bool×((Int×(Int×Unit))×Unit))×Unit)))×Unit))
 (orK (E := (Bool×Unit)×Unit)
 (bif (((m0.length):Int)==(1:Int)) then
 bif decide ((0:Int)≤0∧0<(m0.length:Int)) then
 bif decide (0<m0.length) then
 some (.inl ((decide ((m0.getD 0 (dflt (.int .u8)))>(1:Int)),()),()))
 else none
 else none
 else
 some (.inl ((false,()),())))
 fun ⟨⟨q,_⟩,_⟩ =>
 bif q then
 bif eqL h0 then
 Option.bind (p135_1 fu ((h0,i0,(j0,(k0,l0,()),()),()),c,(16:Int),())) fun ⟨⟨⟨n0,o0,⟨q0,⟨s0,t0,_⟩,_⟩,_⟩,_,_⟩,_⟩ =>
 bif eqL n0 then
 some (.inl ((),((n0,o0,(q0,(s0,t0,()),()),()),())))
 else none
 else none
 else
 bif eqL h0 then
 some (.inl ((),((h0,i0,(j0,(k0,l0,()),()),()),())))
 else none)
 fun ⟨_,⟨⟨y,z,⟨a0,⟨c0,f0,_⟩,_⟩,_⟩,_⟩⟩ =>
 bif a0 then
 bif eqL y then
 some (((y,z,(true,(c0,f0,()),dflt .unit),()),(),()),false)
 else none
 else
 bif decide ((0:Int)≤0∧0<(m0.length:Int)) then
 bif decide (0<m0.length) then
 bif eqL y then
 some (((y,z,zR0,()),(),()),((m0.getD 0 (dflt (.int .u8)))==(1:Int)))
 else none
 else none
 else none
 else none
def e90 (fu:Nat):Ent := ⟨90,(.cons Y18 .nil),(.cons Y17 (.cons .dead .nil)),(.hole .bool),p90 fu⟩
def d90 (fu:Nat):DC := (.seq (.region [opD 2 (.mov (.const vB))] [[]] false) (.seq (.region [mvD 5 0,nD 6 5,fD 7 1 6,lD 8 1 7,mvD 3 8] [[],[0],[1],[2],[3,0,1,2,3]] false) (.seq (.region [mvD 9 0,oqD 10 (.call 132 [(tD 9),(cD 1)]) (.ent (e132 fu)),mvD 4 10] [[],[0],[1,1,0,1]] false) (.join ⟨[],.nil,[(0,176,3)],(.cons Y19 .nil),[0,4],[1,117]⟩
 (.join ⟨[19],(.cons (.hole .bool) .nil),[],.nil,[0,3,4],[0,1,116,117]⟩
 (.region [mvD 11 4,opD 12 (.len false (tD 11)),opD 13 (.bin .eql (tD 12) (cD 1)),mvD 14 13,ogD 15 14 true (.mov (tD 4)),ogD 16 14 true (.iaddr 1 (tD 15) (cD 0)),ogD 17 14 true (.load false 1 (tD 16)),ogD 18 14 true (.bin .gtr (tD 17) (.const (.int .u8 1))),opD 19 (.pick (tD 14) (tD 18) (.const vB))] [[],[0],[1],[2],[3],[4,3],[5,3],[6,3],[3,7]] false)
 (.cond (.tmp 19) (.region [mvD 20 0,mvD 21 3,oqD 22 (.call 135 [(tD 20),(tD 21),(cD 16)]) (.ent (e135_1 fu))] [[],[],[0,1]] false) .skip))
 (.seq (.region [mvD 23 0,nD 24 23,fD 25 2 24,lD 26 1 25,opD 27 (.pure (.nilq 1 false) [(tD 26)]),mvD 28 27,ogD 29 28 true (.mov (tD 4)),ogD 30 28 true (.iaddr 1 (tD 29) (cD 0)),ogD 31 28 true (.load false 1 (tD 30)),ogD 32 28 true (.bin .eql (tD 31) (.const (.int .u8 1))),opD 33 (.pick (tD 28) (tD 32) (.const vB)),mvD 2 33] [[],[0],[1],[2],[3],[4],[5],[6,5],[7,5],[8,5],[5,9],[10,5,0,1,2,3,4,5,6,7,8,9,10]] false) .ret)))))
theorem g90 (fu:Nat):(e90 fu).Good Tryz.prog := good_fn orders Tryz.func90 fu (d90 fu) rs90 34 (l := [e132 fu,e135_1 fu]) ⟨g132 fu,g135_1 fu,trivial⟩
def rs133:List RVx := [(.tmp 2),(.tmp 3)]
def p133_2 (fu:Nat):((List Int)×(Int×((Bool×((Int×(Int×Unit))×Unit))×Unit)))×Unit→Option ((((List Int)×(Int×((Bool×((Int×(Int×Unit))×Unit))×Unit)))×(Unit×Unit))×(Int×(Int×Unit))) := fun ⟨⟨a,c,⟨f,⟨h,i,_⟩,_⟩,_⟩,_⟩ =>
bif f then
 orK (E := (Bool×Unit)×(((Bool×(Unit×(Int×(Int×Unit))))×Unit)×Unit))
 (Option.bind (pAsM fu ((false,dflt .unit,(h,i,())),((),()),())) fun ⟨⟨⟨⟨j,_,⟨k,l,_⟩⟩,_⟩,_⟩,m⟩ =>
 bif j then
 some (.inl ((m,()),(((true,(),dflt (.pair (.int .i64) (.pair (.int .i64) .unit))),()),())))
 else
 some (.inl ((m,()),(((false,dflt .unit,(k,l,())),()),()))))
 fun ⟨⟨n,_⟩,⟨⟨⟨o,_,⟨q,s,_⟩⟩,_⟩,_⟩⟩ =>
 bif o then
 bif n then
 none
 else
 bif eqL a then
 some (((a,c,(true,(h,i,()),dflt .unit),()),(),()),((0:Int),(0:Int),()))
 else none
 else
 bif n then
 bif eqL a then
 some (((a,c,(true,(h,i,()),dflt .unit),()),(),()),(q,s,()))
 else none
 else
 bif eqL a then
 some (((a,c,(true,(h,i,()),dflt .unit),()),(),()),((0:Int),(0:Int),()))
 else none
else
 orK (E := (Bool×Unit)×(((Bool×(Unit×(Int×(Int×Unit))))×Unit)×Unit))
 (Option.bind (pAsM fu ((true,(),dflt (.pair (.int .i64) (.pair (.int .i64) .unit))),((),()),())) fun ⟨⟨⟨⟨t,_,⟨u,w,_⟩⟩,_⟩,_⟩,x⟩ =>
 bif t then
 some (.inl ((x,()),(((true,(),dflt (.pair (.int .i64) (.pair (.int .i64) .unit))),()),())))
 else
 some (.inl ((x,()),(((false,dflt .unit,(u,w,())),()),()))))
 fun ⟨⟨n,_⟩,⟨⟨⟨o,_,⟨q,s,_⟩⟩,_⟩,_⟩⟩ =>
 bif o then
 bif n then
 none
 else
 bif eqL a then
 some (((a,c,zR0,()),(),()),((0:Int),(0:Int),()))
 else none
 else
 bif n then
 bif eqL a then
 some (((a,c,zR0,()),(),()),(q,s,()))
 else none
 else
 bif eqL a then
 some (((a,c,zR0,()),(),()),((0:Int),(0:Int),()))
 else none
def e133_2 (fu:Nat):Ent := ⟨133,(.cons Y18 .nil),(.cons Y17 (.cons .dead .nil)),(.tup 2 (.cons hI (.cons hI .nil))),p133_2 fu⟩
def d133_2 (fu:Nat):DC := (.seq (.region [opD 2 (.mov (cD 0)),opD 3 (.mov (cD 0))] [[],[0]] false) (.seq (.region [opD 4 (.alloc 207 1 [(.pointer none)])] [[]] false) (.seq (.join ⟨[10],(.cons (.hole .bool) .nil),[(36,207,1)],(.cons (.agg 1 (.cons (.alt false .nilp (.look (.cons hI (.cons hI .nil)))) .nil)) .nil),[4],[0,1,3]⟩
 (.region [mvD 5 0,nD 6 5,fD 7 2 6,lD 8 1 7,opD 9 (.ifc 208 (tD 4)),oqD 10 (.call 64 [(tD 8),(tD 9)]) (.ent (eAsM fu))] [[],[0],[1],[2],[],[3,4]] false)
 (.cond (.tmp 10) (.seq (.region [lD 11 1 4,nD 12 11,fD 13 0 12,lD 14 1 13,lD 15 1 4,nD 16 15,fD 17 1 16,lD 18 1 17,mvD 2 14,mvD 3 18] [[],[0],[1],[2],[],[4],[5],[6],[3,0,1,2,3],[7,8,0,1,2,3,4,5,6,7,8]] true) .ret) .skip)) (.seq (.region [opD 2 (.mov (cD 0)),opD 3 (.mov (cD 0))] [[],[0,0]] false) .ret))))
theorem g133_2 (fu:Nat):(e133_2 fu).Good Tryz.prog := good_fn orders Tryz.func133 fu (d133_2 fu) rs133 19 (l := [eAsM fu]) ⟨gAsM fu,trivial⟩
def rs87:List RVx := [(.tmp 2)]
def p87 (fu:Nat):((List Int)×(Int×((Bool×((Int×(Int×Unit))×Unit))×Unit)))×Unit→Option ((((List Int)×(Int×((Bool×((Int×(Int×Unit))×Unit))×Unit)))×(Unit×Unit))×Int) := fun ⟨⟨a,c,⟨f,⟨h,i,_⟩,_⟩,_⟩,_⟩ =>
bif f then
 bif eqL a then
 Option.bind (p133_2 fu ((a,c,(true,(h,i,()),dflt .unit),()),())) fun ⟨⟨⟨j,k,⟨l,⟨m,n,_⟩,_⟩,_⟩,_,_⟩,⟨o,_,_⟩⟩ =>
 bif (o==(0:Int)) then
 bif decide (k<((j.length):Int)) then
 bif eqL j then
 some (((j,k,(l,(m,n,()),()),()),(),()),(15:Int))
 else none
 else
 bif eqL j then
 some (((j,k,(l,(m,n,()),()),()),(),()),o)
 else none
 else
 bif eqL j then
 some (((j,k,(l,(m,n,()),()),()),(),()),o)
 else none
 else none
else
 bif eqL a then
 Option.bind (p133_2 fu ((a,c,zR0,()),())) fun ⟨⟨⟨q,s,⟨t,⟨u,w,_⟩,_⟩,_⟩,_,_⟩,⟨x,_,_⟩⟩ =>
 bif (x==(0:Int)) then
 bif decide (s<((q.length):Int)) then
 bif eqL q then
 some (((q,s,(t,(u,w,()),()),()),(),()),(15:Int))
 else none
 else
 bif eqL q then
 some (((q,s,(t,(u,w,()),()),()),(),()),x)
 else none
 else
 bif eqL q then
 some (((q,s,(t,(u,w,()),()),()),(),()),x)
 else none
 else none
def e87 (fu:Nat):Ent := ⟨87,(.cons Y18 .nil),(.cons Y17 (.cons .dead .nil)),hI,p87 fu⟩
def d87 (fu:Nat):DC := (.seq (.region [opD 2 (.mov (cD 0))] [[]] false) (.seq (.region [mvD 6 0,oqD 7 (.call 133 [(tD 6)]) (.ent (e133_2 fu)),mvD 5 7,opD 8 (.ext (tD 5) 0),opD 9 (.ext (tD 5) 1),mvD 3 8,mvD 4 9] [[],[0],[1],[2],[2],[3,1,0,1,2,3],[4,5,0,1,2,3,4,5]] false) (.seq (.seq (.region [mvD 10 3,opD 11 (.bin .eql (tD 10) (cD 0)),mvD 12 11,ogD 13 12 true (.mov (tD 0)),ogD 14 12 true (.pure .nilc [(tD 13)]),ogD 15 12 true (.faddr 1 (tD 14)),ogD 16 12 true (.load false 1 (tD 15)),ogD 17 12 true (.mov (tD 0)),ogD 18 12 true (.pure .nilc [(tD 17)]),ogD 19 12 true (.faddr 0 (tD 18)),ogD 20 12 true (.load false 1 (tD 19)),ogD 21 12 true (.len false (tD 20)),ogD 22 12 true (.bin .lss (tD 16) (tD 21)),opD 23 (.pick (tD 12) (tD 22) (.const vB))] [[],[0],[1],[2],[3,2],[4,2],[5,2],[2],[7,2],[8,2],[9,2],[10,2],[6,11,2],[2,12]] true) (.cond (.tmp 23) (.seq (.region [opD 2 (.mov (cD 15))] [[]] false) .ret) .skip)) (.seq (.region [mvD 24 3,mvD 2 24] [[],[0,0]] false) .ret))))
theorem g87 (fu:Nat):(e87 fu).Good Tryz.prog := good_fn orders Tryz.func87 fu (d87 fu) rs87 25 (l := [e133_2 fu]) ⟨g133_2 fu,trivial⟩
def rs30:List RVx := [(.cell 2 true 7),(.tmp 3)]
def p30 (fu:Nat):(List Int)×Unit→Option (Unit×((Z4)×(Int×Unit))) := fun ⟨a,_⟩ =>
Option.bind (p82 fu (a,())) fun ⟨_,⟨c,f,_,_⟩⟩ =>
bif eqL c then
 Option.bind (p92 fu ((c,f,(),()),())) fun ⟨⟨⟨h,i,⟨j,⟨k,l,_⟩,_⟩,_⟩,_,_⟩,⟨m,n,_⟩⟩ =>
 bif eqL h then
 Option.bind (p84_2 fu ((h,i,(j,(k,l,()),()),()),())) fun ⟨⟨⟨o,q,⟨s,⟨t,u,_⟩,_⟩,_⟩,_,_⟩,w⟩ =>
 bif eqL o then
 Option.bind (p84_2 fu ((o,q,(s,(t,u,()),()),()),())) fun ⟨⟨⟨x,y,⟨z,⟨a0,c0,_⟩,_⟩,_⟩,_,_⟩,f0⟩ =>
 bif eqL x then
 Option.bind (p91 fu ((x,y,(z,(a0,c0,()),()),()),(4096:Int),())) fun ⟨⟨⟨h0,i0,⟨j0,⟨k0,l0,_⟩,_⟩,_⟩,_,_⟩,m0⟩ =>
 bif eqL h0 then
 Option.bind (p93_2 fu ((h0,i0,(j0,(k0,l0,()),()),()),(256:Int),())) fun ⟨⟨⟨n0,o0,⟨q0,⟨s0,t0,_⟩,_⟩,_⟩,_,_⟩,u0⟩ =>
 bif eqL n0 then
 bif eqL m0 then
 loopO (S := (Int×Unit)×(((List Int)×(Int×((Bool×((Int×(Int×Unit))×Unit))×Unit)))×((Z3)×Unit))) fu (fun ⟨⟨w0,_⟩,⟨⟨x0,y0,⟨z0,⟨a1,c1,_⟩,_⟩,_⟩,⟨f1,h1,i1,j1,k1,l1,_,_⟩,_⟩⟩ =>
 bif decide (w0<u0) then
 bif eqL x0 then
 Option.bind (p84_2 fu ((x0,y0,(z0,(a1,c1,()),()),()),())) fun ⟨⟨⟨m1,n1,⟨o1,⟨q1,s1,_⟩,_⟩,_⟩,_,_⟩,t1⟩ =>
 bif eqL m1 then
 Option.bind (p84_2 fu ((m1,n1,(o1,(q1,s1,()),()),()),())) fun ⟨⟨⟨u1,w1,⟨x1,⟨y1,z1,_⟩,_⟩,_⟩,_,_⟩,a2⟩ =>
 bif eqL u1 then
 Option.bind (p90 fu ((u1,w1,(x1,(y1,z1,()),()),()),())) fun ⟨⟨⟨c2,f2,⟨h2,⟨i2,j2,_⟩,_⟩,_⟩,_,_⟩,k2⟩ =>
 bif eqL c2 then
 Option.bind (p84_2 fu ((c2,f2,(h2,(i2,j2,()),()),()),())) fun ⟨⟨⟨l2,m2,⟨n2,⟨o2,q2,_⟩,_⟩,_⟩,_,_⟩,s2⟩ =>
 bif eqL l1 then
 bif decide (l1.length+List.length ([(t1,a2,k2,s2)])≤maxLen∧(l1.length+List.length ([(t1,a2,k2,s2)])) * 32≤140737488355328) then
 bif eqL l2 then
 bif eqL k1 then
 bif eqL (l1 ++ [(t1,a2,k2,s2)]) then
 some (.inl ((IntKind.wrap .i64 (w0+(1:Int)),()),((l2,m2,(n2,(o2,q2,()),()),()),(f1,h1,i1,j1,k1,(l1 ++ [(t1,a2,k2,s2)]),(),()),())))
 else none
 else none
 else none
 else none
 else none
 else none
 else none
 else none
 else none
 else
 inrO (bif eqL x0 then
 Option.bind (p93_2 fu ((x0,y0,(z0,(a1,c1,()),()),()),(64:Int),())) fun ⟨⟨⟨t2,u2,⟨w2,⟨x2,y2,_⟩,_⟩,_⟩,_,_⟩,z2⟩ =>
 bif eqL t2 then
 bif eqL k1 then
 bif eqL l1 then
 loopO (S := (Int×Unit)×(((List Int)×(Int×((Bool×((Int×(Int×Unit))×Unit))×Unit)))×((Z4)×Unit))) fu (fun ⟨⟨a3,_⟩,⟨⟨x0,y0,⟨z0,⟨a1,c1,_⟩,_⟩,_⟩,⟨f1,h1,i1,j1,k1,l1,c3,_⟩,_⟩⟩ =>
 bif decide (a3<z2) then
 bif eqL x0 then
 Option.bind (p85_1 fu ((x0,y0,(z0,(a1,c1,()),()),()),(32:Int),())) fun ⟨⟨⟨f3,h3,⟨i3,⟨j3,k3,_⟩,_⟩,_⟩,_,_⟩,l3⟩ =>
 bif eqL f3 then
 Option.bind (p84_2 fu ((f3,h3,(i3,(j3,k3,()),()),()),())) fun ⟨⟨⟨m3,n3,⟨o3,⟨q3,s3,_⟩,_⟩,_⟩,_,_⟩,t3⟩ =>
 bif eqL c3 then
 bif decide (c3.length+List.length ([(l3,t3)])≤maxLen∧(c3.length+List.length ([(l3,t3)])) * 24≤140737488355328) then
 bif eqL m3 then
 bif eqL k1 then
 bif eqL l1 then
 bif eqL (c3 ++ [(l3,t3)]) then
 some (.inl ((IntKind.wrap .i64 (a3+(1:Int)),()),((m3,n3,(o3,(q3,s3,()),()),()),(f1,h1,i1,j1,k1,l1,(c3 ++ [(l3,t3)]),()),())))
 else none
 else none
 else none
 else none
 else none
 else none
 else none
 else none
 else
 inrO (orK (E := (Bool×Unit)×Unit)
 (bif eqL x0 then
 Option.bind (p87 fu ((x0,y0,(z0,(a1,c1,()),()),()),())) fun ⟨⟨⟨_,_,⟨_,⟨_,_,_⟩,_⟩,_⟩,_,_⟩,u3⟩ =>
 bif (u3 != (0:Int)) then
 some (.inl ((true,()),()))
 else
 bif eqL k1 then
 bif eqL l1 then
 bif eqL c3 then
 Option.bind (p10 fu ((f1,h1,i1,j1,k1,l1,c3,()),())) fun ⟨_,w3⟩ =>
 some (.inl (((w3 != (0:Int)),()),()))
 else none
 else none
 else none
 else none)
 fun ⟨⟨x3,_⟩,_⟩ =>
 bif x3 then
 some ((),(((⟨#[]⟩:ByteArray),(⟨#[]⟩:ByteArray),(0:Int),(0:Int),[],[],[],()),(165:Int),()))
 else
 bif eqL k1 then
 bif eqL l1 then
 bif eqL c3 then
 some ((),((f1,h1,i1,j1,k1,l1,c3,()),(0:Int),()))
 else none
 else none
 else none))
 (((0:Int),()),((t2,u2,(w2,(x2,y2,()),()),()),(f1,h1,i1,j1,k1,l1,[],()),()))
 else none
 else none
 else none
 else none))
 (((0:Int),()),((n0,o0,(q0,(s0,t0,()),()),()),(m,n,w,f0,m0,[],(),()),()))
 else none
 else none
 else none
 else none
 else none
 else none
else none
def e30 (fu:Nat):Ent := ⟨30,(.cons (.hole (.sl (.int .u8))) .nil),.nil,(.tup 2 (.cons Y9 (.cons hI .nil))),p30 fu⟩
def d30 (fu:Nat):DC := (.seq (.region [opD 2 (.alloc 29 7 [vT,vT,vU,vU,vS,vS,vS]),opD 3 (.mov (cD 0))] [[],[]] false) (.seq (.region [mvD 6 0,oqD 7 (.call 82 [(tD 6)]) (.ent (e82 fu)),mvD 4 7] [[],[0],[1,1,0,1]] false) (.seq (.region [mvD 8 4,oqD 9 (.call 92 [(tD 8)]) (.ent (e92 fu)),mvD 10 4,oqD 11 (.call 84 [(tD 10)]) (.ent (e84_2 fu)),mvD 12 4,oqD 13 (.call 84 [(tD 12)]) (.ent (e84_2 fu)),mvD 14 4,oqD 15 (.call 91 [(tD 14),(cD 4096)]) (.ent (e91 fu)),opD 16 (.build 7 [vT,vT,vU,vU,vS,vS,vS] [(0,(2,(tD 9))),(2,(1,(tD 11))),(3,(1,(tD 13))),(4,(1,(tD 15)))]),opD 5 (.alloc 29 7 [vT,vT,vU,vU,vS,vS,vS]),onD (.store 7 (tD 5) (tD 16))] [[],[0],[],[2,1],[],[4,3],[],[6,5],[1,3,5,7],[],[9,8,7,0,1,2,3,4,5,6,7,8,9]] false) (.seq (.seq (.region [mvD 17 4,oqD 18 (.call 93 [(tD 17),(cD 256)]) (.ent (e93_2 fu)),opD 19 (.mov (cD 0))] [[],[0],[]] false) (.block 0 (.loop ⟨[19],(.cons hI .nil),[(48,176,3),(224,29,7)],(.cons Y17 (.cons Y20 .nil)),[2,4,5,18],[0]⟩
 (.seq (.region [opD 20 (.bin .lss (tD 19) (tD 18))] [[]] false) (.seq (.cond (.tmp 20) .skip (.exit 0)) (.seq (.block 1 (.region [fD 21 5 5,lD 22 1 21,mvD 23 4,oqD 24 (.call 84 [(tD 23)]) (.ent (e84_2 fu)),mvD 25 4,oqD 26 (.call 84 [(tD 25)]) (.ent (e84_2 fu)),mvD 27 4,oqD 28 (.call 90 [(tD 27)]) (.ent (e90 fu)),mvD 29 4,oqD 30 (.call 84 [(tD 29)]) (.ent (e84_2 fu)),opD 31 (.build 4 [vU,vU,vB,vU] [(0,(1,(tD 24))),(1,(1,(tD 26))),(2,(1,(tD 28))),(3,(1,(tD 30)))]),oqD 32 (.bslice 77 4 1 [vU,vU,vB,vU] [(0,(tD 31))]) (.ty T_api_Producer),oqD 33 (.app 77 4 [vU,vU,vB,vU] 32 (tD 22) (tD 32)) (.ty T_api_Producer),fD 34 5 5,onD (.store 1 (tD 34) (tD 33))] [[],[0],[],[2],[],[4,3],[],[6,5],[],[8,7],[3,5,7,9],[10],[1,11,9],[0,1,2,3,4,5,6,7,8,9,10,11,12],[13,12,12,0,1,2,3,4,5,6,7,8,9,10,11,12]] true)) (.region [opD 35 (.bin .add (tD 19) (cD 1)),mvD 19 35] [[],[0]] false))))))) (.seq (.seq (.region [mvD 36 4,oqD 37 (.call 93 [(tD 36),(cD 64)]) (.ent (e93_2 fu)),opD 38 (.mov (cD 0))] [[],[0],[]] false) (.block 2 (.loop ⟨[38],(.cons hI .nil),[(48,176,3),(224,29,7)],(.cons Y17 (.cons Y9 .nil)),[2,4,5,37],[0]⟩
 (.seq (.region [opD 39 (.bin .lss (tD 38) (tD 37))] [[]] false) (.seq (.cond (.tmp 39) .skip (.exit 2)) (.seq (.block 3 (.region [fD 40 6 5,lD 41 1 40,mvD 42 4,oqD 43 (.call 85 [(tD 42),(cD 32)]) (.ent (e85_1 fu)),mvD 44 4,oqD 45 (.call 84 [(tD 44)]) (.ent (e84_2 fu)),opD 46 (.build 2 [vT,vU] [(0,(1,(tD 43))),(1,(1,(tD 45)))]),oqD 47 (.bslice 79 2 1 [vT,vU] [(0,(tD 46))]) (.ty T_runtime_errorAddressString),oqD 48 (.app 79 2 [vT,vU] 24 (tD 41) (tD 47)) (.ty T_runtime_errorAddressString),fD 49 6 5,onD (.store 1 (tD 49) (tD 48))] [[],[0],[],[2],[],[4,3],[3,5],[6],[1,7,5],[0,1,2,3,4,5,6,7,8],[9,8,8,0,1,2,3,4,5,6,7,8]] true)) (.region [opD 50 (.bin .add (tD 38) (cD 1)),mvD 38 50] [[],[0]] false))))))) (.seq (.join ⟨[58],(.cons (.hole .bool) .nil),[],.nil,[2,5],[0,224,372,373,374]⟩
 (.region [mvD 51 4,oqD 52 (.call 87 [(tD 51)]) (.ent (e87 fu)),opD 53 (.bin .neq (tD 52) (cD 0)),mvD 54 53,ogD 55 54 false (.load true 7 (tD 5)),(⟨(some 56),(some (54,false)),(.call 10 [(tD 55)])⟩,(.ent (e10 fu))),ogD 57 54 false (.bin .neq (tD 56) (cD 0)),opD 58 (.pick (tD 54) (.const (.bool true)) (tD 57))] [[],[0],[1],[2,1],[3],[4,3,3],[5,3],[3,6]] false)
 (.cond (.tmp 58) (.seq (.region [opD 59 (.build 7 [vT,vT,vU,vU,vS,vS,vS] []),onD (.store 7 (tD 2) (tD 59)),opD 3 (.mov (cD 165))] [[],[0,0],[1,0,1]] false) .ret) .skip)) (.seq (.region [opD 60 (.load true 7 (tD 5)),onD (.store 7 (tD 2) (tD 60)),opD 3 (.mov (cD 0))] [[],[0,0],[1,0,1]] false) .ret)))))))
theorem g30 (fu:Nat):(e30 fu).Good Tryz.prog := good_fn orders Tryz.func30 fu (d30 fu) rs30 61 (l := [e82 fu,e92 fu,e84_2 fu,e84_2 fu,e91 fu,e93_2 fu,e84_2 fu,e84_2 fu,e90 fu,e84_2 fu,e93_2 fu,e85_1 fu,e84_2 fu,e87 fu,e10 fu]) ⟨g82 fu,g92 fu,g84_2 fu,g84_2 fu,g91 fu,g93_2 fu,g84_2 fu,g84_2 fu,g90 fu,g84_2 fu,g93_2 fu,g85_1 fu,g84_2 fu,g87 fu,g10 fu,trivial⟩
def rs70:List RVx := [(.tmp 4)]
def p70 (fu:Nat):(List (D_api_Record))×((List (D_api_Record))×Unit)→Option (Unit×Bool) := fun ⟨a,c,_⟩ =>
bif ((a.length:Int) != (c.length:Int)) then
 some ((),false)
else
 loopO (S := (Int×Unit)×Unit) fu (fun ⟨⟨f,_⟩,_⟩ =>
 bif decide (f<(a.length:Int)) then
 bif decide ((0:Int)≤f∧f<(a.length:Int)) then
 bif decide (f.toNat<a.length) then
 bif decide ((0:Int)≤f∧f<(c.length:Int)) then
 bif decide (f.toNat<c.length) then
 bif (((a.getD (f.toNat) (dflt T_api_Record)).1) != ((c.getD (f.toNat) (dflt T_api_Record)).1)) then
 inrO (some ((),false))
 else
 bif decide ((0:Int)≤f∧f<(a.length:Int)) then
 bif decide (f.toNat<a.length) then
 bif decide ((0:Int)≤f∧f<(c.length:Int)) then
 bif decide (f.toNat<c.length) then
 bif !(ByteArray.toList (((a.getD (f.toNat) (dflt T_api_Record)).2).1)==ByteArray.toList (((c.getD (f.toNat) (dflt T_api_Record)).2).1)) then
 inrO (some ((),false))
 else
 bif decide ((0:Int)≤f∧f<(a.length:Int)) then
 bif decide (f.toNat<a.length) then
 bif decide ((0:Int)≤f∧f<(c.length:Int)) then
 bif decide (f.toNat<c.length) then
 bif !(ByteArray.toList (strOfNums ((((a.getD (f.toNat) (dflt T_api_Record)).2).2).1))==ByteArray.toList (strOfNums ((((c.getD (f.toNat) (dflt T_api_Record)).2).2).1))) then
 inrO (some ((),false))
 else
 bif decide ((0:Int)≤f∧f<(a.length:Int)) then
 bif decide (f.toNat<a.length) then
 bif decide ((0:Int)≤f∧f<(c.length:Int)) then
 bif decide (f.toNat<c.length) then
 bif ((((((a.getD (f.toNat) (dflt T_api_Record)).2).2).2).1) != (((((c.getD (f.toNat) (dflt T_api_Record)).2).2).2).1)) then
 inrO (some ((),false))
 else
 bif decide ((0:Int)≤f∧f<(a.length:Int)) then
 bif decide (f.toNat<a.length) then
 bif decide ((0:Int)≤f∧f<(c.length:Int)) then
 bif decide (f.toNat<c.length) then
 bif ((((((a.getD (f.toNat) (dflt T_api_Record)).2).2).2).2) != (((((c.getD (f.toNat) (dflt T_api_Record)).2).2).2).2)) then
 inrO (some ((),false))
 else
 some (.inl ((IntKind.wrap .i64 (f+(1:Int)),()),()))
 else none
 else none
 else none
 else none
 else none
 else none
 else none
 else none
 else none
 else none
 else none
 else none
 else none
 else none
 else none
 else none
 else none
 else none
 else none
 else none
 else
 inrO (some ((),true)))
 (((0:Int),()),())
def e70 (fu:Nat):Ent := ⟨70,(.cons (.hole (.sl T_api_Record)) (.cons (.hole (.sl T_api_Record)) .nil)),.nil,(.hole .bool),p70 fu⟩
def d70 (_:Nat):DC := (.seq (.region [opD 4 (.mov (.const vB))] [[]] false) (.seq (.seq (.region [mvD 6 0,opD 7 (.len false (tD 6)),mvD 8 1,opD 9 (.len false (tD 8)),opD 10 (.bin .neq (tD 7) (tD 9))] [[],[0],[],[2],[1,3]] false) (.cond (.tmp 10) (.seq (.region [opD 4 (.mov (.const vB))] [[]] false) .ret) .skip)) (.seq (.seq (.region [opD 5 (.mov (cD 0))] [[]] false) (.block 0 (.loop ⟨[5],(.cons hI .nil),[],.nil,[0,1],[]⟩
 (.seq (.seq (.region [mvD 11 5,mvD 12 0,opD 13 (.len false (tD 12)),opD 14 (.bin .lss (tD 11) (tD 13))] [[],[],[1],[0,2]] false) (.cond (.tmp 14) .skip (.exit 0))) (.seq (.block 1 (.seq (.region [mvD 17 0,mvD 18 5,opD 19 (.iaddr 5 (tD 17) (tD 18)),fD 20 0 19,lD 21 1 20,mvD 22 1,mvD 23 5,opD 24 (.iaddr 5 (tD 22) (tD 23)),fD 25 0 24,lD 26 1 25,opD 27 (.bin .neq (tD 21) (tD 26)),mvD 28 27,ogD 29 28 false (.mov (tD 0)),ogD 30 28 false (.mov (tD 5)),ogD 31 28 false (.iaddr 5 (tD 29) (tD 30)),ogD 32 28 false (.faddr 1 (tD 31)),ogD 33 28 false (.load false 1 (tD 32)),ogD 34 28 false (.mov (tD 1)),ogD 35 28 false (.mov (tD 5)),ogD 36 28 false (.iaddr 5 (tD 34) (tD 35)),ogD 37 28 false (.faddr 1 (tD 36)),ogD 38 28 false (.load false 1 (tD 37)),ogD 39 28 false (.bin .neq (tD 33) (tD 38)),opD 40 (.pick (tD 28) (.const (.bool true)) (tD 39)),mvD 41 40,ogD 42 41 false (.mov (tD 0)),ogD 43 41 false (.mov (tD 5)),ogD 44 41 false (.iaddr 5 (tD 42) (tD 43)),ogD 45 41 false (.faddr 2 (tD 44)),ogD 46 41 false (.load false 1 (tD 45)),ogD 47 41 false (.b2s (tD 46)),ogD 48 41 false (.mov (tD 1)),ogD 49 41 false (.mov (tD 5)),ogD 50 41 false (.iaddr 5 (tD 48) (tD 49)),ogD 51 41 false (.faddr 2 (tD 50)),ogD 52 41 false (.load false 1 (tD 51)),ogD 53 41 false (.b2s (tD 52)),ogD 54 41 false (.bin .neq (tD 47) (tD 53)),opD 55 (.pick (tD 41) (.const (.bool true)) (tD 54)),mvD 56 55,ogD 57 56 false (.mov (tD 0)),ogD 58 56 false (.mov (tD 5)),ogD 59 56 false (.iaddr 5 (tD 57) (tD 58)),ogD 60 56 false (.faddr 3 (tD 59)),ogD 61 56 false (.load false 1 (tD 60)),ogD 62 56 false (.mov (tD 1)),ogD 63 56 false (.mov (tD 5)),ogD 64 56 false (.iaddr 5 (tD 62) (tD 63)),ogD 65 56 false (.faddr 3 (tD 64)),ogD 66 56 false (.load false 1 (tD 65)),ogD 67 56 false (.bin .neq (tD 61) (tD 66)),opD 68 (.pick (tD 56) (.const (.bool true)) (tD 67)),mvD 69 68,ogD 70 69 false (.mov (tD 0)),ogD 71 69 false (.mov (tD 5)),ogD 72 69 false (.iaddr 5 (tD 70) (tD 71)),ogD 73 69 false (.faddr 4 (tD 72)),ogD 74 69 false (.load false 1 (tD 73)),ogD 75 69 false (.mov (tD 1)),ogD 76 69 false (.mov (tD 5)),ogD 77 69 false (.iaddr 5 (tD 75) (tD 76)),ogD 78 69 false (.faddr 4 (tD 77)),ogD 79 69 false (.load false 1 (tD 78)),ogD 80 69 false (.bin .neq (tD 74) (tD 79)),opD 81 (.pick (tD 69) (.const (.bool true)) (tD 80))] [[],[],[0,1],[2],[3],[],[],[5,6],[7],[8],[4,9],[10],[11],[11],[12,13,11],[14,11],[15,11],[11],[11],[17,18,11],[19,11],[20,11],[16,21,11],[11,22],[23,11],[24],[24],[25,26,24],[27,24],[28,24],[29,24],[24],[24],[31,32,24],[33,24],[34,24],[35,24],[30,36,24],[24,37],[38,24],[39],[39],[40,41,39],[42,39],[43,39],[39],[39],[45,46,39],[47,39],[48,39],[44,49,39],[39,50],[51,39],[52],[52],[53,54,52],[55,52],[56,52],[52],[52],[58,59,52],[60,52],[61,52],[57,62,52],[52,63]] true) (.cond (.tmp 81) (.seq (.region [opD 4 (.mov (.const vB))] [[]] false) .ret) .skip))) (.region [mvD 15 5,opD 16 (.bin .add (tD 15) (cD 1)),mvD 5 16] [[],[0],[1,0,1]] false)))))) (.seq (.region [opD 4 (.mov (.const (.bool true)))] [[]] false) .ret))))
theorem g70 (fu:Nat):(e70 fu).Good Tryz.prog := good_fn orders Tryz.func70 fu (d70 fu) rs70 82 (l := []) trivial
def rs71:List RVx := [(.tmp 4)]
def p71 (fu:Nat):(List (D_api_Producer))×((List (D_api_Producer))×Unit)→Option (Unit×Bool) := fun ⟨a,c,_⟩ =>
bif ((a.length:Int) != (c.length:Int)) then
 some ((),false)
else
 loopO (S := (Int×Unit)×Unit) fu (fun ⟨⟨f,_⟩,_⟩ =>
 bif decide (f<(a.length:Int)) then
 bif decide ((0:Int)≤f∧f<(a.length:Int)) then
 bif decide (f.toNat<a.length) then
 bif decide ((0:Int)≤f∧f<(c.length:Int)) then
 bif decide (f.toNat<c.length) then
 bif !(((a.getD (f.toNat) (dflt T_api_Producer)).1)==((c.getD (f.toNat) (dflt T_api_Producer)).1) && ((((a.getD (f.toNat) (dflt T_api_Producer)).2).1)==(((c.getD (f.toNat) (dflt T_api_Producer)).2).1) && (((((a.getD (f.toNat) (dflt T_api_Producer)).2).2).1)==((((c.getD (f.toNat) (dflt T_api_Producer)).2).2).1) && (((((a.getD (f.toNat) (dflt T_api_Producer)).2).2).2)==((((c.getD (f.toNat) (dflt T_api_Producer)).2).2).2) && true)))) then
 inrO (some ((),false))
 else
 some (.inl ((IntKind.wrap .i64 (f+(1:Int)),()),()))
 else none
 else none
 else none
 else none
 else
 inrO (some ((),true)))
 (((0:Int),()),())
def e71 (fu:Nat):Ent := ⟨71,(.cons (.hole (.sl T_api_Producer)) (.cons (.hole (.sl T_api_Producer)) .nil)),.nil,(.hole .bool),p71 fu⟩
def d71 (_:Nat):DC := (.seq (.region [opD 4 (.mov (.const vB))] [[]] false) (.seq (.seq (.region [mvD 6 0,opD 7 (.len false (tD 6)),mvD 8 1,opD 9 (.len false (tD 8)),opD 10 (.bin .neq (tD 7) (tD 9))] [[],[0],[],[2],[1,3]] false) (.cond (.tmp 10) (.seq (.region [opD 4 (.mov (.const vB))] [[]] false) .ret) .skip)) (.seq (.seq (.region [opD 5 (.mov (cD 0))] [[]] false) (.block 0 (.loop ⟨[5],(.cons hI .nil),[],.nil,[0,1],[]⟩
 (.seq (.seq (.region [mvD 11 5,mvD 12 0,opD 13 (.len false (tD 12)),opD 14 (.bin .lss (tD 11) (tD 13))] [[],[],[1],[0,2]] false) (.cond (.tmp 14) .skip (.exit 0))) (.seq (.block 1 (.seq (.region [mvD 17 0,mvD 18 5,opD 19 (.iaddr 4 (tD 17) (tD 18)),opD 20 (.load true 4 (tD 19)),mvD 21 1,mvD 22 5,opD 23 (.iaddr 4 (tD 21) (tD 22)),opD 24 (.load true 4 (tD 23)),opD 25 (.seq true [.int,.int,.bool,.int] (tD 20) (tD 24))] [[],[],[0,1],[2],[],[],[4,5],[6],[3,7]] true) (.cond (.tmp 25) (.seq (.region [opD 4 (.mov (.const vB))] [[]] false) .ret) .skip))) (.region [mvD 15 5,opD 16 (.bin .add (tD 15) (cD 1)),mvD 5 16] [[],[0],[1,0,1]] false)))))) (.seq (.region [opD 4 (.mov (.const (.bool true)))] [[]] false) .ret))))
theorem g71 (fu:Nat):(e71 fu).Good Tryz.prog := good_fn orders Tryz.func71 fu (d71 fu) rs71 26 (l := []) trivial
def rs72:List RVx := [(.tmp 4)]
def p72 (fu:Nat):(List (D_runtime_errorAddressString))×((List (D_runtime_errorAddressString))×Unit)→Option (Unit×Bool) := fun ⟨a,c,_⟩ =>
bif ((a.length:Int) != (c.length:Int)) then
 some ((),false)
else
 loopO (S := (Int×Unit)×Unit) fu (fun ⟨⟨f,_⟩,_⟩ =>
 bif decide (f<(a.length:Int)) then
 bif decide ((0:Int)≤f∧f<(a.length:Int)) then
 bif decide (f.toNat<a.length) then
 bif decide ((0:Int)≤f∧f<(c.length:Int)) then
 bif decide (f.toNat<c.length) then
 bif !(((a.getD (f.toNat) (dflt T_runtime_errorAddressString)).1)==((c.getD (f.toNat) (dflt T_runtime_errorAddressString)).1) && (((a.getD (f.toNat) (dflt T_runtime_errorAddressString)).2)==((c.getD (f.toNat) (dflt T_runtime_errorAddressString)).2) && true)) then
 inrO (some ((),false))
 else
 some (.inl ((IntKind.wrap .i64 (f+(1:Int)),()),()))
 else none
 else none
 else none
 else none
 else
 inrO (some ((),true)))
 (((0:Int),()),())
def e72 (fu:Nat):Ent := ⟨72,(.cons (.hole (.sl T_runtime_errorAddressString)) (.cons (.hole (.sl T_runtime_errorAddressString)) .nil)),.nil,(.hole .bool),p72 fu⟩
def d72 (_:Nat):DC := (.seq (.region [opD 4 (.mov (.const vB))] [[]] false) (.seq (.seq (.region [mvD 6 0,opD 7 (.len false (tD 6)),mvD 8 1,opD 9 (.len false (tD 8)),opD 10 (.bin .neq (tD 7) (tD 9))] [[],[0],[],[2],[1,3]] false) (.cond (.tmp 10) (.seq (.region [opD 4 (.mov (.const vB))] [[]] false) .ret) .skip)) (.seq (.seq (.region [opD 5 (.mov (cD 0))] [[]] false) (.block 0 (.loop ⟨[5],(.cons hI .nil),[],.nil,[0,1],[]⟩
 (.seq (.seq (.region [mvD 11 5,mvD 12 0,opD 13 (.len false (tD 12)),opD 14 (.bin .lss (tD 11) (tD 13))] [[],[],[1],[0,2]] false) (.cond (.tmp 14) .skip (.exit 0))) (.seq (.block 1 (.seq (.region [mvD 17 0,mvD 18 5,opD 19 (.iaddr 2 (tD 17) (tD 18)),opD 20 (.load true 2 (tD 19)),mvD 21 1,mvD 22 5,opD 23 (.iaddr 2 (tD 21) (tD 22)),opD 24 (.load true 2 (tD 23)),opD 25 (.seq true [.str,.int] (tD 20) (tD 24))] [[],[],[0,1],[2],[],[],[4,5],[6],[3,7]] true) (.cond (.tmp 25) (.seq (.region [opD 4 (.mov (.const vB))] [[]] false) .ret) .skip))) (.region [mvD 15 5,opD 16 (.bin .add (tD 15) (cD 1)),mvD 5 16] [[],[0],[1,0,1]] false)))))) (.seq (.region [opD 4 (.mov (.const (.bool true)))] [[]] false) .ret))))
theorem g72 (fu:Nat):(e72 fu).Good Tryz.prog := good_fn orders Tryz.func72 fu (d72 fu) rs72 26 (l := []) trivial
def rs16:List RVx := [(.tmp 4)]
def p16 (fu:Nat):(Z4)×((Z4)×Unit)→Option (Unit×Bool) := fun ⟨⟨a,c,f,h,i,j,k,_⟩,⟨l,m,n,o,q,s,t,_⟩,_⟩ =>
Option.bind (p70 fu (i,q,())) fun ⟨_,u⟩ =>
Option.bind (p71 fu (j,s,())) fun ⟨_,w⟩ =>
Option.bind (p72 fu (k,t,())) fun ⟨_,x⟩ =>
bif u then
 bif w then
 bif x then
 bif (a==l && (c==m && true)) then
 bif (f==n) then
 some ((),(h==o))
 else
 some ((),false)
 else
 some ((),false)
 else
 some ((),false)
 else
 some ((),false)
else
 some ((),false)
def e16 (fu:Nat):Ent := ⟨16,(.cons Y7 (.cons Y7 .nil)),.nil,(.hole .bool),p16 fu⟩
def d16 (fu:Nat):DC := (.seq (.region [opD 2 (.box 29 7 (tD 0)),opD 3 (.box 29 7 (tD 1)),opD 4 (.mov (.const vB))] [[],[],[]] false) (.seq (.region [fD 8 4 2,lD 9 1 8,fD 10 4 3,lD 11 1 10,oqD 12 (.call 70 [(tD 9),(tD 11)]) (.ent (e70 fu)),mvD 5 12] [[],[0],[],[2],[1,3],[4,4,0,1,2,3,4]] false) (.seq (.region [fD 13 5 2,lD 14 1 13,fD 15 5 3,lD 16 1 15,oqD 17 (.call 71 [(tD 14),(tD 16)]) (.ent (e71 fu)),mvD 6 17] [[],[0],[],[2],[1,3],[4,4,0,1,2,3,4]] false) (.seq (.region [fD 18 6 2,lD 19 1 18,fD 20 6 3,lD 21 1 20,oqD 22 (.call 72 [(tD 19),(tD 21)]) (.ent (e72 fu)),mvD 7 22] [[],[0],[],[2],[1,3],[4,4,0,1,2,3,4]] false) (.seq (.region [mvD 23 5,mvD 24 23,ogD 25 24 true (.mov (tD 6)),opD 26 (.pick (tD 24) (tD 25) (.const vB)),mvD 27 26,ogD 28 27 true (.mov (tD 7)),opD 29 (.pick (tD 27) (tD 28) (.const vB)),mvD 30 29,ogD 31 30 true (.faddr 0 (tD 2)),ogD 32 30 true (.load true 2 (tD 31)),ogD 33 30 true (.faddr 0 (tD 3)),ogD 34 30 true (.load true 2 (tD 33)),ogD 35 30 true (.seq false [.str,.str] (tD 32) (tD 34)),opD 36 (.pick (tD 30) (tD 35) (.const vB)),mvD 37 36,ogD 38 37 true (.faddr 2 (tD 2)),ogD 39 37 true (.load false 1 (tD 38)),ogD 40 37 true (.faddr 2 (tD 3)),ogD 41 37 true (.load false 1 (tD 40)),ogD 42 37 true (.bin .eql (tD 39) (tD 41)),opD 43 (.pick (tD 37) (tD 42) (.const vB)),mvD 44 43,ogD 45 44 true (.faddr 3 (tD 2)),ogD 46 44 true (.load false 1 (tD 45)),ogD 47 44 true (.faddr 3 (tD 3)),ogD 48 44 true (.load false 1 (tD 47)),ogD 49 44 true (.bin .eql (tD 46) (tD 48)),opD 50 (.pick (tD 44) (tD 49) (.const vB)),mvD 4 50] [[],[0],[1],[1,2],[3,1],[4],[4,5],[6,4],[7],[8,7],[7],[10,7],[9,11,7],[7,12],[13,7],[14],[15,14],[14],[17,14],[16,18,14],[14,19],[20,14],[21],[22,21],[21],[24,21],[23,25,21],[21,26],[27,21,0,1,2,3,4,5,6,7,8,9,10,11,12,13,14,15,16,17,18,19,20,21,22,23,24,25,26,27]] false) .ret)))))
theorem g16 (fu:Nat):(e16 fu).Good Tryz.prog := good_fn orders Tryz.func16 fu (d16 fu) rs16 51 (l := [e70 fu,e71 fu,e72 fu]) ⟨g70 fu,g71 fu,g72 fu,trivial⟩
def rs73:List RVx := []
def p73 (fu:Nat):(Unit×Unit)×(Int×Unit)→Option ((((List Int)×Unit)×Unit)×Unit) := fun ⟨⟨_,_⟩,a,_⟩ =>
Option.bind (p74 fu (((),()),IntKind.wrap .u64 ((BitVec.ofInt (IntKind.bits .u64) (IntKind.wrap .u64 ((IntKind.wrap .u64 a) * 2 ^ (min (Int.toNat (1:Int)) (IntKind.bits .u64)))) ^^^ BitVec.ofInt (IntKind.bits .u64) (IntKind.wrap .u64 (Int.fdiv a (2 ^ (min (Int.toNat (63:Int)) (IntKind.bits .i64)))))).toNat:Int),())) fun ⟨⟨⟨c,_⟩,_⟩,_⟩ =>
bif eqL c then
 some (((c,()),()),())
else none
def e73 (fu:Nat):Ent := ⟨73,(.cons (.box 117 1 (.cons .nils .nil)) (.cons hI .nil)),(.cons (.agg 1 (.cons (.own .own 5 (.int .u8)) .nil)) .nil),(.tup 0 .nil),p73 fu⟩
def d73 (fu:Nat):DC := (.region [mvD 4 0,mvD 5 1,opD 6 (.conv .u64 (tD 5)),opD 7 (.bin .shl (tD 6) (.const (.int .u64 1))),mvD 8 1,opD 9 (.bin .shr (tD 8) (.const (.int .u64 63))),opD 10 (.conv .u64 (tD 9)),opD 11 (.bin .xor (tD 7) (tD 10)),oqD 12 (.call 74 [(tD 4),(tD 11)]) (.ent (e74 fu))] [[],[],[1],[2],[],[4],[5],[3,6],[0,7]] false)
theorem g73 (fu:Nat):(e73 fu).Good Tryz.prog := good_fn orders Tryz.func73 fu (d73 fu) rs73 13 (l := [e74 fu]) ⟨g74 fu,trivial⟩
def p73_1 (fu:Nat):((List Int)×Unit)×(Int×Unit)→Option ((((List Int)×Unit)×(Unit×Unit))×Unit) := fun ⟨⟨a,_⟩,c,_⟩ =>
bif eqL a then
 Option.bind (p74_1 fu ((a,()),IntKind.wrap .u64 ((BitVec.ofInt (IntKind.bits .u64) (IntKind.wrap .u64 ((IntKind.wrap .u64 c) * 2 ^ (min (Int.toNat (1:Int)) (IntKind.bits .u64)))) ^^^ BitVec.ofInt (IntKind.bits .u64) (IntKind.wrap .u64 (Int.fdiv c (2 ^ (min (Int.toNat (63:Int)) (IntKind.bits .i64)))))).toNat:Int),())) fun ⟨⟨⟨f,_⟩,_,_⟩,_⟩ =>
 bif eqL f then
 some (((f,()),(),()),())
 else none
else none
def e73_1 (fu:Nat):Ent := ⟨73,(.cons (.box 117 1 (.cons (.own .own 5 (.int .u8)) .nil)) (.cons hI .nil)),(.cons (.agg 1 (.cons (.own .own 5 (.int .u8)) .nil)) (.cons .dead .nil)),(.tup 0 .nil),p73_1 fu⟩
def d73_1 (fu:Nat):DC := (.region [mvD 4 0,mvD 5 1,opD 6 (.conv .u64 (tD 5)),opD 7 (.bin .shl (tD 6) (.const (.int .u64 1))),mvD 8 1,opD 9 (.bin .shr (tD 8) (.const (.int .u64 63))),opD 10 (.conv .u64 (tD 9)),opD 11 (.bin .xor (tD 7) (tD 10)),oqD 12 (.call 74 [(tD 4),(tD 11)]) (.ent (e74_1 fu))] [[],[],[1],[2],[],[4],[5],[3,6],[0,7]] false)
theorem g73_1 (fu:Nat):(e73_1 fu).Good Tryz.prog := good_fn orders Tryz.func73 fu (d73_1 fu) rs73 13 (l := [e74_1 fu]) ⟨g74_1 fu,trivial⟩
def rs21:List RVx := [(.tmp 2)]
def p21 (fu:Nat):(Z5)×Unit→Option (Unit×(List Int)) := fun ⟨⟨a,c,f,h,i,j,k,l,m,n,_⟩,_⟩ =>
Option.bind (p73 fu (((),()),a,())) fun ⟨⟨⟨o,_⟩,_⟩,_⟩ =>
bif eqL o then
 Option.bind (p74_1 fu ((o,()),c,())) fun ⟨⟨⟨q,_⟩,_,_⟩,_⟩ =>
 bif (a==(1:Int)) then
 bif eqL q then
 Option.bind (p74_1 fu ((q,()),f,())) fun ⟨⟨⟨s,_⟩,_,_⟩,_⟩ =>
 bif eqL s then
 Option.bind (p74_1 fu ((s,()),h,())) fun ⟨⟨⟨t,_⟩,_,_⟩,_⟩ =>
 bif eqL t then
 Option.bind (p75_1 fu ((t,()),i,())) fun ⟨⟨⟨u,_⟩,_,_⟩,_⟩ =>
 bif eqL u then
 Option.bind (p76 fu ((u,()),j,())) fun ⟨⟨⟨w,_⟩,_,_⟩,_⟩ =>
 bif eqL w then
 Option.bind (p77 fu ((w,()),())) fun ⟨_,x⟩ =>
 bif eqL x then
 some ((),x)
 else none
 else none
 else none
 else none
 else none
 else none
 else
 bif (a==(2:Int)) then
 bif eqL q then
 Option.bind (p74_1 fu ((q,()),k,())) fun ⟨⟨⟨y,_⟩,_,_⟩,_⟩ =>
 bif eqL y then
 Option.bind (p73_1 fu ((y,()),l,())) fun ⟨⟨⟨z,_⟩,_,_⟩,_⟩ =>
 bif eqL z then
 Option.bind (p77 fu ((z,()),())) fun ⟨_,a0⟩ =>
 bif eqL a0 then
 some ((),a0)
 else none
 else none
 else none
 else none
 else
 bif (a==(3:Int)) then
 bif eqL q then
 Option.bind (p74_1 fu ((q,()),f,())) fun ⟨⟨⟨c0,_⟩,_,_⟩,_⟩ =>
 bif eqL c0 then
 Option.bind (p74_1 fu ((c0,()),h,())) fun ⟨⟨⟨f0,_⟩,_,_⟩,_⟩ =>
 bif eqL f0 then
 Option.bind (p75_1 fu ((f0,()),m,())) fun ⟨⟨⟨h0,_⟩,_,_⟩,_⟩ =>
 bif eqL h0 then
 Option.bind (p74_1 fu ((h0,()),k,())) fun ⟨⟨⟨i0,_⟩,_,_⟩,_⟩ =>
 bif eqL i0 then
 Option.bind (p77 fu ((i0,()),())) fun ⟨_,j0⟩ =>
 bif eqL j0 then
 some ((),j0)
 else none
 else none
 else none
 else none
 else none
 else none
 else
 bif (a==(4:Int)) then
 bif eqL q then
 Option.bind (p75_1 fu ((q,()),m,())) fun ⟨⟨⟨k0,_⟩,_,_⟩,_⟩ =>
 bif eqL k0 then
 Option.bind (p77 fu ((k0,()),())) fun ⟨_,l0⟩ =>
 bif eqL l0 then
 some ((),l0)
 else none
 else none
 else none
 else
 orK (E := (Bool×Unit)×Unit)
 (bif (a==(5:Int)) then
 some (.inl ((true,()),()))
 else
 some (.inl (((a==(6:Int)),()),())))
 fun ⟨⟨m0,_⟩,_⟩ =>
 bif m0 then
 bif eqL q then
 Option.bind (p74_1 fu ((q,()),n,())) fun ⟨⟨⟨n0,_⟩,_,_⟩,_⟩ =>
 bif eqL n0 then
 Option.bind (p77 fu ((n0,()),())) fun ⟨_,o0⟩ =>
 bif eqL o0 then
 some ((),o0)
 else none
 else none
 else none
 else
 some ((),[])
else none
def e21 (fu:Nat):Ent := ⟨21,(.cons Y8 .nil),.nil,(.own .own 5 (.int .u8)),p21 fu⟩
def d21 (fu:Nat):DC := (.seq (.region [opD 1 (.box 44 10 (tD 0)),opD 2 (.mov (.const vS))] [[],[]] false) (.seq (.region [opD 4 (.build 1 [vS] []),opD 5 (.box 117 1 (tD 4)),mvD 3 5] [[],[0],[1,0,1]] false) (.seq (.region [mvD 6 3,fD 7 0 1,lD 8 1 7,oqD 9 (.call 73 [(tD 6),(tD 8)]) (.ent (e73 fu))] [[],[],[1],[0,2]] false) (.seq (.region [mvD 10 3,fD 11 1 1,lD 12 1 11,oqD 13 (.call 74 [(tD 10),(tD 12)]) (.ent (e74_1 fu))] [[],[],[1],[0,2]] false) (.seq (.seq (.region [fD 14 0 1,lD 15 1 14] [[],[0]] false) (.block 0 (.seq (.region [opD 17 (.bin .eql (tD 15) (cD 1)),mvD 16 17] [[],[0]] false) (.cond (.tmp 16) (.seq (.region [mvD 18 3,fD 19 2 1,lD 20 1 19,oqD 21 (.call 74 [(tD 18),(tD 20)]) (.ent (e74_1 fu))] [[],[],[1],[0,2]] false) (.seq (.region [mvD 22 3,fD 23 3 1,lD 24 1 23,oqD 25 (.call 74 [(tD 22),(tD 24)]) (.ent (e74_1 fu))] [[],[],[1],[0,2]] false) (.seq (.region [mvD 26 3,fD 27 4 1,lD 28 1 27,oqD 29 (.call 75 [(tD 26),(tD 28)]) (.ent (e75_1 fu))] [[],[],[1],[0,2]] false) (.region [mvD 30 3,fD 31 5 1,lD 32 1 31,oqD 33 (.call 76 [(tD 30),(tD 32)]) (.ent (e76 fu))] [[],[],[1],[0,2]] false)))) (.seq (.region [opD 35 (.bin .eql (tD 15) (cD 2)),mvD 34 35] [[],[0]] false) (.cond (.tmp 34) (.seq (.region [mvD 36 3,fD 37 6 1,lD 38 1 37,oqD 39 (.call 74 [(tD 36),(tD 38)]) (.ent (e74_1 fu))] [[],[],[1],[0,2]] false) (.region [mvD 40 3,fD 41 7 1,lD 42 1 41,oqD 43 (.call 73 [(tD 40),(tD 42)]) (.ent (e73_1 fu))] [[],[],[1],[0,2]] false)) (.seq (.region [opD 45 (.bin .eql (tD 15) (cD 3)),mvD 44 45] [[],[0]] false) (.cond (.tmp 44) (.seq (.region [mvD 46 3,fD 47 2 1,lD 48 1 47,oqD 49 (.call 74 [(tD 46),(tD 48)]) (.ent (e74_1 fu))] [[],[],[1],[0,2]] false) (.seq (.region [mvD 50 3,fD 51 3 1,lD 52 1 51,oqD 53 (.call 74 [(tD 50),(tD 52)]) (.ent (e74_1 fu))] [[],[],[1],[0,2]] false) (.seq (.region [mvD 54 3,fD 55 8 1,lD 56 1 55,oqD 57 (.call 75 [(tD 54),(tD 56)]) (.ent (e75_1 fu))] [[],[],[1],[0,2]] false) (.region [mvD 58 3,fD 59 6 1,lD 60 1 59,oqD 61 (.call 74 [(tD 58),(tD 60)]) (.ent (e74_1 fu))] [[],[],[1],[0,2]] false)))) (.seq (.region [opD 63 (.bin .eql (tD 15) (cD 4)),mvD 62 63] [[],[0]] false) (.cond (.tmp 62) (.region [mvD 64 3,fD 65 8 1,lD 66 1 65,oqD 67 (.call 75 [(tD 64),(tD 66)]) (.ent (e75_1 fu))] [[],[],[1],[0,2]] false) (.join ⟨[68],(.cons (.hole .bool) .nil),[],.nil,[1,3],[0,48,192]⟩
 (.seq (.region [opD 69 (.bin .eql (tD 15) (cD 5)),mvD 68 69] [[],[0]] false) (.cond (.tmp 68) .skip (.region [opD 70 (.bin .eql (tD 15) (cD 6)),mvD 68 70] [[],[0]] false)))
 (.cond (.tmp 68) (.region [mvD 71 3,fD 72 9 1,lD 73 1 72,oqD 74 (.call 74 [(tD 71),(tD 73)]) (.ent (e74_1 fu))] [[],[],[1],[0,2]] false) (.seq (.region [opD 2 (.mov (.const vS))] [[]] false) .ret))))))))))))) (.seq (.region [mvD 75 3,oqD 76 (.call 77 [(tD 75)]) (.ent (e77 fu)),mvD 2 76] [[],[0],[1,1,0,1]] false) .ret))))))
theorem g21 (fu:Nat):(e21 fu).Good Tryz.prog := good_fn orders Tryz.func21 fu (d21 fu) rs21 77 (l := [e73 fu,e74_1 fu,e74_1 fu,e74_1 fu,e75_1 fu,e76 fu,e74_1 fu,e73_1 fu,e74_1 fu,e74_1 fu,e75_1 fu,e74_1 fu,e75_1 fu,e74_1 fu,e77 fu]) ⟨g73 fu,g74_1 fu,g74_1 fu,g74_1 fu,g75_1 fu,g76 fu,g74_1 fu,g73_1 fu,g74_1 fu,g74_1 fu,g75_1 fu,g74_1 fu,g75_1 fu,g74_1 fu,g77 fu,trivial⟩
def rs83:List RVx := [(.tmp 2)]
def p83 (fu:Nat):((List Int)×(Int×(Unit×Unit)))×Unit→Option ((((List Int)×(Int×((Bool×((Int×(Int×Unit))×Unit))×Unit)))×(Unit×Unit))×Int) := fun ⟨⟨a,c,_,_⟩,_⟩ =>
bif eqL a then
 Option.bind (p84 fu ((a,c,(),()),())) fun ⟨⟨⟨f,h,⟨i,⟨j,k,_⟩,_⟩,_⟩,_,_⟩,l⟩ =>
 bif eqL f then
 some (((f,h,(i,(j,k,()),()),()),(),()),IntKind.wrap .i64 (IntKind.wrap .u64 ((BitVec.ofInt (IntKind.bits .u64) (Int.fdiv l (2 ^ (min (Int.toNat (1:Int)) (IntKind.bits .u64)))) ^^^ BitVec.ofInt (IntKind.bits .u64) (IntKind.wrap .u64 (0-(IntKind.wrap .u64 ((BitVec.ofInt (IntKind.bits .u64) l &&& BitVec.ofInt (IntKind.bits .u64) (1:Int)).toNat:Int))))).toNat:Int)))
 else none
else none
def e83 (fu:Nat):Ent := ⟨83,(.cons (.box 176 3 (.cons (.own .own 5 (.int .u8)) (.cons hI (.cons (.nilv 1) .nil)))) .nil),(.cons Y17 (.cons .dead .nil)),hI,p83 fu⟩
def d83 (fu:Nat):DC := (.seq (.region [opD 2 (.mov (cD 0))] [[]] false) (.seq (.region [mvD 4 0,oqD 5 (.call 84 [(tD 4)]) (.ent (e84 fu)),mvD 3 5] [[],[0],[1,1,0,1]] false) (.seq (.region [mvD 6 3,opD 7 (.bin .shr (tD 6) (.const (.int .u64 1))),mvD 8 3,opD 9 (.bin .and (tD 8) (.const (.int .u64 1))),opD 10 (.pure .neg [(tD 9)]),opD 11 (.bin .xor (tD 7) (tD 10)),opD 12 (.conv .i64 (tD 11)),mvD 2 12] [[],[0],[],[2],[3],[1,4],[5],[6,0,1,2,3,4,5,6]] false) .ret)))
theorem g83 (fu:Nat):(e83 fu).Good Tryz.prog := good_fn orders Tryz.func83 fu (d83 fu) rs83 13 (l := [e84 fu]) ⟨g84 fu,trivial⟩
def p83_1 (fu:Nat):((List Int)×(Int×((Bool×((Int×(Int×Unit))×Unit))×Unit)))×Unit→Option ((((List Int)×(Int×((Bool×((Int×(Int×Unit))×Unit))×Unit)))×(Unit×Unit))×Int) := fun ⟨⟨a,c,⟨f,⟨h,i,_⟩,_⟩,_⟩,_⟩ =>
bif f then
 bif eqL a then
 Option.bind (p84_2 fu ((a,c,(true,(h,i,()),dflt .unit),()),())) fun ⟨⟨⟨j,k,⟨l,⟨m,n,_⟩,_⟩,_⟩,_,_⟩,o⟩ =>
 bif eqL j then
 some (((j,k,(l,(m,n,()),()),()),(),()),IntKind.wrap .i64 (IntKind.wrap .u64 ((BitVec.ofInt (IntKind.bits .u64) (Int.fdiv o (2 ^ (min (Int.toNat (1:Int)) (IntKind.bits .u64)))) ^^^ BitVec.ofInt (IntKind.bits .u64) (IntKind.wrap .u64 (0-(IntKind.wrap .u64 ((BitVec.ofInt (IntKind.bits .u64) o &&& BitVec.ofInt (IntKind.bits .u64) (1:Int)).toNat:Int))))).toNat:Int)))
 else none
 else none
else
 bif eqL a then
 Option.bind (p84_2 fu ((a,c,zR0,()),())) fun ⟨⟨⟨q,s,⟨t,⟨u,w,_⟩,_⟩,_⟩,_,_⟩,x⟩ =>
 bif eqL q then
 some (((q,s,(t,(u,w,()),()),()),(),()),IntKind.wrap .i64 (IntKind.wrap .u64 ((BitVec.ofInt (IntKind.bits .u64) (Int.fdiv x (2 ^ (min (Int.toNat (1:Int)) (IntKind.bits .u64)))) ^^^ BitVec.ofInt (IntKind.bits .u64) (IntKind.wrap .u64 (0-(IntKind.wrap .u64 ((BitVec.ofInt (IntKind.bits .u64) x &&& BitVec.ofInt (IntKind.bits .u64) (1:Int)).toNat:Int))))).toNat:Int)))
 else none
 else none
def e83_1 (fu:Nat):Ent := ⟨83,(.cons Y18 .nil),(.cons Y17 (.cons .dead .nil)),hI,p83_1 fu⟩
def d83_1 (fu:Nat):DC := (.seq (.region [opD 2 (.mov (cD 0))] [[]] false) (.seq (.region [mvD 4 0,oqD 5 (.call 84 [(tD 4)]) (.ent (e84_2 fu)),mvD 3 5] [[],[0],[1,1,0,1]] false) (.seq (.region [mvD 6 3,opD 7 (.bin .shr (tD 6) (.const (.int .u64 1))),mvD 8 3,opD 9 (.bin .and (tD 8) (.const (.int .u64 1))),opD 10 (.pure .neg [(tD 9)]),opD 11 (.bin .xor (tD 7) (tD 10)),opD 12 (.conv .i64 (tD 11)),mvD 2 12] [[],[0],[],[2],[3],[1,4],[5],[6,0,1,2,3,4,5,6]] false) .ret)))
theorem g83_1 (fu:Nat):(e83_1 fu).Good Tryz.prog := good_fn orders Tryz.func83 fu (d83_1 fu) rs83 13 (l := [e84_2 fu]) ⟨g84_2 fu,trivial⟩
def rs26:List RVx := [(.cell 2 true 10),(.tmp 3)]
def p26 (fu:Nat):(List Int)×Unit→Option (Unit×((Z5)×(Int×Unit))) := fun ⟨a,_⟩ =>
Option.bind (p82 fu (a,())) fun ⟨_,⟨c,f,_,_⟩⟩ =>
bif eqL c then
 Option.bind (p83 fu ((c,f,(),()),())) fun ⟨⟨⟨h,i,⟨j,⟨k,l,_⟩,_⟩,_⟩,_,_⟩,m⟩ =>
 bif eqL h then
 Option.bind (p84_2 fu ((h,i,(j,(k,l,()),()),()),())) fun ⟨⟨⟨n,o,⟨q,⟨s,t,_⟩,_⟩,_⟩,_,_⟩,u⟩ =>
 orK (E := Unit×(((List Int)×(Int×((Bool×((Int×(Int×Unit))×Unit))×Unit)))×((Z5)×Unit)))
 (bif (m==(1:Int)) then
 bif eqL n then
 Option.bind (p84_2 fu ((n,o,(q,(s,t,()),()),()),())) fun ⟨⟨⟨w,x,⟨y,⟨z,a0,_⟩,_⟩,_⟩,_,_⟩,c0⟩ =>
 bif eqL w then
 Option.bind (p84_2 fu ((w,x,(y,(z,a0,()),()),()),())) fun ⟨⟨⟨f0,h0,⟨i0,⟨j0,k0,_⟩,_⟩,_⟩,_,_⟩,l0⟩ =>
 bif eqL f0 then
 Option.bind (p85_1 fu ((f0,h0,(i0,(j0,k0,()),()),()),(32:Int),())) fun ⟨⟨⟨m0,n0,⟨o0,⟨q0,s0,_⟩,_⟩,_⟩,_,_⟩,t0⟩ =>
 bif eqL m0 then
 Option.bind (p86_2 fu ((m0,n0,(o0,(q0,s0,()),()),()),(256:Int),())) fun ⟨⟨⟨u0,w0,⟨x0,⟨y0,z0,_⟩,_⟩,_⟩,_,_⟩,a1⟩ =>
 bif eqL u0 then
 bif eqL a1 then
 some (.inl ((),((u0,w0,(x0,(y0,z0,()),()),()),(m,u,c0,l0,t0,a1,(0:Int),(0:Int),(⟨#[]⟩:ByteArray),(0:Int),()),())))
 else none
 else none
 else none
 else none
 else none
 else none
 else
 bif (m==(2:Int)) then
 bif eqL n then
 Option.bind (p84_2 fu ((n,o,(q,(s,t,()),()),()),())) fun ⟨⟨⟨c1,f1,⟨h1,⟨i1,j1,_⟩,_⟩,_⟩,_,_⟩,k1⟩ =>
 bif eqL c1 then
 Option.bind (p83_1 fu ((c1,f1,(h1,(i1,j1,()),()),()),())) fun ⟨⟨⟨l1,m1,⟨n1,⟨o1,q1,_⟩,_⟩,_⟩,_,_⟩,s1⟩ =>
 bif eqL l1 then
 some (.inl ((),((l1,m1,(n1,(o1,q1,()),()),()),(m,u,(0:Int),(0:Int),(⟨#[]⟩:ByteArray),[],k1,s1,(⟨#[]⟩:ByteArray),(0:Int),()),())))
 else none
 else none
 else none
 else
 bif (m==(3:Int)) then
 bif eqL n then
 Option.bind (p84_2 fu ((n,o,(q,(s,t,()),()),()),())) fun ⟨⟨⟨t1,u1,⟨w1,⟨x1,y1,_⟩,_⟩,_⟩,_,_⟩,z1⟩ =>
 bif eqL t1 then
 Option.bind (p84_2 fu ((t1,u1,(w1,(x1,y1,()),()),()),())) fun ⟨⟨⟨a2,c2,⟨f2,⟨h2,i2,_⟩,_⟩,_⟩,_,_⟩,j2⟩ =>
 bif eqL a2 then
 Option.bind (p85_1 fu ((a2,c2,(f2,(h2,i2,()),()),()),(32:Int),())) fun ⟨⟨⟨k2,l2,⟨m2,⟨n2,o2,_⟩,_⟩,_⟩,_,_⟩,q2⟩ =>
 bif eqL k2 then
 Option.bind (p84_2 fu ((k2,l2,(m2,(n2,o2,()),()),()),())) fun ⟨⟨⟨s2,t2,⟨u2,⟨w2,x2,_⟩,_⟩,_⟩,_,_⟩,y2⟩ =>
 bif eqL s2 then
 some (.inl ((),((s2,t2,(u2,(w2,x2,()),()),()),(m,u,z1,j2,(⟨#[]⟩:ByteArray),[],y2,(0:Int),q2,(0:Int),()),())))
 else none
 else none
 else none
 else none
 else none
 else
 bif (m==(4:Int)) then
 bif eqL n then
 Option.bind (p85_1 fu ((n,o,(q,(s,t,()),()),()),(32:Int),())) fun ⟨⟨⟨z2,a3,⟨c3,⟨f3,h3,_⟩,_⟩,_⟩,_,_⟩,i3⟩ =>
 bif eqL z2 then
 some (.inl ((),((z2,a3,(c3,(f3,h3,()),()),()),(m,u,(0:Int),(0:Int),(⟨#[]⟩:ByteArray),[],(0:Int),(0:Int),i3,(0:Int),()),())))
 else none
 else none
 else
 orK (E := (Bool×Unit)×Unit)
 (bif (m==(5:Int)) then
 some (.inl ((true,()),()))
 else
 some (.inl (((m==(6:Int)),()),())))
 fun ⟨⟨j3,_⟩,_⟩ =>
 bif j3 then
 bif eqL n then
 Option.bind (p84_2 fu ((n,o,(q,(s,t,()),()),()),())) fun ⟨⟨⟨k3,l3,⟨m3,⟨n3,o3,_⟩,_⟩,_⟩,_,_⟩,q3⟩ =>
 bif eqL k3 then
 some (.inl ((),((k3,l3,(m3,(n3,o3,()),()),()),(m,u,(0:Int),(0:Int),(⟨#[]⟩:ByteArray),[],(0:Int),(0:Int),(⟨#[]⟩:ByteArray),q3,()),())))
 else none
 else none
 else
 bif eqL n then
 some (.inl ((),((n,o,(q,(s,t,()),()),()),(m,u,(0:Int),(0:Int),(⟨#[]⟩:ByteArray),[],(0:Int),(0:Int),(⟨#[]⟩:ByteArray),(0:Int),()),())))
 else none)
 fun ⟨_,⟨⟨s3,t3,⟨u3,⟨w3,x3,_⟩,_⟩,_⟩,⟨y3,z3,a4,c4,f4,h4,i4,j4,k4,l4,_⟩,_⟩⟩ =>
 orK (E := (Bool×Unit)×Unit)
 (bif eqL s3 then
 Option.bind (p87 fu ((s3,t3,(u3,(w3,x3,()),()),()),())) fun ⟨⟨⟨_,_,⟨_,⟨_,_,_⟩,_⟩,_⟩,_,_⟩,m4⟩ =>
 bif (m4 != (0:Int)) then
 some (.inl ((true,()),()))
 else
 bif eqL h4 then
 Option.bind (p88 fu ((y3,z3,a4,c4,f4,h4,i4,j4,k4,l4,()),())) fun ⟨_,n4⟩ =>
 some (.inl ((!n4,()),()))
 else none
 else none)
 fun ⟨⟨o4,_⟩,_⟩ =>
 bif o4 then
 some ((),(((0:Int),(0:Int),(0:Int),(0:Int),(⟨#[]⟩:ByteArray),[],(0:Int),(0:Int),(⟨#[]⟩:ByteArray),(0:Int),()),(161:Int),()))
 else
 bif eqL h4 then
 some ((),((y3,z3,a4,c4,f4,h4,i4,j4,k4,l4,()),(0:Int),()))
 else none
 else none
else none
def e26 (fu:Nat):Ent := ⟨26,(.cons (.hole (.sl (.int .u8))) .nil),.nil,(.tup 2 (.cons Y21 (.cons hI .nil))),p26 fu⟩
def d26 (fu:Nat):DC := (.seq (.region [opD 2 (.alloc 44 10 [vI,vU,vU,vU,vT,vS,vU,vI,vT,vU]),opD 3 (.mov (cD 0))] [[],[]] false) (.seq (.region [mvD 6 0,oqD 7 (.call 82 [(tD 6)]) (.ent (e82 fu)),mvD 4 7] [[],[0],[1,1,0,1]] false) (.seq (.region [mvD 8 4,oqD 9 (.call 83 [(tD 8)]) (.ent (e83 fu)),mvD 10 4,oqD 11 (.call 84 [(tD 10)]) (.ent (e84_2 fu)),opD 12 (.build 10 [vI,vU,vU,vU,vT,vS,vU,vI,vT,vU] [(0,(1,(tD 9))),(1,(1,(tD 11)))]),opD 5 (.alloc 44 10 [vI,vU,vU,vU,vT,vS,vU,vI,vT,vU]),onD (.store 10 (tD 5) (tD 12))] [[],[0],[],[2,1],[1,3],[],[5,4,3,0,1,2,3,4,5]] false) (.join ⟨[],.nil,[(48,176,3),(160,44,10)],(.cons Y17 (.cons Y21 .nil)),[2,4,5],[0]⟩
 (.seq (.region [fD 13 0 5,lD 14 1 13] [[],[0]] false) (.block 0 (.seq (.region [opD 16 (.bin .eql (tD 14) (cD 1)),mvD 15 16] [[],[0]] false) (.cond (.tmp 15) (.seq (.region [mvD 17 4,oqD 18 (.call 84 [(tD 17)]) (.ent (e84_2 fu)),mvD 19 4,oqD 20 (.call 84 [(tD 19)]) (.ent (e84_2 fu)),fD 21 2 5,onD (.store 1 (tD 21) (tD 18)),fD 22 3 5,onD (.store 1 (tD 22) (tD 20))] [[],[0],[],[2,1],[0,1],[4,1,3,0,1],[0,1,2,3,4,5],[6,3,5,0,1,2,3,4,5]] false) (.region [mvD 23 4,oqD 24 (.call 85 [(tD 23),(cD 32)]) (.ent (e85_1 fu)),mvD 25 4,oqD 26 (.call 86 [(tD 25),(cD 256)]) (.ent (e86_2 fu)),fD 27 4 5,onD (.store 1 (tD 27) (tD 24)),fD 28 5 5,onD (.store 1 (tD 28) (tD 26))] [[],[0],[],[2,1],[0,1],[4,1,3,0,1],[0,1,2,3,4,5],[6,3,5,0,1,2,3,4,5]] false)) (.seq (.region [opD 30 (.bin .eql (tD 14) (cD 2)),mvD 29 30] [[],[0]] false) (.cond (.tmp 29) (.region [mvD 31 4,oqD 32 (.call 84 [(tD 31)]) (.ent (e84_2 fu)),mvD 33 4,oqD 34 (.call 83 [(tD 33)]) (.ent (e83_1 fu)),fD 35 6 5,onD (.store 1 (tD 35) (tD 32)),fD 36 7 5,onD (.store 1 (tD 36) (tD 34))] [[],[0],[],[2,1],[0,1],[4,1,3,0,1],[0,1,2,3,4,5],[6,3,5,0,1,2,3,4,5]] false) (.seq (.region [opD 38 (.bin .eql (tD 14) (cD 3)),mvD 37 38] [[],[0]] false) (.cond (.tmp 37) (.seq (.region [mvD 39 4,oqD 40 (.call 84 [(tD 39)]) (.ent (e84_2 fu)),mvD 41 4,oqD 42 (.call 84 [(tD 41)]) (.ent (e84_2 fu)),fD 43 2 5,onD (.store 1 (tD 43) (tD 40)),fD 44 3 5,onD (.store 1 (tD 44) (tD 42))] [[],[0],[],[2,1],[0,1],[4,1,3,0,1],[0,1,2,3,4,5],[6,3,5,0,1,2,3,4,5]] false) (.region [mvD 45 4,oqD 46 (.call 85 [(tD 45),(cD 32)]) (.ent (e85_1 fu)),mvD 47 4,oqD 48 (.call 84 [(tD 47)]) (.ent (e84_2 fu)),fD 49 8 5,onD (.store 1 (tD 49) (tD 46)),fD 50 6 5,onD (.store 1 (tD 50) (tD 48))] [[],[0],[],[2,1],[0,1],[4,1,3,0,1],[0,1,2,3,4,5],[6,3,5,0,1,2,3,4,5]] false)) (.seq (.region [opD 52 (.bin .eql (tD 14) (cD 4)),mvD 51 52] [[],[0]] false) (.cond (.tmp 51) (.region [mvD 53 4,oqD 54 (.call 85 [(tD 53),(cD 32)]) (.ent (e85_1 fu)),fD 55 8 5,onD (.store 1 (tD 55) (tD 54))] [[],[0],[0,1],[2,1,1,0,1]] false) (.join ⟨[56],(.cons (.hole .bool) .nil),[],.nil,[2,4,5],[0,48,128,160]⟩
 (.seq (.region [opD 57 (.bin .eql (tD 14) (cD 5)),mvD 56 57] [[],[0]] false) (.cond (.tmp 56) .skip (.region [opD 58 (.bin .eql (tD 14) (cD 6)),mvD 56 58] [[],[0]] false)))
 (.cond (.tmp 56) (.region [mvD 59 4,oqD 60 (.call 84 [(tD 59)]) (.ent (e84_2 fu)),fD 61 9 5,onD (.store 1 (tD 61) (tD 60))] [[],[0],[0,1],[2,1,1,0,1]] false) .skip))))))))))))
 (.seq (.join ⟨[69],(.cons (.hole .bool) .nil),[],.nil,[2,5],[0,160,193]⟩
 (.region [mvD 62 4,oqD 63 (.call 87 [(tD 62)]) (.ent (e87 fu)),opD 64 (.bin .neq (tD 63) (cD 0)),mvD 65 64,ogD 66 65 false (.load true 10 (tD 5)),(⟨(some 67),(some (65,false)),(.call 88 [(tD 66)])⟩,(.ent (e88 fu))),ogD 68 65 false (.not (tD 67)),opD 69 (.pick (tD 65) (.const (.bool true)) (tD 68))] [[],[0],[1],[2,1],[3],[4,3,3],[5,3],[3,6]] false)
 (.cond (.tmp 69) (.seq (.region [opD 70 (.build 10 [vI,vU,vU,vU,vT,vS,vU,vI,vT,vU] []),onD (.store 10 (tD 2) (tD 70)),opD 3 (.mov (cD 161))] [[],[0,0],[1,0,1]] false) .ret) .skip)) (.seq (.region [opD 71 (.load true 10 (tD 5)),onD (.store 10 (tD 2) (tD 71)),opD 3 (.mov (cD 0))] [[],[0,0],[1,0,1]] false) .ret))))))
theorem g26 (fu:Nat):(e26 fu).Good Tryz.prog := good_fn orders Tryz.func26 fu (d26 fu) rs26 72 (l := [e82 fu,e83 fu,e84_2 fu,e84_2 fu,e84_2 fu,e85_1 fu,e86_2 fu,e84_2 fu,e83_1 fu,e84_2 fu,e84_2 fu,e85_1 fu,e84_2 fu,e85_1 fu,e84_2 fu,e87 fu,e88 fu]) ⟨g82 fu,g83 fu,g84_2 fu,g84_2 fu,g84_2 fu,g85_1 fu,g86_2 fu,g84_2 fu,g83_1 fu,g84_2 fu,g84_2 fu,g85_1 fu,g84_2 fu,g85_1 fu,g84_2 fu,g87 fu,g88 fu,trivial⟩
def rs139:List RVx := [(.tmp 4)]
def p139 (fu:Nat):(List (D_api_Producer))×(Int×Unit)→Option (Unit×Int) := fun ⟨a,c,_⟩ =>
loopO (S := (Int×Unit)×Unit) fu (fun ⟨⟨f,_⟩,_⟩ =>
 bif decide (f<(a.length:Int)) then
 bif decide ((0:Int)≤f∧f<(a.length:Int)) then
 bif decide (f.toNat<a.length) then
 bif (((a.getD (f.toNat) (dflt T_api_Producer)).1)==c) then
 inrO (some ((),f))
 else
 some (.inl ((IntKind.wrap .i64 (f+(1:Int)),()),()))
 else none
 else none
 else
 inrO (some ((),((-1):Int))))
 (((0:Int),()),())
def e139 (fu:Nat):Ent := ⟨139,(.cons (.hole (.sl T_api_Producer)) (.cons hU .nil)),.nil,hI,p139 fu⟩
def d139 (_:Nat):DC := (.seq (.region [opD 4 (.mov (cD 0))] [[]] false) (.seq (.seq (.region [opD 5 (.mov (cD 0))] [[]] false) (.block 0 (.loop ⟨[5],(.cons hI .nil),[],.nil,[0,1],[]⟩
 (.seq (.seq (.region [mvD 6 5,mvD 7 0,opD 8 (.len false (tD 7)),opD 9 (.bin .lss (tD 6) (tD 8))] [[],[],[1],[0,2]] false) (.cond (.tmp 9) .skip (.exit 0))) (.seq (.block 1 (.seq (.region [mvD 12 0,mvD 13 5,opD 14 (.iaddr 4 (tD 12) (tD 13)),fD 15 0 14,lD 16 1 15,mvD 17 1,opD 18 (.bin .eql (tD 16) (tD 17))] [[],[],[0,1],[2],[3],[],[4,5]] false) (.cond (.tmp 18) (.seq (.region [mvD 19 5,mvD 4 19] [[],[0,0]] false) .ret) .skip))) (.region [mvD 10 5,opD 11 (.bin .add (tD 10) (cD 1)),mvD 5 11] [[],[0],[1,0,1]] false)))))) (.seq (.region [opD 4 (.mov (.const (.int .i64 (-1))))] [[]] false) .ret)))
theorem g139 (fu:Nat):(e139 fu).Good Tryz.prog := good_fn orders Tryz.func139 fu (d139 fu) rs139 20 (l := []) trivial
def rs94:List RVx := [(.tmp 6),(.tmp 7)]
def p94 (fu:Nat):(List (D_api_Producer))×(Int×(Int×Unit))→Option (Unit×(Int×(Int×Unit))) := fun ⟨a,c,f,_⟩ =>
bif (c==(0:Int)) then
 some ((),((4:Int),(0:Int),()))
else
 bif decide (f<(1:Int)) then
 some ((),((4:Int),(0:Int),()))
 else
 bif decide (f>(9223372036854775807:Int)) then
 some ((),((4:Int),(0:Int),()))
 else
 Option.bind (p139 fu (a,c,())) fun ⟨_,h⟩ =>
 orK (E := (Bool×Unit)×Unit)
 (bif decide (h<(0:Int)) then
 some (.inl ((true,()),()))
 else
 bif decide ((0:Int)≤h∧h<(a.length:Int)) then
 bif decide (h.toNat<a.length) then
 some (.inl ((decide (f>(((a.getD (h.toNat) (dflt T_api_Producer)).2).1)),()),()))
 else none
 else none)
 fun ⟨⟨i,_⟩,_⟩ =>
 bif i then
 some ((),((1:Int),(0:Int),()))
 else
 orK (E := (Bool×Unit)×Unit)
 (bif decide ((0:Int)≤h∧h<(a.length:Int)) then
 bif decide (h.toNat<a.length) then
 bif (f==(((a.getD (h.toNat) (dflt T_api_Producer)).2).1)) then
 bif decide ((0:Int)≤h∧h<(a.length:Int)) then
 bif decide (h.toNat<a.length) then
 some (.inl (((((a.getD (h.toNat) (dflt T_api_Producer)).2).2).1,()),()))
 else none
 else none
 else
 some (.inl ((false,()),()))
 else none
 else none)
 fun ⟨⟨j,_⟩,_⟩ =>
 bif j then
 bif decide ((0:Int)≤h∧h<(a.length:Int)) then
 bif decide (h.toNat<a.length) then
 some ((),((2:Int),(((a.getD (h.toNat) (dflt T_api_Producer)).2).2).2,()))
 else none
 else none
 else
 some ((),((3:Int),(0:Int),()))
def e94 (fu:Nat):Ent := ⟨94,(.cons (.hole (.sl T_api_Producer)) (.cons hU (.cons hU .nil))),.nil,(.tup 2 (.cons hI (.cons hU .nil))),p94 fu⟩
def d94 (fu:Nat):DC := (.seq (.region [opD 6 (.mov (cD 0)),opD 7 (.mov (.const vU))] [[],[0]] false) (.seq (.seq (.region [mvD 9 1,opD 10 (.bin .eql (tD 9) (.const vU)),mvD 11 10,ogD 12 11 false (.mov (tD 2)),ogD 13 11 false (.bin .lss (tD 12) (.const (.int .u64 1))),opD 14 (.pick (tD 11) (.const (.bool true)) (tD 13)),mvD 15 14,ogD 16 15 false (.mov (tD 2)),ogD 17 15 false (.bin .gtr (tD 16) (.const (.int .u64 9223372036854775807))),opD 18 (.pick (tD 15) (.const (.bool true)) (tD 17))] [[],[0],[1],[2],[3,2],[2,4],[5,2],[6],[7,6],[6,8]] false) (.cond (.tmp 18) (.seq (.region [opD 6 (.mov (cD 4)),opD 7 (.mov (.const vU))] [[],[0,0]] false) .ret) .skip)) (.seq (.region [mvD 19 0,mvD 20 1,oqD 21 (.call 139 [(tD 19),(tD 20)]) (.ent (e139 fu)),mvD 8 21] [[],[],[0,1],[2,2,0,1,2]] false) (.seq (.block 0 (.join ⟨[22],(.cons (.hole .bool) .nil),[],.nil,[0,2,8],[]⟩
 (.region [mvD 23 8,opD 24 (.bin .lss (tD 23) (cD 0)),mvD 25 24,ogD 26 25 false (.mov (tD 2)),ogD 27 25 false (.mov (tD 0)),ogD 28 25 false (.mov (tD 8)),ogD 29 25 false (.iaddr 4 (tD 27) (tD 28)),ogD 30 25 false (.faddr 1 (tD 29)),ogD 31 25 false (.load false 1 (tD 30)),ogD 32 25 false (.bin .gtr (tD 26) (tD 31)),opD 33 (.pick (tD 25) (.const (.bool true)) (tD 32)),mvD 22 33] [[],[0],[1],[2],[2],[2],[4,5,2],[6,2],[7,2],[3,8,2],[2,9],[10,2]] false)
 (.cond (.tmp 22) (.seq (.region [opD 6 (.mov (cD 1)),opD 7 (.mov (.const vU))] [[],[0,0]] false) .ret) (.join ⟨[34],(.cons (.hole .bool) .nil),[],.nil,[0,8],[]⟩
 (.region [mvD 35 2,mvD 36 0,mvD 37 8,opD 38 (.iaddr 4 (tD 36) (tD 37)),fD 39 1 38,lD 40 1 39,opD 41 (.bin .eql (tD 35) (tD 40)),mvD 42 41,ogD 43 42 true (.mov (tD 0)),ogD 44 42 true (.mov (tD 8)),ogD 45 42 true (.iaddr 4 (tD 43) (tD 44)),ogD 46 42 true (.faddr 2 (tD 45)),ogD 47 42 true (.load false 1 (tD 46)),opD 48 (.pick (tD 42) (tD 47) (.const vB)),mvD 34 48] [[],[],[],[1,2],[3],[4],[0,5],[6],[7],[7],[8,9,7],[10,7],[11,7],[7,12],[13,7]] false)
 (.cond (.tmp 34) (.seq (.region [mvD 49 0,mvD 50 8,opD 51 (.iaddr 4 (tD 49) (tD 50)),fD 52 3 51,lD 53 1 52,opD 6 (.mov (cD 2)),mvD 7 53] [[],[],[0,1],[2],[3],[],[4,5,0,1,2,3,4,5]] true) .ret) .skip))))) (.seq (.region [opD 6 (.mov (cD 3)),opD 7 (.mov (.const vU))] [[],[0,0]] false) .ret)))))
theorem g94 (fu:Nat):(e94 fu).Good Tryz.prog := good_fn orders Tryz.func94 fu (d94 fu) rs94 54 (l := [e139 fu]) ⟨g139 fu,trivial⟩
def rs95:List RVx := [(.tmp 2)]
def p95 (fu:Nat):ByteArray×Unit→Option (Unit×Bool) := fun ⟨a,_⟩ =>
bif decide ((ByteArray.size a:Int)<(1:Int)) then
 some ((),false)
else
 bif decide ((ByteArray.size a:Int)>(32:Int)) then
 some ((),false)
 else
 loopO (S := (Int×Unit)×Unit) fu (fun ⟨⟨c,_⟩,_⟩ =>
 bif decide (c<(ByteArray.size a:Int)) then
 bif decide ((0:Int)≤c∧c<(ByteArray.size a:Int)) then
 bif decide ((bAt a (c.toNat))<(97:Int)) then
 bif decide ((bAt a (c.toNat))<(48:Int)) then
 bif ((bAt a (c.toNat)) != (45:Int)) then
 bif ((bAt a (c.toNat)) != (95:Int)) then
 bif ((bAt a (c.toNat)) != (46:Int)) then
 inrO (some ((),false))
 else
 some (.inl ((IntKind.wrap .i64 (c+(1:Int)),()),()))
 else
 some (.inl ((IntKind.wrap .i64 (c+(1:Int)),()),()))
 else
 some (.inl ((IntKind.wrap .i64 (c+(1:Int)),()),()))
 else
 bif decide ((bAt a (c.toNat))>(57:Int)) then
 bif ((bAt a (c.toNat)) != (45:Int)) then
 bif ((bAt a (c.toNat)) != (95:Int)) then
 bif ((bAt a (c.toNat)) != (46:Int)) then
 inrO (some ((),false))
 else
 some (.inl ((IntKind.wrap .i64 (c+(1:Int)),()),()))
 else
 some (.inl ((IntKind.wrap .i64 (c+(1:Int)),()),()))
 else
 some (.inl ((IntKind.wrap .i64 (c+(1:Int)),()),()))
 else
 some (.inl ((IntKind.wrap .i64 (c+(1:Int)),()),()))
 else
 bif decide ((bAt a (c.toNat))>(122:Int)) then
 bif decide ((bAt a (c.toNat))<(48:Int)) then
 bif ((bAt a (c.toNat)) != (45:Int)) then
 bif ((bAt a (c.toNat)) != (95:Int)) then
 bif ((bAt a (c.toNat)) != (46:Int)) then
 inrO (some ((),false))
 else
 some (.inl ((IntKind.wrap .i64 (c+(1:Int)),()),()))
 else
 some (.inl ((IntKind.wrap .i64 (c+(1:Int)),()),()))
 else
 some (.inl ((IntKind.wrap .i64 (c+(1:Int)),()),()))
 else
 bif decide ((bAt a (c.toNat))>(57:Int)) then
 bif ((bAt a (c.toNat)) != (45:Int)) then
 bif ((bAt a (c.toNat)) != (95:Int)) then
 bif ((bAt a (c.toNat)) != (46:Int)) then
 inrO (some ((),false))
 else
 some (.inl ((IntKind.wrap .i64 (c+(1:Int)),()),()))
 else
 some (.inl ((IntKind.wrap .i64 (c+(1:Int)),()),()))
 else
 some (.inl ((IntKind.wrap .i64 (c+(1:Int)),()),()))
 else
 some (.inl ((IntKind.wrap .i64 (c+(1:Int)),()),()))
 else
 some (.inl ((IntKind.wrap .i64 (c+(1:Int)),()),()))
 else none
 else
 inrO (some ((),true)))
 (((0:Int),()),())
def e95 (fu:Nat):Ent := ⟨95,(.cons hT .nil),.nil,(.hole .bool),p95 fu⟩
def d95 (_:Nat):DC := (.seq (.region [opD 2 (.mov (.const vB))] [[]] false) (.seq (.seq (.region [mvD 5 0,opD 6 (.len true (tD 5)),opD 7 (.bin .lss (tD 6) (cD 1)),mvD 8 7,ogD 9 8 false (.mov (tD 0)),ogD 10 8 false (.len true (tD 9)),ogD 11 8 false (.bin .gtr (tD 10) (cD 32)),opD 12 (.pick (tD 8) (.const (.bool true)) (tD 11))] [[],[0],[1],[2],[3],[4,3],[5,3],[3,6]] false) (.cond (.tmp 12) (.seq (.region [opD 2 (.mov (.const vB))] [[]] false) .ret) .skip)) (.seq (.seq (.region [opD 3 (.mov (cD 0))] [[]] false) (.block 0 (.loop ⟨[3],(.cons hI .nil),[],.nil,[0],[]⟩
 (.seq (.seq (.region [mvD 13 3,mvD 14 0,opD 15 (.len true (tD 14)),opD 16 (.bin .lss (tD 13) (tD 15))] [[],[],[1],[0,2]] false) (.cond (.tmp 16) .skip (.exit 0))) (.seq (.block 1 (.seq (.region [mvD 19 0,mvD 20 3,opD 21 (.pure .sidx [(tD 19),(tD 20)]),mvD 4 21] [[],[],[0,1],[2,0,1,2]] false) (.seq (.region [mvD 22 4,opD 23 (.bin .lss (tD 22) (.const (.int .u8 97))),mvD 24 23,ogD 25 24 false (.mov (tD 4)),ogD 26 24 false (.bin .gtr (tD 25) (.const (.int .u8 122))),opD 27 (.pick (tD 24) (.const (.bool true)) (tD 26)),mvD 28 27,ogD 29 28 true (.mov (tD 4)),ogD 30 28 true (.bin .lss (tD 29) (.const (.int .u8 48))),ogD 31 28 true (.mov (tD 30)),ogD 32 31 false (.mov (tD 4)),ogD 33 31 false (.bin .gtr (tD 32) (.const (.int .u8 57))),ogD 34 28 true (.pick (tD 31) (.const (.bool true)) (tD 33)),opD 35 (.pick (tD 28) (tD 34) (.const vB)),mvD 36 35,ogD 37 36 true (.mov (tD 4)),ogD 38 36 true (.bin .neq (tD 37) (.const (.int .u8 45))),opD 39 (.pick (tD 36) (tD 38) (.const vB)),mvD 40 39,ogD 41 40 true (.mov (tD 4)),ogD 42 40 true (.bin .neq (tD 41) (.const (.int .u8 95))),opD 43 (.pick (tD 40) (tD 42) (.const vB)),mvD 44 43,ogD 45 44 true (.mov (tD 4)),ogD 46 44 true (.bin .neq (tD 45) (.const (.int .u8 46))),opD 47 (.pick (tD 44) (tD 46) (.const vB))] [[],[0],[1],[2],[3,2],[2,4],[5,2],[6],[7,6],[8,6,6],[9],[10,9],[9,11,6],[6,12],[13,9],[14],[15,14],[14,16],[17,14],[18],[19,18],[18,20],[21,18],[22],[23,22],[22,24]] false) (.cond (.tmp 47) (.seq (.region [opD 2 (.mov (.const vB))] [[]] false) .ret) .skip)))) (.region [mvD 17 3,opD 18 (.bin .add (tD 17) (cD 1)),mvD 3 18] [[],[0],[1,0,1]] false)))))) (.seq (.region [opD 2 (.mov (.const (.bool true)))] [[]] false) .ret))))
theorem g95 (fu:Nat):(e95 fu).Good Tryz.prog := good_fn orders Tryz.func95 fu (d95 fu) rs95 48 (l := []) trivial
def rs34:List RVx := [(.tmp 2)]
def p34 (fu:Nat):(Z5)×Unit→Option (Unit×Bool) := fun ⟨⟨a,_,c,f,h,i,_,j,k,l,_⟩,_⟩ =>
bif (a==(1:Int)) then
 Option.bind (p94 fu ([],c,f,())) fun ⟨_,⟨m,_,_⟩⟩ =>
 bif (m != (4:Int)) then
 bif decide ((ByteArray.size h:Int)≤(32:Int)) then
 some ((),decide ((i.length:Int)≤(256:Int)))
 else
 some ((),false)
 else
 some ((),false)
else
 bif (a==(2:Int)) then
 bif decide (j≥(1:Int)) then
 some ((),decide (j≤(64:Int)))
 else
 some ((),false)
 else
 bif (a==(3:Int)) then
 Option.bind (p94 fu ([],c,f,())) fun ⟨_,⟨n,_,_⟩⟩ =>
 bif (n != (4:Int)) then
 Option.bind (p95 fu (k,())) fun ⟨_,o⟩ =>
 some ((),o)
 else
 some ((),false)
 else
 bif (a==(4:Int)) then
 Option.bind (p95 fu (k,())) fun ⟨_,q⟩ =>
 some ((),q)
 else
 orK (E := (Bool×Unit)×Unit)
 (bif (a==(5:Int)) then
 some (.inl ((true,()),()))
 else
 some (.inl (((a==(6:Int)),()),())))
 fun ⟨⟨s,_⟩,_⟩ =>
 bif s then
 some ((),(l != (0:Int)))
 else
 some ((),false)
def e34 (fu:Nat):Ent := ⟨34,(.cons Y8 .nil),.nil,(.hole .bool),p34 fu⟩
def d34 (fu:Nat):DC := (.seq (.region [opD 1 (.box 44 10 (tD 0)),opD 2 (.mov (.const vB))] [[],[]] false) (.seq (.seq (.region [fD 7 0 1,lD 8 1 7] [[],[0]] false) (.block 0 (.seq (.region [opD 10 (.bin .eql (tD 8) (cD 1)),mvD 9 10] [[],[0]] false) (.cond (.tmp 9) (.seq (.region [fD 12 2 1,lD 13 1 12,fD 14 3 1,lD 15 1 14,oqD 16 (.call 94 [(.const vS),(tD 13),(tD 15)]) (.ent (e94 fu)),mvD 11 16,opD 17 (.ext (tD 11) 0),opD 18 (.ext (tD 11) 1),mvD 3 17,mvD 4 18] [[],[0],[],[2],[1,3],[4],[5],[5],[6,4,0,1,2,3,4,5,6],[7,8,0,1,2,3,4,5,6,7,8]] false) (.seq (.region [mvD 19 3,opD 20 (.bin .neq (tD 19) (cD 4)),mvD 21 20,ogD 22 21 true (.faddr 4 (tD 1)),ogD 23 21 true (.load false 1 (tD 22)),ogD 24 21 true (.len true (tD 23)),ogD 25 21 true (.bin .leq (tD 24) (cD 32)),opD 26 (.pick (tD 21) (tD 25) (.const vB)),mvD 27 26,ogD 28 27 true (.faddr 5 (tD 1)),ogD 29 27 true (.load false 1 (tD 28)),ogD 30 27 true (.len false (tD 29)),ogD 31 27 true (.bin .leq (tD 30) (cD 256)),opD 32 (.pick (tD 27) (tD 31) (.const vB)),mvD 2 32] [[],[0],[1],[2],[3,2],[4,2],[5,2],[2,6],[7,2],[8],[9,8],[10,8],[11,8],[8,12],[13,8,0,1,2,3,4,5,6,7,8,9,10,11,12,13]] false) .ret)) (.seq (.region [opD 34 (.bin .eql (tD 8) (cD 2)),mvD 33 34] [[],[0]] false) (.cond (.tmp 33) (.seq (.region [fD 35 7 1,lD 36 1 35,opD 37 (.bin .geq (tD 36) (cD 1)),mvD 38 37,ogD 39 38 true (.faddr 7 (tD 1)),ogD 40 38 true (.load false 1 (tD 39)),ogD 41 38 true (.bin .leq (tD 40) (cD 64)),opD 42 (.pick (tD 38) (tD 41) (.const vB)),mvD 2 42] [[],[0],[1],[2],[3],[4,3],[5,3],[3,6],[7,3,0,1,2,3,4,5,6,7]] false) .ret) (.seq (.region [opD 44 (.bin .eql (tD 8) (cD 3)),mvD 43 44] [[],[0]] false) (.cond (.tmp 43) (.seq (.region [fD 46 2 1,lD 47 1 46,fD 48 3 1,lD 49 1 48,oqD 50 (.call 94 [(.const vS),(tD 47),(tD 49)]) (.ent (e94 fu)),mvD 45 50,opD 51 (.ext (tD 45) 0),opD 52 (.ext (tD 45) 1),mvD 5 51,mvD 6 52] [[],[0],[],[2],[1,3],[4],[5],[5],[6,4,0,1,2,3,4,5,6],[7,8,0,1,2,3,4,5,6,7,8]] false) (.seq (.region [mvD 53 5,opD 54 (.bin .neq (tD 53) (cD 4)),mvD 55 54,ogD 56 55 true (.faddr 8 (tD 1)),ogD 57 55 true (.load false 1 (tD 56)),(⟨(some 58),(some (55,true)),(.call 95 [(tD 57)])⟩,(.ent (e95 fu))),opD 59 (.pick (tD 55) (tD 58) (.const vB)),mvD 2 59] [[],[0],[1],[2],[3,2],[4,2,2],[2,5],[6,5,0,1,2,3,4,5,6]] false) .ret)) (.seq (.region [opD 61 (.bin .eql (tD 8) (cD 4)),mvD 60 61] [[],[0]] false) (.cond (.tmp 60) (.seq (.region [fD 62 8 1,lD 63 1 62,oqD 64 (.call 95 [(tD 63)]) (.ent (e95 fu)),mvD 2 64] [[],[0],[1],[2,2,0,1,2]] false) .ret) (.join ⟨[65],(.cons (.hole .bool) .nil),[],.nil,[1],[0]⟩
 (.seq (.region [opD 66 (.bin .eql (tD 8) (cD 5)),mvD 65 66] [[],[0]] false) (.cond (.tmp 65) .skip (.region [opD 67 (.bin .eql (tD 8) (cD 6)),mvD 65 67] [[],[0]] false)))
 (.cond (.tmp 65) (.seq (.region [fD 68 9 1,lD 69 1 68,opD 70 (.bin .neq (tD 69) (.const vU)),mvD 2 70] [[],[0],[1],[2,0,1,2]] false) .ret) .skip)))))))))))) (.seq (.region [opD 2 (.mov (.const vB))] [[]] false) .ret)))
theorem g34 (fu:Nat):(e34 fu).Good Tryz.prog := good_fn orders Tryz.func34 fu (d34 fu) rs34 71 (l := [e94 fu,e94 fu,e95 fu,e95 fu]) ⟨g94 fu,g94 fu,g95 fu,g95 fu,trivial⟩
def rs7:List RVx := [(.tmp 6)]
def p7 (fu:Nat):(Z4)×((Z5)×((List Int)×Unit))→Option (Unit×Bool) := fun ⟨⟨a,c,f,h,i,j,k,_⟩,⟨l,m,n,o,q,s,t,u,w,x,_⟩,y,_⟩ =>
Option.bind (p9 fu ()) fun ⟨_,z⟩ =>
orK (E := Unit×Unit)
 (Option.bind (p10 fu ((a,c,f,h,i,j,k,()),())) fun ⟨_,a0⟩ =>
 bif (a0==(0:Int)) then
 Option.bind (p25 fu ((a,c,f,h,i,j,k,()),())) fun ⟨_,c0⟩ =>
 bif eqL c0 then
 Option.bind (p30 fu (c0,())) fun ⟨_,⟨⟨f0,h0,i0,j0,k0,l0,m0,_⟩,n0,_⟩⟩ =>
 bif eqL k0 then
 bif eqL l0 then
 bif eqL m0 then
 Option.bind (p16 fu ((a,c,f,h,i,j,k,()),(f0,h0,i0,j0,k0,l0,m0,()),())) fun ⟨_,o0⟩ =>
 bif (n0 != (0:Int)) then
 inrO (some ((),false))
 else
 bif !o0 then
 inrO (some ((),false))
 else
 some (.inl ((),()))
 else none
 else none
 else none
 else none
 else
 some (.inl ((),())))
 fun ⟨_,_⟩ =>
Option.bind (p21 fu ((l,m,n,o,q,s,t,u,w,x,()),())) fun ⟨_,q0⟩ =>
bif eqL q0 then
 Option.bind (p26 fu (q0,())) fun ⟨_,⟨⟨s0,t0,u0,w0,x0,y0,z0,a1,c1,f1,_⟩,h1,_⟩⟩ =>
 Option.bind (p34 fu ((l,m,n,o,q,s,t,u,w,x,()),())) fun ⟨_,i1⟩ =>
 orK (E := Unit×Unit)
 (bif !((h1==(0:Int))==i1) then
 inrO (some ((),false))
 else
 bif i1 then
 bif eqL y0 then
 Option.bind (p21 fu ((s0,t0,u0,w0,x0,y0,z0,a1,c1,f1,()),())) fun ⟨_,j1⟩ =>
 bif eqL j1 then
 Option.bind (p21 fu ((l,m,n,o,q,s,t,u,w,x,()),())) fun ⟨_,k1⟩ =>
 bif eqL k1 then
 bif !(ByteArray.toList (strOfNums j1)==ByteArray.toList (strOfNums k1)) then
 inrO (some ((),false))
 else
 some (.inl ((),()))
 else none
 else none
 else none
 else
 some (.inl ((),())))
 fun ⟨_,_⟩ =>
 Option.bind (p30 fu (y,())) fun ⟨_,⟨⟨l1,m1,n1,o1,q1,s1,t1,_⟩,u1,_⟩⟩ =>
 orK (E := Unit×Unit)
 (bif (u1==(0:Int)) then
 bif eqL q1 then
 bif eqL s1 then
 bif eqL t1 then
 Option.bind (p25 fu ((l1,m1,n1,o1,q1,s1,t1,()),())) fun ⟨_,w1⟩ =>
 bif eqL w1 then
 bif !(ByteArray.toList (strOfNums w1)==ByteArray.toList (strOfNums y)) then
 inrO (some ((),false))
 else
 bif eqL q1 then
 bif eqL s1 then
 bif eqL t1 then
 Option.bind (p10 fu ((l1,m1,n1,o1,q1,s1,t1,()),())) fun ⟨_,x1⟩ =>
 bif (x1 != (0:Int)) then
 inrO (some ((),false))
 else
 some (.inl ((),()))
 else none
 else none
 else none
 else none
 else none
 else none
 else none
 else
 some (.inl ((),())))
 fun ⟨_,_⟩ =>
 Option.bind (p26 fu (y,())) fun ⟨_,⟨⟨y1,z1,a2,c2,f2,h2,i2,j2,k2,l2,_⟩,m2,_⟩⟩ =>
 bif z then
 bif (m2 != (0:Int)) then
 some ((),true)
 else
 bif eqL h2 then
 Option.bind (p21 fu ((y1,z1,a2,c2,f2,h2,i2,j2,k2,l2,()),())) fun ⟨_,n2⟩ =>
 bif eqL n2 then
 some ((),ByteArray.toList (strOfNums n2)==ByteArray.toList (strOfNums y))
 else none
 else none
 else
 some ((),false)
else none
def e7 (fu:Nat):Ent := ⟨7,(.cons Y7 (.cons Y8 (.cons (.hole (.sl (.int .u8))) .nil))),.nil,(.hole .bool),p7 fu⟩
def d7 (fu:Nat):DC := (.seq (.region [opD 3 (.box 29 7 (tD 0)),opD 4 (.box 44 10 (tD 1)),opD 6 (.mov (.const vB))] [[],[],[]] false) (.seq (.region [oqD 18 (.call 9 []) (.ent (e9 fu)),mvD 7 18] [[],[0,0,0]] false) (.join ⟨[],.nil,[],.nil,[2,4,7],[16]⟩
 (.seq (.region [opD 19 (.load true 7 (tD 3)),oqD 20 (.call 10 [(tD 19)]) (.ent (e10 fu)),opD 21 (.bin .eql (tD 20) (cD 0))] [[],[0],[1]] false) (.cond (.tmp 21) (.seq (.region [opD 23 (.load true 7 (tD 3)),oqD 24 (.call 25 [(tD 23)]) (.ent (e25 fu)),oqD 25 (.call 30 [(tD 24)]) (.ent (e30 fu)),mvD 22 25,opD 26 (.ext (tD 22) 0),opD 27 (.ext (tD 22) 1),opD 8 (.alloc 29 7 [vT,vT,vU,vU,vS,vS,vS]),onD (.store 7 (tD 8) (tD 26)),mvD 9 27] [[],[0],[1,1],[2],[3],[3],[],[6,4,2,0,1,2,3,4,6],[5,7,0,1,2,3,4,5,6,7]] false) (.seq (.region [opD 28 (.load true 7 (tD 3)),opD 29 (.load true 7 (tD 8)),oqD 30 (.call 16 [(tD 28),(tD 29)]) (.ent (e16 fu)),mvD 10 30] [[],[],[0,1],[2,2,0,1,2]] false) (.seq (.region [mvD 31 9,opD 32 (.bin .neq (tD 31) (cD 0)),mvD 33 32,ogD 34 33 false (.mov (tD 10)),ogD 35 33 false (.not (tD 34)),opD 36 (.pick (tD 33) (.const (.bool true)) (tD 35))] [[],[0],[1],[2],[3,2],[2,4]] false) (.cond (.tmp 36) (.seq (.region [opD 6 (.mov (.const vB))] [[]] false) .ret) .skip)))) .skip))
 (.seq (.region [opD 38 (.load true 10 (tD 4)),oqD 39 (.call 21 [(tD 38)]) (.ent (e21 fu)),oqD 40 (.call 26 [(tD 39)]) (.ent (e26 fu)),mvD 37 40,opD 41 (.ext (tD 37) 0),opD 42 (.ext (tD 37) 1),opD 11 (.alloc 44 10 [vI,vU,vU,vU,vT,vS,vU,vI,vT,vU]),onD (.store 10 (tD 11) (tD 41)),mvD 12 42] [[],[0],[1,1],[2],[3],[3],[],[6,4,2,0,1,2,3,4,6],[5,7,0,1,2,3,4,5,6,7]] false) (.seq (.region [opD 43 (.load true 10 (tD 4)),oqD 44 (.call 34 [(tD 43)]) (.ent (e34 fu)),mvD 13 44] [[],[0],[1,1,0,1]] false) (.join ⟨[],.nil,[],.nil,[2,7],[]⟩
 (.seq (.region [mvD 45 12,opD 46 (.bin .eql (tD 45) (cD 0)),mvD 47 13,opD 48 (.beq true (tD 46) (tD 47)),mvD 49 48,ogD 50 49 false (.mov (tD 13)),ogD 51 49 false (.mov (tD 50)),ogD 52 51 true (.load true 10 (tD 11)),(⟨(some 53),(some (51,true)),(.call 21 [(tD 52)])⟩,(.ent (e21 fu))),ogD 54 51 true (.b2s (tD 53)),ogD 55 51 true (.load true 10 (tD 4)),(⟨(some 56),(some (51,true)),(.call 21 [(tD 55)])⟩,(.ent (e21 fu))),ogD 57 51 true (.b2s (tD 56)),ogD 58 51 true (.bin .neq (tD 54) (tD 57)),ogD 59 49 false (.pick (tD 51) (tD 58) (.const vB)),opD 60 (.pick (tD 49) (.const (.bool true)) (tD 59))] [[],[0],[],[1,2],[3],[4],[5,4,4],[6],[7,6,6],[8,6],[6],[10,8,6],[11,6],[9,12,6],[6,13,4],[4,14]] true) (.cond (.tmp 60) (.seq (.region [opD 6 (.mov (.const vB))] [[]] false) .ret) .skip))
 (.seq (.region [mvD 62 2,oqD 63 (.call 30 [(tD 62)]) (.ent (e30 fu)),mvD 61 63,opD 64 (.ext (tD 61) 0),opD 65 (.ext (tD 61) 1),opD 14 (.alloc 29 7 [vT,vT,vU,vU,vS,vS,vS]),onD (.store 7 (tD 14) (tD 64)),mvD 15 65] [[],[0],[1],[2],[2],[],[5,3,1,0,1,2,3,5],[4,6,0,1,2,3,4,5,6]] false) (.join ⟨[],.nil,[],.nil,[2,7],[]⟩
 (.seq (.region [mvD 66 15,opD 67 (.bin .eql (tD 66) (cD 0)),mvD 68 67,ogD 69 68 true (.load true 7 (tD 14)),(⟨(some 70),(some (68,true)),(.call 25 [(tD 69)])⟩,(.ent (e25 fu))),ogD 71 68 true (.b2s (tD 70)),ogD 72 68 true (.mov (tD 2)),ogD 73 68 true (.b2s (tD 72)),ogD 74 68 true (.bin .neq (tD 71) (tD 73)),ogD 75 68 true (.mov (tD 74)),ogD 76 75 false (.load true 7 (tD 14)),(⟨(some 77),(some (75,false)),(.call 10 [(tD 76)])⟩,(.ent (e10 fu))),ogD 78 75 false (.bin .neq (tD 77) (cD 0)),ogD 79 68 true (.pick (tD 75) (.const (.bool true)) (tD 78)),opD 80 (.pick (tD 68) (tD 79) (.const vB))] [[],[0],[1],[2],[3,2,2],[4,2],[2],[6,2],[5,7,2],[8,4,2],[9],[10,9,9],[11,9],[9,12,2],[2,13]] true) (.cond (.tmp 80) (.seq (.region [opD 6 (.mov (.const vB))] [[]] false) .ret) .skip))
 (.seq (.region [mvD 82 2,oqD 83 (.call 26 [(tD 82)]) (.ent (e26 fu)),mvD 81 83,opD 84 (.ext (tD 81) 0),opD 85 (.ext (tD 81) 1),opD 16 (.alloc 44 10 [vI,vU,vU,vU,vT,vS,vU,vI,vT,vU]),onD (.store 10 (tD 16) (tD 84)),mvD 17 85] [[],[0],[1],[2],[2],[],[5,3,1,0,1,2,3,5],[4,6,0,1,2,3,4,5,6]] false) (.seq (.region [mvD 86 7,mvD 87 86,ogD 88 87 true (.mov (tD 17)),ogD 89 87 true (.bin .neq (tD 88) (cD 0)),ogD 90 87 true (.mov (tD 89)),ogD 91 90 false (.load true 10 (tD 16)),(⟨(some 92),(some (90,false)),(.call 21 [(tD 91)])⟩,(.ent (e21 fu))),ogD 93 90 false (.b2s (tD 92)),ogD 94 90 false (.mov (tD 2)),ogD 95 90 false (.b2s (tD 94)),ogD 96 90 false (.bin .eql (tD 93) (tD 95)),ogD 97 87 true (.pick (tD 90) (.const (.bool true)) (tD 96)),opD 98 (.pick (tD 87) (tD 97) (.const vB)),mvD 6 98] [[],[0],[1],[2,1],[3,1,1],[4],[5,4,4],[6,4],[4],[8,4],[7,9,4],[4,10,1],[1,11],[12,6,0,1,2,3,4,5,6,7,8,9,10,11,12]] true) .ret))))))))))
theorem g7 (fu:Nat):(e7 fu).Good Tryz.prog := good_fn orders Tryz.func7 fu (d7 fu) rs7 99 (l := [e9 fu,e10 fu,e25 fu,e30 fu,e16 fu,e21 fu,e26 fu,e34 fu,e21 fu,e21 fu,e30 fu,e25 fu,e10 fu,e26 fu,e21 fu]) ⟨g9 fu,g10 fu,g25 fu,g30 fu,g16 fu,g21 fu,g26 fu,g34 fu,g21 fu,g21 fu,g30 fu,g25 fu,g10 fu,g26 fu,g21 fu,trivial⟩
end Go.Proofs.YthlgaodaofpgoaaGreatDoor
