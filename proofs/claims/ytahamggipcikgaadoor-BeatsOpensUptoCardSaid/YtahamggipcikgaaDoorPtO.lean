/-
  The functions, typed.
-/
import Derived.Test.YtahamggipcikgaaDoorErsE
import Derived.Test.YtahamggipcikgaaDoorPkF
import Derived.Test.YtahamggipcikgaaDoorDaN
import Derived.Test.YtahamggipcikgaaDoorRows
namespace Go.Proofs.YtahamggipcikgaaDoor
set_option maxRecDepth 1000000
open Go.RowKit
abbrev T_api_Conf:Tp := (.pair (.sl .any (.int .i64)) (.sl .any (.int .i64)))
abbrev D_api_Conf := (List (Int))×(List (Int))
abbrev T_api_Conf_n:Tp := (.pair (.sl .new (.int .i64)) (.sl .new (.int .i64)))
abbrev T_api_Packet:Tp := (.pair (.int .i64) (.pair (.int .i64) (.pair (.int .i64) (.sl .any (.int .u8)))))
abbrev T_api_Entry:Tp := (.pair (.int .u64) (.pair (.int .u64) (.pair (.int .i64) (.pair (.sl .any (.int .u8)) T_api_Conf))))
abbrev D_api_Entry := (Int)×((Int)×((Int)×((List (Int))×(D_api_Conf))))
abbrev T_api_Entry_n:Tp := (.pair (.int .u64) (.pair (.int .u64) (.pair (.int .i64) (.pair (.sl .new (.int .u8)) T_api_Conf_n))))
abbrev T_api_Msg:Tp := (.pair (.int .i64) (.pair (.int .i64) (.pair (.int .i64) (.pair (.int .u64) (.pair (.int .u64) (.pair (.int .u64) (.pair (.sl .any T_api_Entry) (.pair (.int .u64) (.pair .bool (.pair (.int .u64) (.pair T_api_Conf (.pair (.sl .any (.int .u8)) .bool))))))))))))
abbrev D_api_Msg := (Int)×((Int)×((Int)×((Int)×((Int)×((Int)×((List (D_api_Entry))×((Int)×((Bool)×((Int)×((D_api_Conf)×((List (Int))×(Bool))))))))))))
abbrev T_api_Msg_n:Tp := (.pair (.int .i64) (.pair (.int .i64) (.pair (.int .i64) (.pair (.int .u64) (.pair (.int .u64) (.pair (.int .u64) (.pair (.sl .new T_api_Entry_n) (.pair (.int .u64) (.pair .bool (.pair (.int .u64) (.pair T_api_Conf_n (.pair (.sl .new (.int .u8)) .bool))))))))))))
abbrev T_beats_Wire:Tp := (.pair (.int .u64) T_api_Msg)
abbrev D_beats_Wire := (Int)×(D_api_Msg)
abbrev T_beats_Wire_n:Tp := (.pair (.int .u64) T_api_Msg_n)
theorem orders:Tryd.prog.follows .mixedOrders=true := by kernel_rfl
abbrev Z0:Type := (Int)×((Int)×((Int)×((Int)×((Int)×((Int)×((Int)×((List (D_api_Entry))×((Int)×((Bool)×((Int)×((List (Int))×((List (Int))×((List (Int))×((Bool)×(Unit)))))))))))))))
abbrev Z1:Type := (Int)×((Int)×((Int)×((Int)×((Int)×((Int)×((Int)×((Unit)×((Int)×((Bool)×((Int)×((Unit)×((Unit)×((Unit)×((Bool)×(Unit)))))))))))))))
abbrev Z2:Type := (Int)×((Int)×((Int)×((Int)×((Int)×((Int)×((Int)×((List (D_api_Entry))×((Int)×((Bool)×((Int)×((Unit)×((Unit)×((Unit)×((Bool)×(Unit)))))))))))))))
abbrev Y3:Sh := (.agg 3 (.cons (.own .own 5 (.int .u8)) (.cons (.hole (.int .i64)) (.cons (.alt true (.ifc 88 (.look (.cons (.hole (.int .i64)) (.cons (.hole (.int .i64)) .nil)))) (.nilv 1)) .nil))))
abbrev Y4:Sh := (.box 79 3 (.cons (.own .own 5 (.int .u8)) (.cons (.hole (.int .i64)) (.cons (.alt false (.ifc 88 (.look (.cons (.hole (.int .i64)) (.cons (.hole (.int .i64)) .nil)))) (.nilv 1)) .nil))))
abbrev Y5:Sh := (.agg 3 (.cons (.own .own 5 (.int .u8)) (.cons (.hole (.int .i64)) (.cons (.alt false (.ifc 88 (.look (.cons (.hole (.int .i64)) (.cons (.hole (.int .i64)) .nil)))) (.nilv 1)) .nil))))
abbrev Y6:Sh := (.agg 14 (.cons (.hole (.int .i64)) (.cons (.hole (.int .i64)) (.cons (.hole (.int .i64)) (.cons (.hole (.int .u64)) (.cons (.hole (.int .u64)) (.cons (.hole (.int .u64)) (.cons (.hole (.sl .new T_api_Entry_n)) (.cons (.hole (.int .u64)) (.cons (.hole .bool) (.cons (.hole (.int .u64)) (.cons (.hole (.sl .new (.int .i64))) (.cons (.hole (.sl .new (.int .i64))) (.cons (.hole (.sl .new (.int .u8))) (.cons (.hole .bool) .nil)))))))))))))))
abbrev Z7:Type := (Int)×((Int)×((Int)×((Int)×((Int)×((Int)×((List (D_api_Entry))×((Int)×((Bool)×((Int)×((List (Int))×((List (Int))×((List (Int))×((Bool)×(Unit))))))))))))))
abbrev Y8:Sh := (.agg 14 (.cons (.hole (.int .i64)) (.cons (.hole (.int .i64)) (.cons (.hole (.int .i64)) (.cons (.hole (.int .u64)) (.cons (.hole (.int .u64)) (.cons (.hole (.int .u64)) (.cons (.hole (.sl .any T_api_Entry)) (.cons (.hole (.int .u64)) (.cons (.hole .bool) (.cons (.hole (.int .u64)) (.cons (.hole (.sl .any (.int .i64))) (.cons (.hole (.sl .any (.int .i64))) (.cons (.hole (.sl .any (.int .u8))) (.cons (.hole .bool) .nil)))))))))))))))
abbrev Z9:Type := (Int)×((Int)×((Int)×((List (Int))×((List (Int))×((List (Int))×(Unit))))))
abbrev Y10:Sh := (.agg 6 (.cons (.hole (.int .u64)) (.cons (.hole (.int .u64)) (.cons (.hole (.int .i64)) (.cons (.own .own 5 (.int .u8)) (.cons (.own .own 3 (.int .i64)) (.cons (.own .own 3 (.int .i64)) .nil)))))))
abbrev Y11:Sh := (.agg 14 (.cons (.hole (.int .i64)) (.cons (.hole (.int .i64)) (.cons (.hole (.int .i64)) (.cons (.hole (.int .u64)) (.cons (.hole (.int .u64)) (.cons (.hole (.int .u64)) (.cons (.own .own 96 T_api_Entry_n) (.cons (.hole (.int .u64)) (.cons (.hole .bool) (.cons (.hole (.int .u64)) (.cons (.own .own 3 (.int .i64)) (.cons (.own .own 3 (.int .i64)) (.cons (.own .own 5 (.int .u8)) (.cons (.hole .bool) .nil)))))))))))))))
abbrev Y12:Sh := (.agg 4 (.cons (.hole (.int .i64)) (.cons (.hole (.int .i64)) (.cons (.hole (.int .i64)) (.cons (.hole (.sl .any (.int .u8))) .nil)))))
abbrev Y13:Sh := (.agg 15 (.cons (.hole (.int .u64)) (.cons (.hole (.int .i64)) (.cons (.hole (.int .i64)) (.cons (.hole (.int .i64)) (.cons (.hole (.int .u64)) (.cons (.hole (.int .u64)) (.cons (.hole (.int .u64)) (.cons (.hole (.sl .new T_api_Entry_n)) (.cons (.hole (.int .u64)) (.cons (.hole .bool) (.cons (.hole (.int .u64)) (.cons (.hole (.sl .new (.int .i64))) (.cons (.hole (.sl .new (.int .i64))) (.cons (.hole (.sl .new (.int .u8))) (.cons (.hole .bool) .nil))))))))))))))))
abbrev Y14:Sh := (.box 66 4 (.cons (.hole (.sl .any (.int .u8))) (.cons (.hole (.int .i64)) (.cons (.hole (.int .i64)) (.cons (.hole (.int .i64)) .nil)))))
abbrev Y15:Sh := (.agg 4 (.cons (.hole (.sl .any (.int .u8))) (.cons (.hole (.int .i64)) (.cons (.hole (.int .i64)) (.cons (.hole (.int .i64)) .nil)))))
abbrev Y16:Sh := (.agg 15 (.cons (.hole (.int .u64)) (.cons (.hole (.int .i64)) (.cons (.hole (.int .i64)) (.cons (.hole (.int .i64)) (.cons (.hole (.int .u64)) (.cons (.hole (.int .u64)) (.cons (.hole (.int .u64)) (.cons (.own .own 96 T_api_Entry_n) (.cons (.hole (.int .u64)) (.cons (.hole .bool) (.cons (.hole (.int .u64)) (.cons (.own .own 3 (.int .i64)) (.cons (.own .own 3 (.int .i64)) (.cons (.own .own 5 (.int .u8)) (.cons (.hole .bool) .nil))))))))))))))))
abbrev Y17:Sh := (.agg 15 (.cons (.hole (.int .u64)) (.cons (.hole (.int .i64)) (.cons (.hole (.int .i64)) (.cons (.hole (.int .i64)) (.cons (.hole (.int .u64)) (.cons (.hole (.int .u64)) (.cons (.hole (.int .u64)) (.cons .nils (.cons (.hole (.int .u64)) (.cons (.hole .bool) (.cons (.hole (.int .u64)) (.cons .nils (.cons .nils (.cons .nils (.cons (.hole .bool) .nil))))))))))))))))
abbrev Y18:Sh := (.agg 15 (.cons (.hole (.int .u64)) (.cons (.hole (.int .i64)) (.cons (.hole (.int .i64)) (.cons (.hole (.int .i64)) (.cons (.hole (.int .u64)) (.cons (.hole (.int .u64)) (.cons (.hole (.int .u64)) (.cons (.own .own 96 T_api_Entry_n) (.cons (.hole (.int .u64)) (.cons (.hole .bool) (.cons (.hole (.int .u64)) (.cons .nils (.cons .nils (.cons .nils (.cons (.hole .bool) .nil))))))))))))))))
abbrev Y19:Sh := (.agg 6 (.cons (.hole (.int .u64)) (.cons (.hole (.int .u64)) (.cons (.hole (.int .i64)) (.cons (.hole (.sl .any (.int .u8))) (.cons (.hole (.sl .any (.int .i64))) (.cons (.hole (.sl .any (.int .i64))) .nil)))))))
def rs6:List RVx := [(.tmp 0)]
def p6 (fu:Nat):Unit→Option ((Unit)×(Bool)) := fun _ =>
Option.bind (pPack fu ((1:Int),[((5:Int),(5:Int),(1:Int),(2:Int),(3:Int),(0:Int),(0:Int),[],(0:Int),false,(0:Int),([],[]),[],false),((6:Int),(3:Int),(1:Int),(2:Int),(3:Int),(0:Int),(0:Int),[],(0:Int),false,(0:Int),([],[]),[],false)],())) fun ⟨_,⟨a,c,_⟩⟩ =>
bif (c==(0:Int)) then
 bif (((List.length a):Int)==(2:Int)) then
 bif decide ((0:Int)≤0∧0<(List.length a:Int)) then
 bif decide (0<List.length a) then
 bif (((((List.getD a 0 (dflt T_api_Packet)).2).2).1)==(2:Int)) then
 bif decide ((0:Int)≤1∧1<(List.length a:Int)) then
 bif decide (1<List.length a) then
 some ((),(((((List.getD a 1 (dflt T_api_Packet)).2).2).1)==(1:Int)))
 else none
 else none
 else
 some ((),false)
 else none
 else none
 else
 some ((),false)
else
 some ((),false)
def e6 (fu:Nat):Ent := ⟨6,.nil,.nil,(.hole .bool),p6 fu⟩
theorem g6 (fu:Nat):(e6 fu).Good Tryd.prog := good_fx orders Tryd.func6 fu [(5,(.ty T_beats_Wire_n)),(6,(.ent (ePack fu)))] [] rs6 33 (l := [ePack fu]) ⟨gPack fu,trivial⟩
def rs15:List RVx := [(.tmp 2)]
def p15 (_:Nat):(Int)×(Unit)→Option ((Unit)×(Bool)) := fun ⟨a,_⟩ =>
bif decide (a≥(1:Int)) then
 some ((),decide (a≤(7:Int)))
else
 some ((),false)
def e15 (fu:Nat):Ent := ⟨15,(.cons (.hole (.int .i64)) .nil),.nil,(.hole .bool),p15 fu⟩
theorem g15 (fu:Nat):(e15 fu).Good Tryd.prog := good_fx orders Tryd.func15 fu [] [] rs15 9 (l := []) trivial
def rs16:List RVx := [(.tmp 2)]
def p16 (_:Nat):(List (Int))×(Unit)→Option ((Unit)×((List (Int))×((Int)×((Unit)×(Unit))))) := fun ⟨a,_⟩ =>
bif decide (List.length a≤maxLen∧List.length a * 1≤140737488355328) then
 bif decide (List.length a=List.length a) then
 some ((),(a,(0:Int),(),()))
 else none
else none
def e16 (fu:Nat):Ent := ⟨16,(.cons (.hole (.sl .any (.int .u8))) .nil),.nil,(.box 79 3 (.cons (.own .own 5 (.int .u8)) (.cons (.hole (.int .i64)) (.cons (.nilv 1) .nil)))),p16 fu⟩
theorem g16 (fu:Nat):(e16 fu).Good Tryd.prog := good_fx orders Tryd.func16 fu [(2,(.ty (.int .u8)))] [] rs16 7 (l := []) trivial
def rs37:List RVx := [(.tmp 2),(.tmp 3),(.tmp 4)]
def p37 (fu:Nat):(List (Int))×(Unit)→Option ((Unit)×((Int)×((Int)×((Int)×(Unit))))) := fun ⟨a,_⟩ =>
loopO (S := ((Int)×((Int)×(Unit)))×(Unit)) fu (fun ⟨⟨c,f,_⟩,_⟩ =>
 bif decide (f<(10:Int)) then
 bif (f==(List.length a:Int)) then
 inrO (some ((),((0:Int),(0:Int),(11:Int),())))
 else
 bif decide ((0:Int)≤f∧f<(List.length a:Int)) then
 bif decide (Int.toNat f<List.length a) then
 orK (E := ((Bool)×((Bool)×(Unit)))×(Unit))
 (bif (f==(9:Int)) then
 bif ((List.getD a (Int.toNat f) (dflt (.int .u8))) != (1:Int)) then
 inrO (inrO (some ((),((0:Int),(0:Int),(12:Int),()))))
 else
 bif ((List.getD a (Int.toNat f) (dflt (.int .u8)))==(0:Int)) then
 bif decide (f>(0:Int)) then
 inrO (inrO (some ((),((0:Int),(0:Int),(12:Int),()))))
 else
 some (.inl ((true,decide (f>(0:Int)),()),()))
 else
 some (.inl ((false,false,()),()))
 else
 bif ((List.getD a (Int.toNat f) (dflt (.int .u8)))==(0:Int)) then
 bif decide (f>(0:Int)) then
 inrO (inrO (some ((),((0:Int),(0:Int),(12:Int),()))))
 else
 some (.inl ((true,decide (f>(0:Int)),()),()))
 else
 some (.inl ((false,false,()),())))
 fun ⟨⟨_,_,_⟩,_⟩ =>
 bif decide ((0:Int)≤(IntKind.wrap .i64 ((7:Int) * f))) then
 bif decide ((List.getD a (Int.toNat f) (dflt (.int .u8)))<(128:Int)) then
 inrO (some ((),(IntKind.wrap .u64 ((BitVec.ofInt (IntKind.bits .u64) c ||| BitVec.ofInt (IntKind.bits .u64) (IntKind.wrap .u64 ((IntKind.wrap .u64 (IntKind.wrap .u8 ((BitVec.ofInt (IntKind.bits .u8) (List.getD a (Int.toNat f) (dflt (.int .u8))) &&& BitVec.ofInt (IntKind.bits .u8) (127:Int)).toNat:Int))) * 2 ^ (min (Int.toNat (IntKind.wrap .i64 ((7:Int) * f))) (IntKind.bits .u64))))).toNat:Int),IntKind.wrap .i64 (f+(1:Int)),(0:Int),())))
 else
 some (.inl ((IntKind.wrap .u64 ((BitVec.ofInt (IntKind.bits .u64) c ||| BitVec.ofInt (IntKind.bits .u64) (IntKind.wrap .u64 ((IntKind.wrap .u64 (IntKind.wrap .u8 ((BitVec.ofInt (IntKind.bits .u8) (List.getD a (Int.toNat f) (dflt (.int .u8))) &&& BitVec.ofInt (IntKind.bits .u8) (127:Int)).toNat:Int))) * 2 ^ (min (Int.toNat (IntKind.wrap .i64 ((7:Int) * f))) (IntKind.bits .u64))))).toNat:Int),IntKind.wrap .i64 (f+(1:Int)),()),()))
 else none
 else none
 else none
 else
 inrO (some ((),((0:Int),(0:Int),(12:Int),()))))
 (((0:Int),(0:Int),()),())
def e37 (fu:Nat):Ent := ⟨37,(.cons (.hole (.sl .any (.int .u8))) .nil),.nil,(.tup 3 (.cons (.hole (.int .u64)) (.cons (.hole (.int .i64)) (.cons (.hole (.int .i64)) .nil)))),p37 fu⟩
theorem g37 (fu:Nat):(e37 fu).Good Tryd.prog := good_fx orders Tryd.func37 fu [] [(4,⟨[5,9],(.cons (.hole (.int .u64)) (.cons (.hole (.int .i64)) .nil)),[],.nil,[0],[]⟩),(14,⟨[30,33],(.cons (.hole .bool) (.cons (.hole .bool) .nil)),[],.nil,[0,5,6,7,9],[]⟩)] rs37 49 (l := []) trivial
def rs35:List RVx := []
def p35 (_:Nat):((List (Int))×((Int)×((Unit)×(Unit))))×((Int)×((Int)×(Unit)))→Option ((((List (Int))×((Int)×(((Bool)×(((Int)×((Int)×(Unit)))×(Unit)))×(Unit))))×((Unit)×(Unit)))×(Unit)) := fun ⟨⟨a,c,_,_⟩,f,h,_⟩ =>
bif (h != (0:Int)) then
 bif decide (List.length a=List.length a) then
 some (((a,c,(true,(h,f,()),dflt .unit),()),(),()),())
 else none
else
 bif decide (List.length a=List.length a) then
 some (((a,c,(false,dflt (.pair (.int .i64) (.pair (.int .i64) .unit)),()),()),(),()),())
 else none
def e35 (fu:Nat):Ent := ⟨35,(.cons (.box 79 3 (.cons (.own .own 5 (.int .u8)) (.cons (.hole (.int .i64)) (.cons (.nilv 1) .nil)))) (.cons (.hole (.int .i64)) (.cons (.hole (.int .i64)) .nil))),(.cons Y3 (.cons .dead .nil)),(.tup 0 .nil),p35 fu⟩
theorem g35 (fu:Nat):(e35 fu).Good Tryd.prog := good_fx orders Tryd.func35 fu [] [] rs35 23 (l := []) trivial
def rs18:List RVx := []
def p18 (fu:Nat):((List (Int))×((Int)×((Unit)×(Unit))))×((Int)×(Unit))→Option ((((List (Int))×((Int)×(((Bool)×(((Int)×((Int)×(Unit)))×(Unit)))×(Unit))))×((Unit)×(Unit)))×(Unit)) := fun ⟨⟨a,c,_,_⟩,f,_⟩ =>
bif decide (List.length a=List.length a) then
 Option.bind (p35 fu ((a,c,(),()),c,f,())) fun ⟨⟨⟨h,i,⟨j,⟨k,l,_⟩,_⟩,_⟩,_,_⟩,_⟩ =>
 bif decide (List.length h=List.length h) then
 some (((h,i,(j,(k,l,()),()),()),(),()),())
 else none
else none
def e18 (fu:Nat):Ent := ⟨18,(.cons (.box 79 3 (.cons (.own .own 5 (.int .u8)) (.cons (.hole (.int .i64)) (.cons (.nilv 1) .nil)))) (.cons (.hole (.int .i64)) .nil)),(.cons Y3 (.cons .dead .nil)),(.tup 0 .nil),p18 fu⟩
theorem g18 (fu:Nat):(e18 fu).Good Tryd.prog := good_fx orders Tryd.func18 fu [(6,(.ent (e35 fu)))] [] rs18 11 (l := [e35 fu]) ⟨g35 fu,trivial⟩
def rs19:List RVx := [(.tmp 2)]
def p19 (fu:Nat):((List (Int))×((Int)×((Unit)×(Unit))))×(Unit)→Option ((((List (Int))×((Int)×(((Bool)×(((Int)×((Int)×(Unit)))×(Unit)))×(Unit))))×((Unit)×(Unit)))×(Int)) := fun ⟨⟨a,c,_,_⟩,_⟩ =>
bif decide ((0:Int)≤c) then
 bif decide (Int.toNat c≤List.length a∧0+(List.length a)≤List.length a) then
 bif decide ((Int.toNat c)+((List.length a)-(Int.toNat c))≤List.length a) then
 Option.bind (p37 fu (sub' a (Int.toNat c) ((List.length a)-(Int.toNat c)),())) fun ⟨_,⟨f,h,i,_⟩⟩ =>
 bif decide (List.length a=List.length a) then
 Option.bind (p18 fu ((a,c,(),()),i,())) fun ⟨⟨⟨j,k,⟨l,⟨m,n,_⟩,_⟩,_⟩,_,_⟩,_⟩ =>
 bif decide (List.length j=List.length j) then
 some (((j,IntKind.wrap .i64 (k+h),(l,(m,n,()),()),()),(),()),f)
 else none
 else none
 else none
 else none
else none
def e19 (fu:Nat):Ent := ⟨19,(.cons (.box 79 3 (.cons (.own .own 5 (.int .u8)) (.cons (.hole (.int .i64)) (.cons (.nilv 1) .nil)))) .nil),(.cons Y3 (.cons .dead .nil)),(.hole (.int .u64)),p19 fu⟩
theorem g19 (fu:Nat):(e19 fu).Good Tryd.prog := good_fx orders Tryd.func19 fu [(16,(.ent (e37 fu))),(26,(.ent (e18 fu)))] [] rs19 37 (l := [e37 fu,e18 fu]) ⟨g37 fu,g18 fu,trivial⟩
def p35_1 (_:Nat):((List (Int))×((Int)×(((Bool)×(((Int)×((Int)×(Unit)))×(Unit)))×(Unit))))×((Int)×((Int)×(Unit)))→Option ((((List (Int))×((Int)×(((Bool)×(((Int)×((Int)×(Unit)))×(Unit)))×(Unit))))×((Unit)×(Unit)))×(Unit)) := fun ⟨⟨a,c,⟨f,⟨h,i,_⟩,_⟩,_⟩,j,k,_⟩ =>
bif f then
 bif decide (List.length a=List.length a) then
 some (((a,c,(true,(h,i,()),dflt .unit),()),(),()),())
 else none
else
 bif (k != (0:Int)) then
 bif decide (List.length a=List.length a) then
 some (((a,c,(true,(k,j,()),dflt .unit),()),(),()),())
 else none
 else
 bif decide (List.length a=List.length a) then
 some (((a,c,(false,dflt (.pair (.int .i64) (.pair (.int .i64) .unit)),()),()),(),()),())
 else none
def e35_1 (fu:Nat):Ent := ⟨35,(.cons Y4 (.cons (.hole (.int .i64)) (.cons (.hole (.int .i64)) .nil))),(.cons Y3 (.cons .dead .nil)),(.tup 0 .nil),p35_1 fu⟩
theorem g35_1 (fu:Nat):(e35_1 fu).Good Tryd.prog := good_fx orders Tryd.func35 fu [] [] rs35 23 (l := []) trivial
def rs36:List RVx := [(.tmp 4)]
def p36 (_:Nat):((List (Int))×((Int)×(((Bool)×(((Int)×((Int)×(Unit)))×(Unit)))×(Unit))))×((Int)×(Unit))→Option ((((List (Int))×((Int)×(((Bool)×(((Int)×((Int)×(Unit)))×(Unit)))×(Unit))))×((Unit)×(Unit)))×(Int)) := fun ⟨⟨a,c,⟨f,⟨h,i,_⟩,_⟩,_⟩,j,_⟩ =>
bif f then
 bif decide (List.length a=List.length a) then
 some (((a,c,(true,(h,i,()),dflt .unit),()),(),()),(0:Int))
 else none
else
 bif decide (List.length a=List.length a) then
 some (((a,c,(false,dflt (.pair (.int .i64) (.pair (.int .i64) .unit)),()),()),(),()),j)
 else none
def e36 (fu:Nat):Ent := ⟨36,(.cons Y4 (.cons (.hole (.int .i64)) .nil)),(.cons Y3 (.cons .dead .nil)),(.hole (.int .i64)),p36 fu⟩
theorem g36 (fu:Nat):(e36 fu).Good Tryd.prog := good_fx orders Tryd.func36 fu [] [] rs36 13 (l := []) trivial
def rs17:List RVx := [(.tmp 4)]
def p17 (fu:Nat):((List (Int))×((Int)×((Unit)×(Unit))))×((Int)×(Unit))→Option ((((List (Int))×((Int)×(((Bool)×(((Int)×((Int)×(Unit)))×(Unit)))×(Unit))))×((Unit)×(Unit)))×(Int)) := fun ⟨⟨a,c,_,_⟩,f,_⟩ =>
bif decide (List.length a=List.length a) then
 Option.bind (p19 fu ((a,c,(),()),())) fun ⟨⟨⟨h,i,⟨j,⟨k,l,_⟩,_⟩,_⟩,_,_⟩,m⟩ =>
 orK (E := (Unit)×(((List (Int))×((Int)×(((Bool)×(((Int)×((Int)×(Unit)))×(Unit)))×(Unit))))×(Unit)))
 (orK (E := ((Bool)×(Unit))×(Unit))
 (bif decide (f<(0:Int)) then
 some (.inl ((true,()),()))
 else
 some (.inl ((decide (m>(IntKind.wrap .u64 f)),()),())))
 fun ⟨⟨n,_⟩,_⟩ =>
 bif n then
 bif decide (List.length h=List.length h) then
 Option.bind (p35_1 fu ((h,i,(j,(k,l,()),()),()),c,(13:Int),())) fun ⟨⟨⟨o,q,⟨s,⟨t,u,_⟩,_⟩,_⟩,_,_⟩,_⟩ =>
 bif decide (List.length o=List.length o) then
 some (.inl ((),((o,q,(s,(t,u,()),()),()),())))
 else none
 else none
 else
 bif decide (List.length h=List.length h) then
 some (.inl ((),((h,i,(j,(k,l,()),()),()),())))
 else none)
 fun ⟨_,⟨⟨w,x,⟨y,⟨z,a0,_⟩,_⟩,_⟩,_⟩⟩ =>
 orK (E := (Unit)×(((List (Int))×((Int)×(((Bool)×(((Int)×((Int)×(Unit)))×(Unit)))×(Unit))))×(Unit)))
 (bif decide (m>(IntKind.wrap .u64 (IntKind.wrap .i64 (((List.length w):Int)-x)))) then
 bif decide (List.length w=List.length w) then
 Option.bind (p35_1 fu ((w,x,(y,(z,a0,()),()),()),c,(11:Int),())) fun ⟨⟨⟨c0,f0,⟨h0,⟨i0,j0,_⟩,_⟩,_⟩,_,_⟩,_⟩ =>
 bif decide (List.length c0=List.length c0) then
 some (.inl ((),((c0,f0,(h0,(i0,j0,()),()),()),())))
 else none
 else none
 else
 bif decide (List.length w=List.length w) then
 some (.inl ((),((w,x,(y,(z,a0,()),()),()),())))
 else none)
 fun ⟨_,⟨⟨w,x,⟨y,⟨z,a0,_⟩,_⟩,_⟩,_⟩⟩ =>
 bif decide (List.length w=List.length w) then
 Option.bind (p36 fu ((w,x,(y,(z,a0,()),()),()),IntKind.wrap .i64 m,())) fun ⟨⟨⟨k0,l0,⟨m0,⟨n0,o0,_⟩,_⟩,_⟩,_,_⟩,q0⟩ =>
 bif decide (List.length k0=List.length k0) then
 some (((k0,l0,(m0,(n0,o0,()),()),()),(),()),q0)
 else none
 else none
else none
def e17 (fu:Nat):Ent := ⟨17,(.cons (.box 79 3 (.cons (.own .own 5 (.int .u8)) (.cons (.hole (.int .i64)) (.cons (.nilv 1) .nil)))) (.cons (.hole (.int .i64)) .nil)),(.cons Y3 (.cons .dead .nil)),(.hole (.int .i64)),p17 fu⟩
theorem g17 (fu:Nat):(e17 fu).Good Tryd.prog := good_fx orders Tryd.func17 fu [(7,(.ent (e19 fu))),(19,(.ent (e35_1 fu))),(35,(.ent (e35_1 fu))),(39,(.ent (e36 fu)))] [(3,⟨[],.nil,[(0,79,3)],(.cons Y3 .nil),[0,5,6],[1]⟩),(4,⟨[20],(.cons (.hole .bool) .nil),[],.nil,[0,5,6],[0,1,116]⟩),(5,⟨[],.nil,[(0,79,3)],(.cons Y3 .nil),[0,6],[1]⟩)] rs17 44 (l := [e19 fu,e35_1 fu,e35_1 fu,e36 fu]) ⟨g19 fu,g35_1 fu,g35_1 fu,g36 fu,trivial⟩
def p18_1 (fu:Nat):((List (Int))×((Int)×(((Bool)×(((Int)×((Int)×(Unit)))×(Unit)))×(Unit))))×((Int)×(Unit))→Option ((((List (Int))×((Int)×(((Bool)×(((Int)×((Int)×(Unit)))×(Unit)))×(Unit))))×((Unit)×(Unit)))×(Unit)) := fun ⟨⟨a,c,⟨f,⟨h,i,_⟩,_⟩,_⟩,j,_⟩ =>
bif f then
 bif decide (List.length a=List.length a) then
 Option.bind (p35_1 fu ((a,c,(true,(h,i,()),dflt .unit),()),c,j,())) fun ⟨⟨⟨k,l,⟨m,⟨n,o,_⟩,_⟩,_⟩,_,_⟩,_⟩ =>
 bif decide (List.length k=List.length k) then
 some (((k,l,(m,(n,o,()),()),()),(),()),())
 else none
 else none
else
 bif decide (List.length a=List.length a) then
 Option.bind (p35_1 fu ((a,c,(false,dflt (.pair (.int .i64) (.pair (.int .i64) .unit)),()),()),c,j,())) fun ⟨⟨⟨q,s,⟨t,⟨u,w,_⟩,_⟩,_⟩,_,_⟩,_⟩ =>
 bif decide (List.length q=List.length q) then
 some (((q,s,(t,(u,w,()),()),()),(),()),())
 else none
 else none
def e18_1 (fu:Nat):Ent := ⟨18,(.cons Y4 (.cons (.hole (.int .i64)) .nil)),(.cons Y3 (.cons .dead .nil)),(.tup 0 .nil),p18_1 fu⟩
theorem g18_1 (fu:Nat):(e18_1 fu).Good Tryd.prog := good_fx orders Tryd.func18 fu [(6,(.ent (e35_1 fu)))] [] rs18 11 (l := [e35_1 fu]) ⟨g35_1 fu,trivial⟩
def p19_1 (fu:Nat):((List (Int))×((Int)×(((Bool)×(((Int)×((Int)×(Unit)))×(Unit)))×(Unit))))×(Unit)→Option ((((List (Int))×((Int)×(((Bool)×(((Int)×((Int)×(Unit)))×(Unit)))×(Unit))))×((Unit)×(Unit)))×(Int)) := fun ⟨⟨a,c,⟨f,⟨h,i,_⟩,_⟩,_⟩,_⟩ =>
bif f then
 bif decide (List.length a=List.length a) then
 some (((a,c,(true,(h,i,()),dflt .unit),()),(),()),(0:Int))
 else none
else
 bif decide ((0:Int)≤c) then
 bif decide (Int.toNat c≤List.length a∧0+(List.length a)≤List.length a) then
 bif decide ((Int.toNat c)+((List.length a)-(Int.toNat c))≤List.length a) then
 Option.bind (p37 fu (sub' a (Int.toNat c) ((List.length a)-(Int.toNat c)),())) fun ⟨_,⟨j,k,l,_⟩⟩ =>
 bif decide (List.length a=List.length a) then
 Option.bind (p18 fu ((a,c,(),()),l,())) fun ⟨⟨⟨m,n,⟨o,⟨q,s,_⟩,_⟩,_⟩,_,_⟩,_⟩ =>
 bif decide (List.length m=List.length m) then
 some (((m,IntKind.wrap .i64 (n+k),(o,(q,s,()),()),()),(),()),j)
 else none
 else none
 else none
 else none
 else none
def e19_1 (fu:Nat):Ent := ⟨19,(.cons Y4 .nil),(.cons Y3 (.cons .dead .nil)),(.hole (.int .u64)),p19_1 fu⟩
theorem g19_1 (fu:Nat):(e19_1 fu).Good Tryd.prog := good_fx orders Tryd.func19 fu [(16,(.ent (e37 fu))),(26,(.ent (e18 fu)))] [] rs19 37 (l := [e37 fu,e18 fu]) ⟨g37 fu,g18 fu,trivial⟩
def rs59:List RVx := [(.tmp 4)]
def p59_2 (fu:Nat):((List (Int))×((Int)×(((Bool)×(((Int)×((Int)×(Unit)))×(Unit)))×(Unit))))×((Int)×(Unit))→Option ((((List (Int))×((Int)×(((Bool)×(((Int)×((Int)×(Unit)))×(Unit)))×(Unit))))×((Unit)×(Unit)))×(List (Int))) := fun ⟨⟨a,c,⟨f,⟨h,i,_⟩,_⟩,_⟩,j,_⟩ =>
bif f then
 orK (E := (Unit)×(((List (Int))×((Int)×(((Bool)×(((Int)×((Int)×(Unit)))×(Unit)))×(Unit))))×(Unit)))
 (bif decide (List.length a=List.length a) then
 some (.inl ((),((a,c,(true,(h,i,()),dflt .unit),()),())))
 else none)
 fun ⟨_,⟨⟨k,l,⟨m,⟨n,o,_⟩,_⟩,_⟩,_⟩⟩ =>
 bif m then
 bif decide (List.length k=List.length k) then
 some (((k,l,(true,(n,o,()),dflt .unit),()),(),()),[])
 else none
 else
 bif decide ((0:Int)≤IntKind.wrap .i64 ((IntKind.wrap .i64 (l+j))-j)) then
 bif decide ((0:Int)≤IntKind.wrap .i64 (l+j)) then
 bif decide (Int.toNat (IntKind.wrap .i64 ((IntKind.wrap .i64 (l+j))-j))≤Int.toNat (IntKind.wrap .i64 (l+j))∧0+(Int.toNat (IntKind.wrap .i64 (l+j)))≤List.length k) then
 bif decide ((Int.toNat (IntKind.wrap .i64 ((IntKind.wrap .i64 (l+j))-j)))+((Int.toNat (IntKind.wrap .i64 (l+j)))-(Int.toNat (IntKind.wrap .i64 ((IntKind.wrap .i64 (l+j))-j))))≤List.length k) then
 bif decide (List.length (sub' k (Int.toNat (IntKind.wrap .i64 ((IntKind.wrap .i64 (l+j))-j))) ((Int.toNat (IntKind.wrap .i64 (l+j)))-(Int.toNat (IntKind.wrap .i64 ((IntKind.wrap .i64 (l+j))-j)))))≤maxLen∧List.length (sub' k (Int.toNat (IntKind.wrap .i64 ((IntKind.wrap .i64 (l+j))-j))) ((Int.toNat (IntKind.wrap .i64 (l+j)))-(Int.toNat (IntKind.wrap .i64 ((IntKind.wrap .i64 (l+j))-j))))) * 1≤140737488355328) then
 bif decide (List.length k=List.length k) then
 bif decide (List.length (sub' k (Int.toNat (IntKind.wrap .i64 ((IntKind.wrap .i64 (l+j))-j))) ((Int.toNat (IntKind.wrap .i64 (l+j)))-(Int.toNat (IntKind.wrap .i64 ((IntKind.wrap .i64 (l+j))-j)))))=List.length (sub' k (Int.toNat (IntKind.wrap .i64 ((IntKind.wrap .i64 (l+j))-j))) ((Int.toNat (IntKind.wrap .i64 (l+j)))-(Int.toNat (IntKind.wrap .i64 ((IntKind.wrap .i64 (l+j))-j)))))) then
 some (((k,IntKind.wrap .i64 (l+j),(false,dflt (.pair (.int .i64) (.pair (.int .i64) .unit)),()),()),(),()),sub' k (Int.toNat (IntKind.wrap .i64 ((IntKind.wrap .i64 (l+j))-j))) ((Int.toNat (IntKind.wrap .i64 (l+j)))-(Int.toNat (IntKind.wrap .i64 ((IntKind.wrap .i64 (l+j))-j)))))
 else none
 else none
 else none
 else none
 else none
 else none
 else none
else
 orK (E := (Unit)×(((List (Int))×((Int)×(((Bool)×(((Int)×((Int)×(Unit)))×(Unit)))×(Unit))))×(Unit)))
 (bif decide (j>(IntKind.wrap .i64 (((List.length a):Int)-c))) then
 bif decide (List.length a=List.length a) then
 Option.bind (p18 fu ((a,c,(),()),(11:Int),())) fun ⟨⟨⟨q,s,⟨t,⟨u,w,_⟩,_⟩,_⟩,_,_⟩,_⟩ =>
 bif decide (List.length q=List.length q) then
 some (.inl ((),((q,s,(t,(u,w,()),()),()),())))
 else none
 else none
 else
 bif decide (List.length a=List.length a) then
 some (.inl ((),((a,c,(false,dflt (.pair (.int .i64) (.pair (.int .i64) .unit)),()),()),())))
 else none)
 fun ⟨_,⟨⟨k,l,⟨m,⟨n,o,_⟩,_⟩,_⟩,_⟩⟩ =>
 bif m then
 bif decide (List.length k=List.length k) then
 some (((k,l,(true,(n,o,()),dflt .unit),()),(),()),[])
 else none
 else
 bif decide ((0:Int)≤IntKind.wrap .i64 ((IntKind.wrap .i64 (l+j))-j)) then
 bif decide ((0:Int)≤IntKind.wrap .i64 (l+j)) then
 bif decide (Int.toNat (IntKind.wrap .i64 ((IntKind.wrap .i64 (l+j))-j))≤Int.toNat (IntKind.wrap .i64 (l+j))∧0+(Int.toNat (IntKind.wrap .i64 (l+j)))≤List.length k) then
 bif decide ((Int.toNat (IntKind.wrap .i64 ((IntKind.wrap .i64 (l+j))-j)))+((Int.toNat (IntKind.wrap .i64 (l+j)))-(Int.toNat (IntKind.wrap .i64 ((IntKind.wrap .i64 (l+j))-j))))≤List.length k) then
 bif decide (List.length (sub' k (Int.toNat (IntKind.wrap .i64 ((IntKind.wrap .i64 (l+j))-j))) ((Int.toNat (IntKind.wrap .i64 (l+j)))-(Int.toNat (IntKind.wrap .i64 ((IntKind.wrap .i64 (l+j))-j)))))≤maxLen∧List.length (sub' k (Int.toNat (IntKind.wrap .i64 ((IntKind.wrap .i64 (l+j))-j))) ((Int.toNat (IntKind.wrap .i64 (l+j)))-(Int.toNat (IntKind.wrap .i64 ((IntKind.wrap .i64 (l+j))-j))))) * 1≤140737488355328) then
 bif decide (List.length k=List.length k) then
 bif decide (List.length (sub' k (Int.toNat (IntKind.wrap .i64 ((IntKind.wrap .i64 (l+j))-j))) ((Int.toNat (IntKind.wrap .i64 (l+j)))-(Int.toNat (IntKind.wrap .i64 ((IntKind.wrap .i64 (l+j))-j)))))=List.length (sub' k (Int.toNat (IntKind.wrap .i64 ((IntKind.wrap .i64 (l+j))-j))) ((Int.toNat (IntKind.wrap .i64 (l+j)))-(Int.toNat (IntKind.wrap .i64 ((IntKind.wrap .i64 (l+j))-j)))))) then
 some (((k,IntKind.wrap .i64 (l+j),(false,dflt (.pair (.int .i64) (.pair (.int .i64) .unit)),()),()),(),()),sub' k (Int.toNat (IntKind.wrap .i64 ((IntKind.wrap .i64 (l+j))-j))) ((Int.toNat (IntKind.wrap .i64 (l+j)))-(Int.toNat (IntKind.wrap .i64 ((IntKind.wrap .i64 (l+j))-j)))))
 else none
 else none
 else none
 else none
 else none
 else none
 else none
def e59_2 (fu:Nat):Ent := ⟨59,(.cons Y4 (.cons (.hole (.int .i64)) .nil)),(.cons Y3 (.cons .dead .nil)),(.own .own 5 (.int .u8)),p59_2 fu⟩
theorem g59_2 (fu:Nat):(e59_2 fu).Good Tryd.prog := good_fx orders Tryd.func59 fu [(21,(.ent (e18 fu))),(52,(.ty (.int .u8)))] [(1,⟨[],.nil,[(0,79,3)],(.cons Y5 .nil),[0,1],[1]⟩)] rs59 55 (l := [e18 fu]) ⟨g18 fu,trivial⟩
def rs38:List RVx := [(.tmp 2)]
def p38_2 (fu:Nat):((List (Int))×((Int)×(((Bool)×(((Int)×((Int)×(Unit)))×(Unit)))×(Unit))))×(Unit)→Option ((((List (Int))×((Int)×(((Bool)×(((Int)×((Int)×(Unit)))×(Unit)))×(Unit))))×((Unit)×(Unit)))×(Bool)) := fun ⟨⟨a,c,⟨f,⟨h,i,_⟩,_⟩,_⟩,_⟩ =>
bif f then
 bif decide (List.length a=List.length a) then
 Option.bind (p59_2 fu ((a,c,(true,(h,i,()),dflt .unit),()),(1:Int),())) fun ⟨⟨⟨j,k,⟨l,⟨m,n,_⟩,_⟩,_⟩,_,_⟩,o⟩ =>
 orK (E := (Unit)×(((List (Int))×((Int)×(((Bool)×(((Int)×((Int)×(Unit)))×(Unit)))×(Unit))))×(Unit)))
 (orK (E := ((Bool)×(Unit))×(Unit))
 (bif (((List.length o):Int)==(1:Int)) then
 bif decide ((0:Int)≤0∧0<(List.length o:Int)) then
 bif decide (0<List.length o) then
 some (.inl ((decide ((List.getD o 0 (dflt (.int .u8)))>(1:Int)),()),()))
 else none
 else none
 else
 some (.inl ((false,()),())))
 fun ⟨⟨q,_⟩,_⟩ =>
 bif q then
 bif decide (List.length j=List.length j) then
 Option.bind (p35_1 fu ((j,k,(l,(m,n,()),()),()),c,(16:Int),())) fun ⟨⟨⟨s,t,⟨u,⟨w,x,_⟩,_⟩,_⟩,_,_⟩,_⟩ =>
 bif decide (List.length s=List.length s) then
 some (.inl ((),((s,t,(u,(w,x,()),()),()),())))
 else none
 else none
 else
 bif decide (List.length j=List.length j) then
 some (.inl ((),((j,k,(l,(m,n,()),()),()),())))
 else none)
 fun ⟨_,⟨⟨y,z,⟨a0,⟨c0,f0,_⟩,_⟩,_⟩,_⟩⟩ =>
 bif a0 then
 bif decide (List.length y=List.length y) then
 some (((y,z,(true,(c0,f0,()),dflt .unit),()),(),()),false)
 else none
 else
 bif decide ((0:Int)≤0∧0<(List.length o:Int)) then
 bif decide (0<List.length o) then
 bif decide (List.length y=List.length y) then
 some (((y,z,(false,dflt (.pair (.int .i64) (.pair (.int .i64) .unit)),()),()),(),()),((List.getD o 0 (dflt (.int .u8)))==(1:Int)))
 else none
 else none
 else none
 else none
else
 bif decide (List.length a=List.length a) then
 Option.bind (p59_2 fu ((a,c,(false,dflt (.pair (.int .i64) (.pair (.int .i64) .unit)),()),()),(1:Int),())) fun ⟨⟨⟨h0,i0,⟨j0,⟨k0,l0,_⟩,_⟩,_⟩,_,_⟩,m0⟩ =>
 orK (E := (Unit)×(((List (Int))×((Int)×(((Bool)×(((Int)×((Int)×(Unit)))×(Unit)))×(Unit))))×(Unit)))
 (orK (E := ((Bool)×(Unit))×(Unit))
 (bif (((List.length m0):Int)==(1:Int)) then
 bif decide ((0:Int)≤0∧0<(List.length m0:Int)) then
 bif decide (0<List.length m0) then
 some (.inl ((decide ((List.getD m0 0 (dflt (.int .u8)))>(1:Int)),()),()))
 else none
 else none
 else
 some (.inl ((false,()),())))
 fun ⟨⟨q,_⟩,_⟩ =>
 bif q then
 bif decide (List.length h0=List.length h0) then
 Option.bind (p35_1 fu ((h0,i0,(j0,(k0,l0,()),()),()),c,(16:Int),())) fun ⟨⟨⟨n0,o0,⟨q0,⟨s0,t0,_⟩,_⟩,_⟩,_,_⟩,_⟩ =>
 bif decide (List.length n0=List.length n0) then
 some (.inl ((),((n0,o0,(q0,(s0,t0,()),()),()),())))
 else none
 else none
 else
 bif decide (List.length h0=List.length h0) then
 some (.inl ((),((h0,i0,(j0,(k0,l0,()),()),()),())))
 else none)
 fun ⟨_,⟨⟨y,z,⟨a0,⟨c0,f0,_⟩,_⟩,_⟩,_⟩⟩ =>
 bif a0 then
 bif decide (List.length y=List.length y) then
 some (((y,z,(true,(c0,f0,()),dflt .unit),()),(),()),false)
 else none
 else
 bif decide ((0:Int)≤0∧0<(List.length m0:Int)) then
 bif decide (0<List.length m0) then
 bif decide (List.length y=List.length y) then
 some (((y,z,(false,dflt (.pair (.int .i64) (.pair (.int .i64) .unit)),()),()),(),()),((List.getD m0 0 (dflt (.int .u8)))==(1:Int)))
 else none
 else none
 else none
 else none
def e38_2 (fu:Nat):Ent := ⟨38,(.cons Y4 .nil),(.cons Y3 (.cons .dead .nil)),(.hole .bool),p38_2 fu⟩
theorem g38_2 (fu:Nat):(e38_2 fu).Good Tryd.prog := good_fx orders Tryd.func38 fu [(7,(.ent (e59_2 fu))),(20,(.ent (e35_1 fu)))] [(3,⟨[],.nil,[(0,79,3)],(.cons Y5 .nil),[0,4],[1,117]⟩),(4,⟨[19],(.cons (.hole .bool) .nil),[],.nil,[0,3,4],[0,1,116,117]⟩)] rs38 34 (l := [e59_2 fu,e35_1 fu]) ⟨g59_2 fu,g35_1 fu,trivial⟩
def rs20:List RVx := [(.cell 2 true 14)]
def p20 (fu:Nat):((List (Int))×((Int)×(((Bool)×(((Int)×((Int)×(Unit)))×(Unit)))×(Unit))))×(Unit)→Option ((((List (Int))×((Int)×(((Bool)×(((Int)×((Int)×(Unit)))×(Unit)))×(Unit))))×((Unit)×(Unit)))×((Int)×((Int)×((Int)×((Int)×((Int)×((Int)×((List (D_api_Entry))×((Int)×((Bool)×((Int)×((List (Int))×((List (Int))×((List (Int))×((Bool)×(Unit)))))))))))))))) := fun ⟨⟨a,c,⟨f,⟨h,i,_⟩,_⟩,_⟩,_⟩ =>
bif f then
 bif decide (List.length a=List.length a) then
 Option.bind (p38_2 fu ((a,c,(true,(h,i,()),dflt .unit),()),())) fun ⟨⟨⟨j,k,⟨l,⟨m,n,_⟩,_⟩,_⟩,_,_⟩,o⟩ =>
 bif o then
 bif decide (List.length j=List.length j) then
 Option.bind (p19_1 fu ((j,k,(l,(m,n,()),()),()),())) fun ⟨⟨⟨q,s,⟨t,⟨u,w,_⟩,_⟩,_⟩,_,_⟩,x⟩ =>
 bif decide (List.length q=List.length q) then
 Option.bind (p19_1 fu ((q,s,(t,(u,w,()),()),()),())) fun ⟨⟨⟨y,z,⟨a0,⟨c0,f0,_⟩,_⟩,_⟩,_,_⟩,h0⟩ =>
 bif decide (List.length y=List.length y) then
 some (((y,z,(a0,(c0,f0,()),()),()),(),()),((6:Int),(0:Int),(0:Int),x,h0,(0:Int),[],(0:Int),false,(0:Int),[],[],[],false,()))
 else none
 else none
 else none
 else
 bif decide (List.length j=List.length j) then
 Option.bind (p19_1 fu ((j,k,(l,(m,n,()),()),()),())) fun ⟨⟨⟨i0,j0,⟨k0,⟨l0,m0,_⟩,_⟩,_⟩,_,_⟩,n0⟩ =>
 bif decide (List.length i0=List.length i0) then
 Option.bind (p19_1 fu ((i0,j0,(k0,(l0,m0,()),()),()),())) fun ⟨⟨⟨o0,q0,⟨s0,⟨t0,u0,_⟩,_⟩,_⟩,_,_⟩,w0⟩ =>
 bif decide (List.length o0=List.length o0) then
 Option.bind (p19_1 fu ((o0,q0,(s0,(t0,u0,()),()),()),())) fun ⟨⟨⟨x0,y0,⟨z0,⟨a1,c1,_⟩,_⟩,_⟩,_,_⟩,f1⟩ =>
 bif decide (List.length x0=List.length x0) then
 Option.bind (p19_1 fu ((x0,y0,(z0,(a1,c1,()),()),()),())) fun ⟨⟨⟨h1,i1,⟨j1,⟨k1,l1,_⟩,_⟩,_⟩,_,_⟩,m1⟩ =>
 bif decide (List.length h1=List.length h1) then
 some (((h1,i1,(j1,(k1,l1,()),()),()),(),()),((5:Int),(0:Int),(0:Int),n0,w0,f1,[],m1,false,(0:Int),[],[],[],false,()))
 else none
 else none
 else none
 else none
 else none
 else none
else
 bif decide (List.length a=List.length a) then
 Option.bind (p38_2 fu ((a,c,(false,dflt (.pair (.int .i64) (.pair (.int .i64) .unit)),()),()),())) fun ⟨⟨⟨n1,o1,⟨q1,⟨s1,t1,_⟩,_⟩,_⟩,_,_⟩,u1⟩ =>
 bif u1 then
 bif decide (List.length n1=List.length n1) then
 Option.bind (p19_1 fu ((n1,o1,(q1,(s1,t1,()),()),()),())) fun ⟨⟨⟨w1,x1,⟨y1,⟨z1,a2,_⟩,_⟩,_⟩,_,_⟩,c2⟩ =>
 bif decide (List.length w1=List.length w1) then
 Option.bind (p19_1 fu ((w1,x1,(y1,(z1,a2,()),()),()),())) fun ⟨⟨⟨f2,h2,⟨i2,⟨j2,k2,_⟩,_⟩,_⟩,_,_⟩,l2⟩ =>
 bif decide (List.length f2=List.length f2) then
 some (((f2,h2,(i2,(j2,k2,()),()),()),(),()),((6:Int),(0:Int),(0:Int),c2,l2,(0:Int),[],(0:Int),false,(0:Int),[],[],[],false,()))
 else none
 else none
 else none
 else
 bif decide (List.length n1=List.length n1) then
 Option.bind (p19_1 fu ((n1,o1,(q1,(s1,t1,()),()),()),())) fun ⟨⟨⟨m2,n2,⟨o2,⟨q2,s2,_⟩,_⟩,_⟩,_,_⟩,t2⟩ =>
 bif decide (List.length m2=List.length m2) then
 Option.bind (p19_1 fu ((m2,n2,(o2,(q2,s2,()),()),()),())) fun ⟨⟨⟨u2,w2,⟨x2,⟨y2,z2,_⟩,_⟩,_⟩,_,_⟩,a3⟩ =>
 bif decide (List.length u2=List.length u2) then
 Option.bind (p19_1 fu ((u2,w2,(x2,(y2,z2,()),()),()),())) fun ⟨⟨⟨c3,f3,⟨h3,⟨i3,j3,_⟩,_⟩,_⟩,_,_⟩,k3⟩ =>
 bif decide (List.length c3=List.length c3) then
 Option.bind (p19_1 fu ((c3,f3,(h3,(i3,j3,()),()),()),())) fun ⟨⟨⟨l3,m3,⟨n3,⟨o3,q3,_⟩,_⟩,_⟩,_,_⟩,s3⟩ =>
 bif decide (List.length l3=List.length l3) then
 some (((l3,m3,(n3,(o3,q3,()),()),()),(),()),((5:Int),(0:Int),(0:Int),t2,a3,k3,[],s3,false,(0:Int),[],[],[],false,()))
 else none
 else none
 else none
 else none
 else none
 else none
def e20 (fu:Nat):Ent := ⟨20,(.cons Y4 .nil),(.cons Y3 (.cons .dead .nil)),Y6,p20 fu⟩
theorem g20 (fu:Nat):(e20 fu).Good Tryd.prog := good_fx orders Tryd.func20 fu [(2,(.ent (e38_2 fu))),(4,(.ent (e19_1 fu))),(6,(.ent (e19_1 fu))),(10,(.ent (e19_1 fu))),(12,(.ent (e19_1 fu))),(14,(.ent (e19_1 fu))),(16,(.ent (e19_1 fu)))] [] rs20 19 (l := [e38_2 fu,e19_1 fu,e19_1 fu,e19_1 fu,e19_1 fu,e19_1 fu,e19_1 fu]) ⟨g38_2 fu,g19_1 fu,g19_1 fu,g19_1 fu,g19_1 fu,g19_1 fu,g19_1 fu,trivial⟩
def rs43:List RVx := [(.tmp 2)]
def p43 (_:Nat):(Int)×(Unit)→Option ((Unit)×(Bool)) := fun ⟨a,_⟩ =>
bif decide (a≥(1:Int)) then
 some ((),decide (a≤(9:Int)))
else
 some ((),false)
def e43 (fu:Nat):Ent := ⟨43,(.cons (.hole (.int .i64)) .nil),.nil,(.hole .bool),p43 fu⟩
theorem g43 (fu:Nat):(e43 fu).Good Tryd.prog := good_fx orders Tryd.func43 fu [] [] rs43 9 (l := []) trivial
def rs32:List RVx := [(.tmp 2)]
def p32 (_:Nat):(Z7)×(Unit)→Option ((Unit)×(Bool)) := fun ⟨⟨a,_,_,_,_,c,f,h,i,j,k,l,m,n,_⟩,_⟩ =>
orK (E := ((Bool)×(Unit))×(Unit))
 (bif ((IntKind.wrap .i64 ((IntKind.wrap .i64 ((IntKind.wrap .i64 ((List.length f:Int)+(List.length k:Int)))+(List.length l:Int)))+(List.length m:Int)))==(0:Int)) then
 bif !i then
 bif (j==(0:Int)) then
 some (.inl ((!n,()),()))
 else
 some (.inl ((false,()),()))
 else
 some (.inl ((false,()),()))
 else
 some (.inl ((false,()),())))
 fun ⟨⟨o,_⟩,_⟩ =>
bif (a==(5:Int)) then
 some ((),o)
else
 bif (a==(6:Int)) then
 bif o then
 bif (c==(0:Int)) then
 some ((),(h==(0:Int)))
 else
 some ((),false)
 else
 some ((),false)
 else
 some ((),false)
def e32 (fu:Nat):Ent := ⟨32,(.cons Y8 .nil),.nil,(.hole .bool),p32 fu⟩
theorem g32 (fu:Nat):(e32 fu).Good Tryd.prog := good_fx orders Tryd.func32 fu [] [(1,⟨[3],(.cons (.hole .bool) .nil),[],.nil,[1],[0]⟩)] rs32 55 (l := []) trivial
def rs39:List RVx := [(.tmp 2)]
def p39_2 (fu:Nat):((List (Int))×((Int)×(((Bool)×(((Int)×((Int)×(Unit)))×(Unit)))×(Unit))))×(Unit)→Option ((((List (Int))×((Int)×(((Bool)×(((Int)×((Int)×(Unit)))×(Unit)))×(Unit))))×((Unit)×(Unit)))×(Int)) := fun ⟨⟨a,c,⟨f,⟨h,i,_⟩,_⟩,_⟩,_⟩ =>
bif f then
 bif decide (List.length a=List.length a) then
 Option.bind (p19_1 fu ((a,c,(true,(h,i,()),dflt .unit),()),())) fun ⟨⟨⟨j,k,⟨l,⟨m,n,_⟩,_⟩,_⟩,_,_⟩,o⟩ =>
 bif decide (List.length j=List.length j) then
 some (((j,k,(l,(m,n,()),()),()),(),()),IntKind.wrap .i64 (IntKind.wrap .u64 ((BitVec.ofInt (IntKind.bits .u64) (Int.fdiv o (2 ^ (min (Int.toNat (1:Int)) (IntKind.bits .u64)))) ^^^ BitVec.ofInt (IntKind.bits .u64) (IntKind.wrap .u64 (0-(IntKind.wrap .u64 ((BitVec.ofInt (IntKind.bits .u64) o &&& BitVec.ofInt (IntKind.bits .u64) (1:Int)).toNat:Int))))).toNat:Int)))
 else none
 else none
else
 bif decide (List.length a=List.length a) then
 Option.bind (p19_1 fu ((a,c,(false,dflt (.pair (.int .i64) (.pair (.int .i64) .unit)),()),()),())) fun ⟨⟨⟨q,s,⟨t,⟨u,w,_⟩,_⟩,_⟩,_,_⟩,x⟩ =>
 bif decide (List.length q=List.length q) then
 some (((q,s,(t,(u,w,()),()),()),(),()),IntKind.wrap .i64 (IntKind.wrap .u64 ((BitVec.ofInt (IntKind.bits .u64) (Int.fdiv x (2 ^ (min (Int.toNat (1:Int)) (IntKind.bits .u64)))) ^^^ BitVec.ofInt (IntKind.bits .u64) (IntKind.wrap .u64 (0-(IntKind.wrap .u64 ((BitVec.ofInt (IntKind.bits .u64) x &&& BitVec.ofInt (IntKind.bits .u64) (1:Int)).toNat:Int))))).toNat:Int)))
 else none
 else none
def e39_2 (fu:Nat):Ent := ⟨39,(.cons Y4 .nil),(.cons Y3 (.cons .dead .nil)),(.hole (.int .i64)),p39_2 fu⟩
theorem g39_2 (fu:Nat):(e39_2 fu).Good Tryd.prog := good_fx orders Tryd.func39 fu [(2,(.ent (e19_1 fu)))] [] rs39 13 (l := [e19_1 fu]) ⟨g19_1 fu,trivial⟩
def p17_2 (fu:Nat):((List (Int))×((Int)×(((Bool)×(((Int)×((Int)×(Unit)))×(Unit)))×(Unit))))×((Int)×(Unit))→Option ((((List (Int))×((Int)×(((Bool)×(((Int)×((Int)×(Unit)))×(Unit)))×(Unit))))×((Unit)×(Unit)))×(Int)) := fun ⟨⟨a,c,⟨f,⟨h,i,_⟩,_⟩,_⟩,j,_⟩ =>
bif f then
 bif decide (List.length a=List.length a) then
 Option.bind (p19_1 fu ((a,c,(true,(h,i,()),dflt .unit),()),())) fun ⟨⟨⟨k,l,⟨m,⟨n,o,_⟩,_⟩,_⟩,_,_⟩,q⟩ =>
 orK (E := (Unit)×(((List (Int))×((Int)×(((Bool)×(((Int)×((Int)×(Unit)))×(Unit)))×(Unit))))×(Unit)))
 (orK (E := ((Bool)×(Unit))×(Unit))
 (bif decide (j<(0:Int)) then
 some (.inl ((true,()),()))
 else
 some (.inl ((decide (q>(IntKind.wrap .u64 j)),()),())))
 fun ⟨⟨s,_⟩,_⟩ =>
 bif s then
 bif decide (List.length k=List.length k) then
 Option.bind (p35_1 fu ((k,l,(m,(n,o,()),()),()),c,(13:Int),())) fun ⟨⟨⟨t,u,⟨w,⟨x,y,_⟩,_⟩,_⟩,_,_⟩,_⟩ =>
 bif decide (List.length t=List.length t) then
 some (.inl ((),((t,u,(w,(x,y,()),()),()),())))
 else none
 else none
 else
 bif decide (List.length k=List.length k) then
 some (.inl ((),((k,l,(m,(n,o,()),()),()),())))
 else none)
 fun ⟨_,⟨⟨z,a0,⟨c0,⟨f0,h0,_⟩,_⟩,_⟩,_⟩⟩ =>
 orK (E := (Unit)×(((List (Int))×((Int)×(((Bool)×(((Int)×((Int)×(Unit)))×(Unit)))×(Unit))))×(Unit)))
 (bif decide (q>(IntKind.wrap .u64 (IntKind.wrap .i64 (((List.length z):Int)-a0)))) then
 bif decide (List.length z=List.length z) then
 Option.bind (p35_1 fu ((z,a0,(c0,(f0,h0,()),()),()),c,(11:Int),())) fun ⟨⟨⟨i0,j0,⟨k0,⟨l0,m0,_⟩,_⟩,_⟩,_,_⟩,_⟩ =>
 bif decide (List.length i0=List.length i0) then
 some (.inl ((),((i0,j0,(k0,(l0,m0,()),()),()),())))
 else none
 else none
 else
 bif decide (List.length z=List.length z) then
 some (.inl ((),((z,a0,(c0,(f0,h0,()),()),()),())))
 else none)
 fun ⟨_,⟨⟨z,a0,⟨c0,⟨f0,h0,_⟩,_⟩,_⟩,_⟩⟩ =>
 bif decide (List.length z=List.length z) then
 Option.bind (p36 fu ((z,a0,(c0,(f0,h0,()),()),()),IntKind.wrap .i64 q,())) fun ⟨⟨⟨n0,o0,⟨q0,⟨s0,t0,_⟩,_⟩,_⟩,_,_⟩,u0⟩ =>
 bif decide (List.length n0=List.length n0) then
 some (((n0,o0,(q0,(s0,t0,()),()),()),(),()),u0)
 else none
 else none
 else none
else
 bif decide (List.length a=List.length a) then
 Option.bind (p19_1 fu ((a,c,(false,dflt (.pair (.int .i64) (.pair (.int .i64) .unit)),()),()),())) fun ⟨⟨⟨w0,x0,⟨y0,⟨z0,a1,_⟩,_⟩,_⟩,_,_⟩,c1⟩ =>
 orK (E := (Unit)×(((List (Int))×((Int)×(((Bool)×(((Int)×((Int)×(Unit)))×(Unit)))×(Unit))))×(Unit)))
 (orK (E := ((Bool)×(Unit))×(Unit))
 (bif decide (j<(0:Int)) then
 some (.inl ((true,()),()))
 else
 some (.inl ((decide (c1>(IntKind.wrap .u64 j)),()),())))
 fun ⟨⟨s,_⟩,_⟩ =>
 bif s then
 bif decide (List.length w0=List.length w0) then
 Option.bind (p35_1 fu ((w0,x0,(y0,(z0,a1,()),()),()),c,(13:Int),())) fun ⟨⟨⟨f1,h1,⟨i1,⟨j1,k1,_⟩,_⟩,_⟩,_,_⟩,_⟩ =>
 bif decide (List.length f1=List.length f1) then
 some (.inl ((),((f1,h1,(i1,(j1,k1,()),()),()),())))
 else none
 else none
 else
 bif decide (List.length w0=List.length w0) then
 some (.inl ((),((w0,x0,(y0,(z0,a1,()),()),()),())))
 else none)
 fun ⟨_,⟨⟨z,a0,⟨c0,⟨f0,h0,_⟩,_⟩,_⟩,_⟩⟩ =>
 orK (E := (Unit)×(((List (Int))×((Int)×(((Bool)×(((Int)×((Int)×(Unit)))×(Unit)))×(Unit))))×(Unit)))
 (bif decide (c1>(IntKind.wrap .u64 (IntKind.wrap .i64 (((List.length z):Int)-a0)))) then
 bif decide (List.length z=List.length z) then
 Option.bind (p35_1 fu ((z,a0,(c0,(f0,h0,()),()),()),c,(11:Int),())) fun ⟨⟨⟨l1,m1,⟨n1,⟨o1,q1,_⟩,_⟩,_⟩,_,_⟩,_⟩ =>
 bif decide (List.length l1=List.length l1) then
 some (.inl ((),((l1,m1,(n1,(o1,q1,()),()),()),())))
 else none
 else none
 else
 bif decide (List.length z=List.length z) then
 some (.inl ((),((z,a0,(c0,(f0,h0,()),()),()),())))
 else none)
 fun ⟨_,⟨⟨z,a0,⟨c0,⟨f0,h0,_⟩,_⟩,_⟩,_⟩⟩ =>
 bif decide (List.length z=List.length z) then
 Option.bind (p36 fu ((z,a0,(c0,(f0,h0,()),()),()),IntKind.wrap .i64 c1,())) fun ⟨⟨⟨s1,t1,⟨u1,⟨w1,x1,_⟩,_⟩,_⟩,_,_⟩,y1⟩ =>
 bif decide (List.length s1=List.length s1) then
 some (((s1,t1,(u1,(w1,x1,()),()),()),(),()),y1)
 else none
 else none
 else none
def e17_2 (fu:Nat):Ent := ⟨17,(.cons Y4 (.cons (.hole (.int .i64)) .nil)),(.cons Y3 (.cons .dead .nil)),(.hole (.int .i64)),p17_2 fu⟩
theorem g17_2 (fu:Nat):(e17_2 fu).Good Tryd.prog := good_fx orders Tryd.func17 fu [(7,(.ent (e19_1 fu))),(19,(.ent (e35_1 fu))),(35,(.ent (e35_1 fu))),(39,(.ent (e36 fu)))] [(3,⟨[],.nil,[(0,79,3)],(.cons Y3 .nil),[0,5,6],[1]⟩),(4,⟨[20],(.cons (.hole .bool) .nil),[],.nil,[0,5,6],[0,1,116]⟩),(5,⟨[],.nil,[(0,79,3)],(.cons Y3 .nil),[0,6],[1]⟩)] rs17 44 (l := [e19_1 fu,e35_1 fu,e35_1 fu,e36 fu]) ⟨g19_1 fu,g35_1 fu,g35_1 fu,g36 fu,trivial⟩
def rs77:List RVx := [(.tmp 2)]
def p77_1 (fu:Nat):((List (Int))×((Int)×(((Bool)×(((Int)×((Int)×(Unit)))×(Unit)))×(Unit))))×(Unit)→Option ((((List (Int))×((Int)×(((Bool)×(((Int)×((Int)×(Unit)))×(Unit)))×(Unit))))×((Unit)×(Unit)))×(Int)) := fun ⟨⟨a,c,⟨f,⟨h,i,_⟩,_⟩,_⟩,_⟩ =>
bif f then
 bif decide (List.length a=List.length a) then
 Option.bind (p39_2 fu ((a,c,(true,(h,i,()),dflt .unit),()),())) fun ⟨⟨⟨j,k,⟨l,⟨m,n,_⟩,_⟩,_⟩,_,_⟩,o⟩ =>
 orK (E := ((Bool)×(Unit))×(Unit))
 (bif decide (o<(1:Int)) then
 some (.inl ((true,()),()))
 else
 some (.inl ((decide (o>(3:Int)),()),())))
 fun ⟨⟨q,_⟩,_⟩ =>
 bif q then
 bif decide (List.length j=List.length j) then
 Option.bind (p35_1 fu ((j,k,(l,(m,n,()),()),()),c,(16:Int),())) fun ⟨⟨⟨s,t,⟨u,⟨w,x,_⟩,_⟩,_⟩,_,_⟩,_⟩ =>
 bif decide (List.length s=List.length s) then
 some (((s,t,(u,(w,x,()),()),()),(),()),o)
 else none
 else none
 else
 bif decide (List.length j=List.length j) then
 some (((j,k,(l,(m,n,()),()),()),(),()),o)
 else none
 else none
else
 bif decide (List.length a=List.length a) then
 Option.bind (p39_2 fu ((a,c,(false,dflt (.pair (.int .i64) (.pair (.int .i64) .unit)),()),()),())) fun ⟨⟨⟨y,z,⟨a0,⟨c0,f0,_⟩,_⟩,_⟩,_,_⟩,h0⟩ =>
 orK (E := ((Bool)×(Unit))×(Unit))
 (bif decide (h0<(1:Int)) then
 some (.inl ((true,()),()))
 else
 some (.inl ((decide (h0>(3:Int)),()),())))
 fun ⟨⟨q,_⟩,_⟩ =>
 bif q then
 bif decide (List.length y=List.length y) then
 Option.bind (p35_1 fu ((y,z,(a0,(c0,f0,()),()),()),c,(16:Int),())) fun ⟨⟨⟨i0,j0,⟨k0,⟨l0,m0,_⟩,_⟩,_⟩,_,_⟩,_⟩ =>
 bif decide (List.length i0=List.length i0) then
 some (((i0,j0,(k0,(l0,m0,()),()),()),(),()),h0)
 else none
 else none
 else
 bif decide (List.length y=List.length y) then
 some (((y,z,(a0,(c0,f0,()),()),()),(),()),h0)
 else none
 else none
def e77_1 (fu:Nat):Ent := ⟨77,(.cons Y4 .nil),(.cons Y3 (.cons .dead .nil)),(.hole (.int .i64)),p77_1 fu⟩
theorem g77_1 (fu:Nat):(e77_1 fu).Good Tryd.prog := good_fx orders Tryd.func77 fu [(7,(.ent (e39_2 fu))),(17,(.ent (e35_1 fu)))] [(4,⟨[16],(.cons (.hole .bool) .nil),[],.nil,[0,3,4],[0,1,116]⟩)] rs77 21 (l := [e39_2 fu,e35_1 fu]) ⟨g39_2 fu,g35_1 fu,trivial⟩
def rs42:List RVx := [(.tmp 4)]
def p42_1 (fu:Nat):((List (Int))×((Int)×(((Bool)×(((Int)×((Int)×(Unit)))×(Unit)))×(Unit))))×((Int)×(Unit))→Option ((((List (Int))×((Int)×(((Bool)×(((Int)×((Int)×(Unit)))×(Unit)))×(Unit))))×((Unit)×(Unit)))×(List (Int))) := fun ⟨⟨a,c,⟨f,⟨h,i,_⟩,_⟩,_⟩,j,_⟩ =>
bif f then
 bif decide (List.length a=List.length a) then
 Option.bind (p17_2 fu ((a,c,(true,(h,i,()),dflt .unit),()),j,())) fun ⟨⟨⟨k,l,⟨m,⟨n,o,_⟩,_⟩,_⟩,_,_⟩,q⟩ =>
 bif decide (List.length k=List.length k) then
 Option.bind (p59_2 fu ((k,l,(m,(n,o,()),()),()),q,())) fun ⟨⟨⟨s,t,⟨u,⟨w,x,_⟩,_⟩,_⟩,_,_⟩,y⟩ =>
 bif decide (List.length s=List.length s) then
 bif decide (List.length y=List.length y) then
 some (((s,t,(u,(w,x,()),()),()),(),()),y)
 else none
 else none
 else none
 else none
else
 bif decide (List.length a=List.length a) then
 Option.bind (p17_2 fu ((a,c,(false,dflt (.pair (.int .i64) (.pair (.int .i64) .unit)),()),()),j,())) fun ⟨⟨⟨z,a0,⟨c0,⟨f0,h0,_⟩,_⟩,_⟩,_,_⟩,i0⟩ =>
 bif decide (List.length z=List.length z) then
 Option.bind (p59_2 fu ((z,a0,(c0,(f0,h0,()),()),()),i0,())) fun ⟨⟨⟨j0,k0,⟨l0,⟨m0,n0,_⟩,_⟩,_⟩,_,_⟩,o0⟩ =>
 bif decide (List.length j0=List.length j0) then
 bif decide (List.length o0=List.length o0) then
 some (((j0,k0,(l0,(m0,n0,()),()),()),(),()),o0)
 else none
 else none
 else none
 else none
def e42_1 (fu:Nat):Ent := ⟨42,(.cons Y4 (.cons (.hole (.int .i64)) .nil)),(.cons Y3 (.cons .dead .nil)),(.own .own 5 (.int .u8)),p42_1 fu⟩
theorem g42_1 (fu:Nat):(e42_1 fu).Good Tryd.prog := good_fx orders Tryd.func42 fu [(4,(.ent (e17_2 fu))),(5,(.ent (e59_2 fu)))] [] rs42 10 (l := [e17_2 fu,e59_2 fu]) ⟨g17_2 fu,g59_2 fu,trivial⟩
def rs62:List RVx := [(.tmp 2)]
def p62_2 (fu:Nat):((List (Int))×((Int)×(((Bool)×(((Int)×((Int)×(Unit)))×(Unit)))×(Unit))))×(Unit)→Option ((((List (Int))×((Int)×(((Bool)×(((Int)×((Int)×(Unit)))×(Unit)))×(Unit))))×((Unit)×(Unit)))×(List (Int))) := fun ⟨⟨a,c,⟨f,⟨h,i,_⟩,_⟩,_⟩,_⟩ =>
bif f then
 bif decide (List.length a=List.length a) then
 Option.bind (p17_2 fu ((a,c,(true,(h,i,()),dflt .unit),()),(7:Int),())) fun ⟨⟨⟨j,k,⟨l,⟨m,n,_⟩,_⟩,_⟩,_,_⟩,o⟩ =>
 bif decide (List.length j=List.length j) then
 loopO (S := ((List (Int))×((Int)×(Unit)))×(((List (Int))×((Int)×(((Bool)×(((Int)×((Int)×(Unit)))×(Unit)))×(Unit))))×(Unit))) fu (fun ⟨⟨q,s,_⟩,⟨⟨t,u,⟨w,⟨x,y,_⟩,_⟩,_⟩,_⟩⟩ =>
 bif decide (s<o) then
 bif decide (List.length t=List.length t) then
 Option.bind (p39_2 fu ((t,u,(w,(x,y,()),()),()),())) fun ⟨⟨⟨z,a0,⟨c0,⟨f0,h0,_⟩,_⟩,_⟩,_,_⟩,i0⟩ =>
 bif decide (List.length q=List.length q) then
 bif decide (List.length q+List.length ([i0])≤maxLen∧(List.length q+List.length ([i0])) * 8≤140737488355328) then
 bif decide (List.length (q ++ [i0])=List.length (q ++ [i0])) then
 bif decide (List.length z=List.length z) then
 some (.inl (((q ++ [i0]),IntKind.wrap .i64 (s+(1:Int)),()),((z,a0,(c0,(f0,h0,()),()),()),())))
 else none
 else none
 else none
 else none
 else none
 else
 inrO (bif decide (List.length t=List.length t) then
 bif decide (List.length q=List.length q) then
 some (((t,u,(w,(x,y,()),()),()),(),()),q)
 else none
 else none))
 (([],(0:Int),()),((j,k,(l,(m,n,()),()),()),()))
 else none
 else none
else
 bif decide (List.length a=List.length a) then
 Option.bind (p17_2 fu ((a,c,(false,dflt (.pair (.int .i64) (.pair (.int .i64) .unit)),()),()),(7:Int),())) fun ⟨⟨⟨j0,k0,⟨l0,⟨m0,n0,_⟩,_⟩,_⟩,_,_⟩,o0⟩ =>
 bif decide (List.length j0=List.length j0) then
 loopO (S := ((List (Int))×((Int)×(Unit)))×(((List (Int))×((Int)×(((Bool)×(((Int)×((Int)×(Unit)))×(Unit)))×(Unit))))×(Unit))) fu (fun ⟨⟨q,s,_⟩,⟨⟨t,u,⟨w,⟨x,y,_⟩,_⟩,_⟩,_⟩⟩ =>
 bif decide (s<o0) then
 bif decide (List.length t=List.length t) then
 Option.bind (p39_2 fu ((t,u,(w,(x,y,()),()),()),())) fun ⟨⟨⟨q0,s0,⟨t0,⟨u0,w0,_⟩,_⟩,_⟩,_,_⟩,x0⟩ =>
 bif decide (List.length q=List.length q) then
 bif decide (List.length q+List.length ([x0])≤maxLen∧(List.length q+List.length ([x0])) * 8≤140737488355328) then
 bif decide (List.length (q ++ [x0])=List.length (q ++ [x0])) then
 bif decide (List.length q0=List.length q0) then
 some (.inl (((q ++ [x0]),IntKind.wrap .i64 (s+(1:Int)),()),((q0,s0,(t0,(u0,w0,()),()),()),())))
 else none
 else none
 else none
 else none
 else none
 else
 inrO (bif decide (List.length t=List.length t) then
 bif decide (List.length q=List.length q) then
 some (((t,u,(w,(x,y,()),()),()),(),()),q)
 else none
 else none))
 (([],(0:Int),()),((j0,k0,(l0,(m0,n0,()),()),()),()))
 else none
 else none
def e62_2 (fu:Nat):Ent := ⟨62,(.cons Y4 .nil),(.cons Y3 (.cons .dead .nil)),(.own .own 3 (.int .i64)),p62_2 fu⟩
theorem g62_2 (fu:Nat):(e62_2 fu).Good Tryd.prog := good_fx orders Tryd.func62 fu [(3,(.ent (e17_2 fu))),(8,(.ent (e39_2 fu))),(9,(.ty (.int .i64))),(10,(.ty (.int .i64)))] [(4,⟨[3,6],(.cons (.own .own 3 (.int .i64)) (.cons (.hole (.int .i64)) .nil)),[(0,79,3)],(.cons Y3 .nil),[0,5],[1]⟩)] rs62 15 (l := [e17_2 fu,e39_2 fu]) ⟨g17_2 fu,g39_2 fu,trivial⟩
def rs61:List RVx := [(.cell 4 true 2)]
def p61_7 (_:Nat):((List (Int))×((Int)×(((Bool)×(((Int)×((Int)×(Unit)))×(Unit)))×(Unit))))×(((List (Int))×((List (Int))×(Unit)))×(Unit))→Option ((((List (Int))×((Int)×(((Bool)×(((Int)×((Int)×(Unit)))×(Unit)))×(Unit))))×((Unit)×((Unit)×((Unit)×(Unit)))))×((List (Int))×((List (Int))×(Unit)))) := fun ⟨⟨a,c,⟨f,⟨h,i,_⟩,_⟩,_⟩,⟨j,k,_⟩,_⟩ =>
bif f then
 bif decide (List.length a=List.length a) then
 some (((a,c,(true,(h,i,()),dflt .unit),()),(),(),(),()),([],[],()))
 else none
else
 bif decide (List.length a=List.length a) then
 bif decide (List.length j=List.length j) then
 bif decide (List.length k=List.length k) then
 some (((a,c,(false,dflt (.pair (.int .i64) (.pair (.int .i64) .unit)),()),()),(),(),(),()),(j,k,()))
 else none
 else none
 else none
def e61_7 (fu:Nat):Ent := ⟨61,(.cons Y4 (.cons (.agg 2 (.cons (.own .own 3 (.int .i64)) (.cons (.own .own 3 (.int .i64)) .nil))) .nil)),(.cons Y3 (.cons .dead (.cons .dead (.cons .dead .nil)))),(.agg 2 (.cons (.own .own 3 (.int .i64)) (.cons (.own .own 3 (.int .i64)) .nil))),p61_7 fu⟩
theorem g61_7 (fu:Nat):(e61_7 fu).Good Tryd.prog := good_fx orders Tryd.func61 fu [] [] rs61 13 (l := []) trivial
def rs41:List RVx := [(.cell 2 true 2)]
def p41_1 (fu:Nat):((List (Int))×((Int)×(((Bool)×(((Int)×((Int)×(Unit)))×(Unit)))×(Unit))))×(Unit)→Option ((((List (Int))×((Int)×(((Bool)×(((Int)×((Int)×(Unit)))×(Unit)))×(Unit))))×((Unit)×(Unit)))×((List (Int))×((List (Int))×(Unit)))) := fun ⟨⟨a,c,⟨f,⟨h,i,_⟩,_⟩,_⟩,_⟩ =>
bif f then
 bif decide (List.length a=List.length a) then
 Option.bind (p62_2 fu ((a,c,(true,(h,i,()),dflt .unit),()),())) fun ⟨⟨⟨j,k,⟨l,⟨m,n,_⟩,_⟩,_⟩,_,_⟩,o⟩ =>
 bif decide (List.length j=List.length j) then
 Option.bind (p62_2 fu ((j,k,(l,(m,n,()),()),()),())) fun ⟨⟨⟨q,s,⟨t,⟨u,w,_⟩,_⟩,_⟩,_,_⟩,x⟩ =>
 bif decide (List.length q=List.length q) then
 bif decide (List.length o=List.length o) then
 bif decide (List.length x=List.length x) then
 Option.bind (p61_7 fu ((q,s,(t,(u,w,()),()),()),(o,x,()),())) fun ⟨⟨⟨y,z,⟨a0,⟨c0,f0,_⟩,_⟩,_⟩,_,_,_,_⟩,⟨h0,i0,_⟩⟩ =>
 bif decide (List.length y=List.length y) then
 bif decide (List.length h0=List.length h0) then
 bif decide (List.length i0=List.length i0) then
 some (((y,z,(a0,(c0,f0,()),()),()),(),()),(h0,i0,()))
 else none
 else none
 else none
 else none
 else none
 else none
 else none
 else none
else
 bif decide (List.length a=List.length a) then
 Option.bind (p62_2 fu ((a,c,(false,dflt (.pair (.int .i64) (.pair (.int .i64) .unit)),()),()),())) fun ⟨⟨⟨j0,k0,⟨l0,⟨m0,n0,_⟩,_⟩,_⟩,_,_⟩,o0⟩ =>
 bif decide (List.length j0=List.length j0) then
 Option.bind (p62_2 fu ((j0,k0,(l0,(m0,n0,()),()),()),())) fun ⟨⟨⟨q0,s0,⟨t0,⟨u0,w0,_⟩,_⟩,_⟩,_,_⟩,x0⟩ =>
 bif decide (List.length q0=List.length q0) then
 bif decide (List.length o0=List.length o0) then
 bif decide (List.length x0=List.length x0) then
 Option.bind (p61_7 fu ((q0,s0,(t0,(u0,w0,()),()),()),(o0,x0,()),())) fun ⟨⟨⟨y0,z0,⟨a1,⟨c1,f1,_⟩,_⟩,_⟩,_,_,_,_⟩,⟨h1,i1,_⟩⟩ =>
 bif decide (List.length y0=List.length y0) then
 bif decide (List.length h1=List.length h1) then
 bif decide (List.length i1=List.length i1) then
 some (((y0,z0,(a1,(c1,f1,()),()),()),(),()),(h1,i1,()))
 else none
 else none
 else none
 else none
 else none
 else none
 else none
 else none
def e41_1 (fu:Nat):Ent := ⟨41,(.cons Y4 .nil),(.cons Y3 (.cons .dead .nil)),(.agg 2 (.cons (.own .own 3 (.int .i64)) (.cons (.own .own 3 (.int .i64)) .nil))),p41_1 fu⟩
theorem g41_1 (fu:Nat):(e41_1 fu).Good Tryd.prog := good_fx orders Tryd.func41 fu [(3,(.ent (e62_2 fu))),(5,(.ent (e62_2 fu))),(7,(.ent (e61_7 fu)))] [] rs41 10 (l := [e62_2 fu,e62_2 fu,e61_7 fu]) ⟨g62_2 fu,g62_2 fu,g61_7 fu,trivial⟩
def rs76:List RVx := [(.cell 4 true 6)]
def p76_5 (_:Nat):((List (Int))×((Int)×(((Bool)×(((Int)×((Int)×(Unit)))×(Unit)))×(Unit))))×((Z9)×(Unit))→Option ((((List (Int))×((Int)×(((Bool)×(((Int)×((Int)×(Unit)))×(Unit)))×(Unit))))×((Unit)×((Unit)×((Unit)×((Unit)×(Unit))))))×((Int)×((Int)×((Int)×((List (Int))×((List (Int))×((List (Int))×(Unit)))))))) := fun ⟨⟨a,c,⟨f,⟨h,i,_⟩,_⟩,_⟩,⟨j,k,l,m,n,o,_⟩,_⟩ =>
bif f then
 bif decide (List.length a=List.length a) then
 some (((a,c,(true,(h,i,()),dflt .unit),()),(),(),(),(),()),((0:Int),(0:Int),(0:Int),[],[],[],()))
 else none
else
 bif decide (List.length a=List.length a) then
 bif decide (List.length m=List.length m) then
 bif decide (List.length n=List.length n) then
 bif decide (List.length o=List.length o) then
 some (((a,c,(false,dflt (.pair (.int .i64) (.pair (.int .i64) .unit)),()),()),(),(),(),(),()),(j,k,l,m,n,o,()))
 else none
 else none
 else none
 else none
def e76_5 (fu:Nat):Ent := ⟨76,(.cons Y4 (.cons Y10 .nil)),(.cons Y3 (.cons .dead (.cons .dead (.cons .dead (.cons .dead .nil))))),Y10,p76_5 fu⟩
theorem g76_5 (fu:Nat):(e76_5 fu).Good Tryd.prog := good_fx orders Tryd.func76 fu [] [] rs76 13 (l := []) trivial
def rs60:List RVx := [(.cell 2 true 6)]
def p60_1 (fu:Nat):((List (Int))×((Int)×(((Bool)×(((Int)×((Int)×(Unit)))×(Unit)))×(Unit))))×(Unit)→Option ((((List (Int))×((Int)×(((Bool)×(((Int)×((Int)×(Unit)))×(Unit)))×(Unit))))×((Unit)×(Unit)))×((Int)×((Int)×((Int)×((List (Int))×((List (Int))×((List (Int))×(Unit)))))))) := fun ⟨⟨a,c,⟨f,⟨h,i,_⟩,_⟩,_⟩,_⟩ =>
bif f then
 bif decide (List.length a=List.length a) then
 Option.bind (p19_1 fu ((a,c,(true,(h,i,()),dflt .unit),()),())) fun ⟨⟨⟨j,k,⟨l,⟨m,n,_⟩,_⟩,_⟩,_,_⟩,o⟩ =>
 bif decide (List.length j=List.length j) then
 Option.bind (p19_1 fu ((j,k,(l,(m,n,()),()),()),())) fun ⟨⟨⟨q,s,⟨t,⟨u,w,_⟩,_⟩,_⟩,_,_⟩,x⟩ =>
 bif decide (List.length q=List.length q) then
 Option.bind (p77_1 fu ((q,s,(t,(u,w,()),()),()),())) fun ⟨⟨⟨y,z,⟨a0,⟨c0,f0,_⟩,_⟩,_⟩,_,_⟩,h0⟩ =>
 bif decide (List.length y=List.length y) then
 Option.bind (p42_1 fu ((y,z,(a0,(c0,f0,()),()),()),(262144:Int),())) fun ⟨⟨⟨i0,j0,⟨k0,⟨l0,m0,_⟩,_⟩,_⟩,_,_⟩,n0⟩ =>
 bif decide (List.length i0=List.length i0) then
 Option.bind (p41_1 fu ((i0,j0,(k0,(l0,m0,()),()),()),())) fun ⟨⟨⟨o0,q0,⟨s0,⟨t0,u0,_⟩,_⟩,_⟩,_,_⟩,⟨w0,x0,_⟩⟩ =>
 bif decide (List.length o0=List.length o0) then
 bif decide (List.length n0=List.length n0) then
 bif decide (List.length w0=List.length w0) then
 bif decide (List.length x0=List.length x0) then
 Option.bind (p76_5 fu ((o0,q0,(s0,(t0,u0,()),()),()),(o,x,h0,n0,w0,x0,()),())) fun ⟨⟨⟨y0,z0,⟨a1,⟨c1,f1,_⟩,_⟩,_⟩,_,_,_,_,_⟩,⟨h1,i1,j1,k1,l1,m1,_⟩⟩ =>
 bif decide (List.length y0=List.length y0) then
 bif decide (List.length k1=List.length k1) then
 bif decide (List.length l1=List.length l1) then
 bif decide (List.length m1=List.length m1) then
 some (((y0,z0,(a1,(c1,f1,()),()),()),(),()),(h1,i1,j1,k1,l1,m1,()))
 else none
 else none
 else none
 else none
 else none
 else none
 else none
 else none
 else none
 else none
 else none
 else none
 else none
else
 bif decide (List.length a=List.length a) then
 Option.bind (p19_1 fu ((a,c,(false,dflt (.pair (.int .i64) (.pair (.int .i64) .unit)),()),()),())) fun ⟨⟨⟨n1,o1,⟨q1,⟨s1,t1,_⟩,_⟩,_⟩,_,_⟩,u1⟩ =>
 bif decide (List.length n1=List.length n1) then
 Option.bind (p19_1 fu ((n1,o1,(q1,(s1,t1,()),()),()),())) fun ⟨⟨⟨w1,x1,⟨y1,⟨z1,a2,_⟩,_⟩,_⟩,_,_⟩,c2⟩ =>
 bif decide (List.length w1=List.length w1) then
 Option.bind (p77_1 fu ((w1,x1,(y1,(z1,a2,()),()),()),())) fun ⟨⟨⟨f2,h2,⟨i2,⟨j2,k2,_⟩,_⟩,_⟩,_,_⟩,l2⟩ =>
 bif decide (List.length f2=List.length f2) then
 Option.bind (p42_1 fu ((f2,h2,(i2,(j2,k2,()),()),()),(262144:Int),())) fun ⟨⟨⟨m2,n2,⟨o2,⟨q2,s2,_⟩,_⟩,_⟩,_,_⟩,t2⟩ =>
 bif decide (List.length m2=List.length m2) then
 Option.bind (p41_1 fu ((m2,n2,(o2,(q2,s2,()),()),()),())) fun ⟨⟨⟨u2,w2,⟨x2,⟨y2,z2,_⟩,_⟩,_⟩,_,_⟩,⟨a3,c3,_⟩⟩ =>
 bif decide (List.length u2=List.length u2) then
 bif decide (List.length t2=List.length t2) then
 bif decide (List.length a3=List.length a3) then
 bif decide (List.length c3=List.length c3) then
 Option.bind (p76_5 fu ((u2,w2,(x2,(y2,z2,()),()),()),(u1,c2,l2,t2,a3,c3,()),())) fun ⟨⟨⟨f3,h3,⟨i3,⟨j3,k3,_⟩,_⟩,_⟩,_,_,_,_,_⟩,⟨l3,m3,n3,o3,q3,s3,_⟩⟩ =>
 bif decide (List.length f3=List.length f3) then
 bif decide (List.length o3=List.length o3) then
 bif decide (List.length q3=List.length q3) then
 bif decide (List.length s3=List.length s3) then
 some (((f3,h3,(i3,(j3,k3,()),()),()),(),()),(l3,m3,n3,o3,q3,s3,()))
 else none
 else none
 else none
 else none
 else none
 else none
 else none
 else none
 else none
 else none
 else none
 else none
 else none
def e60_1 (fu:Nat):Ent := ⟨60,(.cons Y4 .nil),(.cons Y3 (.cons .dead .nil)),Y10,p60_1 fu⟩
theorem g60_1 (fu:Nat):(e60_1 fu).Good Tryd.prog := good_fx orders Tryd.func60 fu [(3,(.ent (e19_1 fu))),(5,(.ent (e19_1 fu))),(7,(.ent (e77_1 fu))),(9,(.ent (e42_1 fu))),(11,(.ent (e41_1 fu))),(13,(.ent (e76_5 fu)))] [] rs60 16 (l := [e19_1 fu,e19_1 fu,e77_1 fu,e42_1 fu,e41_1 fu,e76_5 fu]) ⟨g19_1 fu,g19_1 fu,g77_1 fu,g42_1 fu,g41_1 fu,g76_5 fu,trivial⟩
def rs40:List RVx := [(.tmp 2)]
def p40_1 (fu:Nat):((List (Int))×((Int)×(((Bool)×(((Int)×((Int)×(Unit)))×(Unit)))×(Unit))))×(Unit)→Option ((((List (Int))×((Int)×(((Bool)×(((Int)×((Int)×(Unit)))×(Unit)))×(Unit))))×((Unit)×(Unit)))×(List (D_api_Entry))) := fun ⟨⟨a,c,⟨f,⟨h,i,_⟩,_⟩,_⟩,_⟩ =>
bif f then
 bif decide (List.length a=List.length a) then
 Option.bind (p17_2 fu ((a,c,(true,(h,i,()),dflt .unit),()),(8:Int),())) fun ⟨⟨⟨j,k,⟨l,⟨m,n,_⟩,_⟩,_⟩,_,_⟩,o⟩ =>
 bif decide (List.length j=List.length j) then
 loopO (S := ((List (D_api_Entry))×((Int)×(Unit)))×(((List (Int))×((Int)×(((Bool)×(((Int)×((Int)×(Unit)))×(Unit)))×(Unit))))×(Unit))) fu (fun ⟨⟨q,s,_⟩,⟨⟨t,u,⟨w,⟨x,y,_⟩,_⟩,_⟩,_⟩⟩ =>
 bif decide (s<o) then
 bif decide (List.length t=List.length t) then
 Option.bind (p60_1 fu ((t,u,(w,(x,y,()),()),()),())) fun ⟨⟨⟨z,a0,⟨c0,⟨f0,h0,_⟩,_⟩,_⟩,_,_⟩,⟨i0,j0,k0,l0,m0,n0,_⟩⟩ =>
 bif decide (List.length l0=List.length l0) then
 bif decide (List.length m0=List.length m0) then
 bif decide (List.length n0=List.length n0) then
 bif decide (List.length q=List.length q) then
 bif decide (List.length q+List.length ([(i0,j0,k0,l0,m0,n0)])≤maxLen∧(List.length q+List.length ([(i0,j0,k0,l0,m0,n0)])) * 96≤140737488355328) then
 bif decide (List.length (q ++ [(i0,j0,k0,l0,m0,n0)])=List.length (q ++ [(i0,j0,k0,l0,m0,n0)])) then
 bif decide (List.length z=List.length z) then
 some (.inl (((q ++ [(i0,j0,k0,l0,m0,n0)]),IntKind.wrap .i64 (s+(1:Int)),()),((z,a0,(c0,(f0,h0,()),()),()),())))
 else none
 else none
 else none
 else none
 else none
 else none
 else none
 else none
 else
 inrO (bif decide (List.length t=List.length t) then
 bif decide (List.length q=List.length q) then
 some (((t,u,(w,(x,y,()),()),()),(),()),q)
 else none
 else none))
 (([],(0:Int),()),((j,k,(l,(m,n,()),()),()),()))
 else none
 else none
else
 bif decide (List.length a=List.length a) then
 Option.bind (p17_2 fu ((a,c,(false,dflt (.pair (.int .i64) (.pair (.int .i64) .unit)),()),()),(8:Int),())) fun ⟨⟨⟨o0,q0,⟨s0,⟨t0,u0,_⟩,_⟩,_⟩,_,_⟩,w0⟩ =>
 bif decide (List.length o0=List.length o0) then
 loopO (S := ((List (D_api_Entry))×((Int)×(Unit)))×(((List (Int))×((Int)×(((Bool)×(((Int)×((Int)×(Unit)))×(Unit)))×(Unit))))×(Unit))) fu (fun ⟨⟨q,s,_⟩,⟨⟨t,u,⟨w,⟨x,y,_⟩,_⟩,_⟩,_⟩⟩ =>
 bif decide (s<w0) then
 bif decide (List.length t=List.length t) then
 Option.bind (p60_1 fu ((t,u,(w,(x,y,()),()),()),())) fun ⟨⟨⟨x0,y0,⟨z0,⟨a1,c1,_⟩,_⟩,_⟩,_,_⟩,⟨f1,h1,i1,j1,k1,l1,_⟩⟩ =>
 bif decide (List.length j1=List.length j1) then
 bif decide (List.length k1=List.length k1) then
 bif decide (List.length l1=List.length l1) then
 bif decide (List.length q=List.length q) then
 bif decide (List.length q+List.length ([(f1,h1,i1,j1,k1,l1)])≤maxLen∧(List.length q+List.length ([(f1,h1,i1,j1,k1,l1)])) * 96≤140737488355328) then
 bif decide (List.length (q ++ [(f1,h1,i1,j1,k1,l1)])=List.length (q ++ [(f1,h1,i1,j1,k1,l1)])) then
 bif decide (List.length x0=List.length x0) then
 some (.inl (((q ++ [(f1,h1,i1,j1,k1,l1)]),IntKind.wrap .i64 (s+(1:Int)),()),((x0,y0,(z0,(a1,c1,()),()),()),())))
 else none
 else none
 else none
 else none
 else none
 else none
 else none
 else none
 else
 inrO (bif decide (List.length t=List.length t) then
 bif decide (List.length q=List.length q) then
 some (((t,u,(w,(x,y,()),()),()),(),()),q)
 else none
 else none))
 (([],(0:Int),()),((o0,q0,(s0,(t0,u0,()),()),()),()))
 else none
 else none
def e40_1 (fu:Nat):Ent := ⟨40,(.cons Y4 .nil),(.cons Y3 (.cons .dead .nil)),(.own .own 96 T_api_Entry_n),p40_1 fu⟩
theorem g40_1 (fu:Nat):(e40_1 fu).Good Tryd.prog := good_fx orders Tryd.func40 fu [(3,(.ent (e17_2 fu))),(8,(.ent (e60_1 fu))),(9,(.ty T_api_Entry_n)),(10,(.ty T_api_Entry_n))] [(4,⟨[3,6],(.cons (.own .own 96 T_api_Entry_n) (.cons (.hole (.int .i64)) .nil)),[(0,79,3)],(.cons Y3 .nil),[0,5],[1]⟩)] rs40 15 (l := [e17_2 fu,e60_1 fu]) ⟨g17_2 fu,g60_1 fu,trivial⟩
def rs21:List RVx := [(.cell 2 true 14)]
def p21 (fu:Nat):((List (Int))×((Int)×(((Bool)×(((Int)×((Int)×(Unit)))×(Unit)))×(Unit))))×(Unit)→Option ((((List (Int))×((Int)×(((Bool)×(((Int)×((Int)×(Unit)))×(Unit)))×(Unit))))×((Unit)×(Unit)))×((Int)×((Int)×((Int)×((Int)×((Int)×((Int)×((List (D_api_Entry))×((Int)×((Bool)×((Int)×((List (Int))×((List (Int))×((List (Int))×((Bool)×(Unit)))))))))))))))) := fun ⟨⟨a,c,⟨f,⟨h,i,_⟩,_⟩,_⟩,_⟩ =>
bif f then
 bif decide (List.length a=List.length a) then
 Option.bind (p39_2 fu ((a,c,(true,(h,i,()),dflt .unit),()),())) fun ⟨⟨⟨j,k,⟨l,⟨m,n,_⟩,_⟩,_⟩,_,_⟩,o⟩ =>
 bif decide (List.length j=List.length j) then
 Option.bind (p19_1 fu ((j,k,(l,(m,n,()),()),()),())) fun ⟨⟨⟨q,s,⟨t,⟨u,w,_⟩,_⟩,_⟩,_,_⟩,x⟩ =>
 bif decide (List.length q=List.length q) then
 Option.bind (p19_1 fu ((q,s,(t,(u,w,()),()),()),())) fun ⟨⟨⟨y,z,⟨a0,⟨c0,f0,_⟩,_⟩,_⟩,_,_⟩,h0⟩ =>
 bif decide (List.length y=List.length y) then
 Option.bind (p19_1 fu ((y,z,(a0,(c0,f0,()),()),()),())) fun ⟨⟨⟨i0,j0,⟨k0,⟨l0,m0,_⟩,_⟩,_⟩,_,_⟩,n0⟩ =>
 bif decide (List.length i0=List.length i0) then
 Option.bind (p40_1 fu ((i0,j0,(k0,(l0,m0,()),()),()),())) fun ⟨⟨⟨o0,q0,⟨s0,⟨t0,u0,_⟩,_⟩,_⟩,_,_⟩,w0⟩ =>
 bif decide (List.length o0=List.length o0) then
 Option.bind (p19_1 fu ((o0,q0,(s0,(t0,u0,()),()),()),())) fun ⟨⟨⟨x0,y0,⟨z0,⟨a1,c1,_⟩,_⟩,_⟩,_,_⟩,f1⟩ =>
 bif decide (List.length x0=List.length x0) then
 Option.bind (p38_2 fu ((x0,y0,(z0,(a1,c1,()),()),()),())) fun ⟨⟨⟨h1,i1,⟨j1,⟨k1,l1,_⟩,_⟩,_⟩,_,_⟩,m1⟩ =>
 bif decide (List.length h1=List.length h1) then
 Option.bind (p19_1 fu ((h1,i1,(j1,(k1,l1,()),()),()),())) fun ⟨⟨⟨n1,o1,⟨q1,⟨s1,t1,_⟩,_⟩,_⟩,_,_⟩,u1⟩ =>
 bif decide (List.length n1=List.length n1) then
 Option.bind (p41_1 fu ((n1,o1,(q1,(s1,t1,()),()),()),())) fun ⟨⟨⟨w1,x1,⟨y1,⟨z1,a2,_⟩,_⟩,_⟩,_,_⟩,⟨c2,f2,_⟩⟩ =>
 bif decide (List.length w1=List.length w1) then
 Option.bind (p42_1 fu ((w1,x1,(y1,(z1,a2,()),()),()),(262144:Int),())) fun ⟨⟨⟨h2,i2,⟨j2,⟨k2,l2,_⟩,_⟩,_⟩,_,_⟩,m2⟩ =>
 bif decide (List.length h2=List.length h2) then
 Option.bind (p38_2 fu ((h2,i2,(j2,(k2,l2,()),()),()),())) fun ⟨⟨⟨n2,o2,⟨q2,⟨s2,t2,_⟩,_⟩,_⟩,_,_⟩,u2⟩ =>
 Option.bind (p43 fu (o,())) fun ⟨_,w2⟩ =>
 bif !w2 then
 bif decide (List.length n2=List.length n2) then
 Option.bind (p18_1 fu ((n2,o2,(q2,(s2,t2,()),()),()),(111:Int),())) fun ⟨⟨⟨x2,y2,⟨z2,⟨a3,c3,_⟩,_⟩,_⟩,_,_⟩,_⟩ =>
 bif decide (List.length x2=List.length x2) then
 bif decide (List.length w0=List.length w0) then
 bif decide (List.length c2=List.length c2) then
 bif decide (List.length f2=List.length f2) then
 bif decide (List.length m2=List.length m2) then
 some (((x2,y2,(z2,(a3,c3,()),()),()),(),()),(o,(0:Int),(0:Int),x,h0,n0,w0,f1,m1,u1,c2,f2,m2,u2,()))
 else none
 else none
 else none
 else none
 else none
 else none
 else
 bif decide (List.length w0=List.length w0) then
 bif decide (List.length c2=List.length c2) then
 bif decide (List.length f2=List.length f2) then
 bif decide (List.length m2=List.length m2) then
 Option.bind (p32 fu ((o,(0:Int),(0:Int),x,h0,n0,w0,f1,m1,u1,c2,f2,m2,u2,()),())) fun ⟨_,f3⟩ =>
 bif f3 then
 bif decide (List.length n2=List.length n2) then
 Option.bind (p18_1 fu ((n2,o2,(q2,(s2,t2,()),()),()),(111:Int),())) fun ⟨⟨⟨h3,i3,⟨j3,⟨k3,l3,_⟩,_⟩,_⟩,_,_⟩,_⟩ =>
 bif decide (List.length h3=List.length h3) then
 bif decide (List.length w0=List.length w0) then
 bif decide (List.length c2=List.length c2) then
 bif decide (List.length f2=List.length f2) then
 bif decide (List.length m2=List.length m2) then
 some (((h3,i3,(j3,(k3,l3,()),()),()),(),()),(o,(0:Int),(0:Int),x,h0,n0,w0,f1,m1,u1,c2,f2,m2,u2,()))
 else none
 else none
 else none
 else none
 else none
 else none
 else
 bif decide (List.length n2=List.length n2) then
 bif decide (List.length w0=List.length w0) then
 bif decide (List.length c2=List.length c2) then
 bif decide (List.length f2=List.length f2) then
 bif decide (List.length m2=List.length m2) then
 some (((n2,o2,(q2,(s2,t2,()),()),()),(),()),(o,(0:Int),(0:Int),x,h0,n0,w0,f1,m1,u1,c2,f2,m2,u2,()))
 else none
 else none
 else none
 else none
 else none
 else none
 else none
 else none
 else none
 else none
 else none
 else none
 else none
 else none
 else none
 else none
 else none
 else none
 else none
 else none
else
 bif decide (List.length a=List.length a) then
 Option.bind (p39_2 fu ((a,c,(false,dflt (.pair (.int .i64) (.pair (.int .i64) .unit)),()),()),())) fun ⟨⟨⟨m3,n3,⟨o3,⟨q3,s3,_⟩,_⟩,_⟩,_,_⟩,t3⟩ =>
 bif decide (List.length m3=List.length m3) then
 Option.bind (p19_1 fu ((m3,n3,(o3,(q3,s3,()),()),()),())) fun ⟨⟨⟨u3,w3,⟨x3,⟨y3,z3,_⟩,_⟩,_⟩,_,_⟩,a4⟩ =>
 bif decide (List.length u3=List.length u3) then
 Option.bind (p19_1 fu ((u3,w3,(x3,(y3,z3,()),()),()),())) fun ⟨⟨⟨c4,f4,⟨h4,⟨i4,j4,_⟩,_⟩,_⟩,_,_⟩,k4⟩ =>
 bif decide (List.length c4=List.length c4) then
 Option.bind (p19_1 fu ((c4,f4,(h4,(i4,j4,()),()),()),())) fun ⟨⟨⟨l4,m4,⟨n4,⟨o4,q4,_⟩,_⟩,_⟩,_,_⟩,s4⟩ =>
 bif decide (List.length l4=List.length l4) then
 Option.bind (p40_1 fu ((l4,m4,(n4,(o4,q4,()),()),()),())) fun ⟨⟨⟨t4,u4,⟨w4,⟨x4,y4,_⟩,_⟩,_⟩,_,_⟩,z4⟩ =>
 bif decide (List.length t4=List.length t4) then
 Option.bind (p19_1 fu ((t4,u4,(w4,(x4,y4,()),()),()),())) fun ⟨⟨⟨a5,c5,⟨f5,⟨h5,i5,_⟩,_⟩,_⟩,_,_⟩,j5⟩ =>
 bif decide (List.length a5=List.length a5) then
 Option.bind (p38_2 fu ((a5,c5,(f5,(h5,i5,()),()),()),())) fun ⟨⟨⟨k5,l5,⟨m5,⟨n5,o5,_⟩,_⟩,_⟩,_,_⟩,q5⟩ =>
 bif decide (List.length k5=List.length k5) then
 Option.bind (p19_1 fu ((k5,l5,(m5,(n5,o5,()),()),()),())) fun ⟨⟨⟨s5,t5,⟨u5,⟨w5,x5,_⟩,_⟩,_⟩,_,_⟩,y5⟩ =>
 bif decide (List.length s5=List.length s5) then
 Option.bind (p41_1 fu ((s5,t5,(u5,(w5,x5,()),()),()),())) fun ⟨⟨⟨z5,a6,⟨c6,⟨f6,h6,_⟩,_⟩,_⟩,_,_⟩,⟨i6,j6,_⟩⟩ =>
 bif decide (List.length z5=List.length z5) then
 Option.bind (p42_1 fu ((z5,a6,(c6,(f6,h6,()),()),()),(262144:Int),())) fun ⟨⟨⟨k6,l6,⟨m6,⟨n6,o6,_⟩,_⟩,_⟩,_,_⟩,q6⟩ =>
 bif decide (List.length k6=List.length k6) then
 Option.bind (p38_2 fu ((k6,l6,(m6,(n6,o6,()),()),()),())) fun ⟨⟨⟨s6,t6,⟨u6,⟨w6,x6,_⟩,_⟩,_⟩,_,_⟩,y6⟩ =>
 Option.bind (p43 fu (t3,())) fun ⟨_,z6⟩ =>
 bif !z6 then
 bif decide (List.length s6=List.length s6) then
 Option.bind (p18_1 fu ((s6,t6,(u6,(w6,x6,()),()),()),(111:Int),())) fun ⟨⟨⟨a7,c7,⟨f7,⟨h7,i7,_⟩,_⟩,_⟩,_,_⟩,_⟩ =>
 bif decide (List.length a7=List.length a7) then
 bif decide (List.length z4=List.length z4) then
 bif decide (List.length i6=List.length i6) then
 bif decide (List.length j6=List.length j6) then
 bif decide (List.length q6=List.length q6) then
 some (((a7,c7,(f7,(h7,i7,()),()),()),(),()),(t3,(0:Int),(0:Int),a4,k4,s4,z4,j5,q5,y5,i6,j6,q6,y6,()))
 else none
 else none
 else none
 else none
 else none
 else none
 else
 bif decide (List.length z4=List.length z4) then
 bif decide (List.length i6=List.length i6) then
 bif decide (List.length j6=List.length j6) then
 bif decide (List.length q6=List.length q6) then
 Option.bind (p32 fu ((t3,(0:Int),(0:Int),a4,k4,s4,z4,j5,q5,y5,i6,j6,q6,y6,()),())) fun ⟨_,j7⟩ =>
 bif j7 then
 bif decide (List.length s6=List.length s6) then
 Option.bind (p18_1 fu ((s6,t6,(u6,(w6,x6,()),()),()),(111:Int),())) fun ⟨⟨⟨k7,l7,⟨m7,⟨n7,o7,_⟩,_⟩,_⟩,_,_⟩,_⟩ =>
 bif decide (List.length k7=List.length k7) then
 bif decide (List.length z4=List.length z4) then
 bif decide (List.length i6=List.length i6) then
 bif decide (List.length j6=List.length j6) then
 bif decide (List.length q6=List.length q6) then
 some (((k7,l7,(m7,(n7,o7,()),()),()),(),()),(t3,(0:Int),(0:Int),a4,k4,s4,z4,j5,q5,y5,i6,j6,q6,y6,()))
 else none
 else none
 else none
 else none
 else none
 else none
 else
 bif decide (List.length s6=List.length s6) then
 bif decide (List.length z4=List.length z4) then
 bif decide (List.length i6=List.length i6) then
 bif decide (List.length j6=List.length j6) then
 bif decide (List.length q6=List.length q6) then
 some (((s6,t6,(u6,(w6,x6,()),()),()),(),()),(t3,(0:Int),(0:Int),a4,k4,s4,z4,j5,q5,y5,i6,j6,q6,y6,()))
 else none
 else none
 else none
 else none
 else none
 else none
 else none
 else none
 else none
 else none
 else none
 else none
 else none
 else none
 else none
 else none
 else none
 else none
 else none
 else none
def e21 (fu:Nat):Ent := ⟨21,(.cons Y4 .nil),(.cons Y3 (.cons .dead .nil)),Y11,p21 fu⟩
theorem g21 (fu:Nat):(e21 fu).Good Tryd.prog := good_fx orders Tryd.func21 fu [(2,(.ent (e39_2 fu))),(4,(.ent (e19_1 fu))),(6,(.ent (e19_1 fu))),(8,(.ent (e19_1 fu))),(10,(.ent (e40_1 fu))),(12,(.ent (e19_1 fu))),(14,(.ent (e38_2 fu))),(16,(.ent (e19_1 fu))),(18,(.ent (e41_1 fu))),(20,(.ent (e42_1 fu))),(22,(.ent (e38_2 fu))),(28,(.ent (e43 fu))),(32,(.ent (e32 fu))),(35,(.ent (e18_1 fu)))] [] rs21 38 (l := [e39_2 fu,e19_1 fu,e19_1 fu,e19_1 fu,e40_1 fu,e19_1 fu,e38_2 fu,e19_1 fu,e41_1 fu,e42_1 fu,e38_2 fu,e43 fu,e32 fu,e18_1 fu]) ⟨g39_2 fu,g19_1 fu,g19_1 fu,g19_1 fu,g40_1 fu,g19_1 fu,g38_2 fu,g19_1 fu,g41_1 fu,g42_1 fu,g38_2 fu,g43 fu,g32 fu,g18_1 fu,trivial⟩
def rs22:List RVx := [(.tmp 2),(.tmp 3)]
def p22 (fu:Nat):((List (Int))×((Int)×(((Bool)×(((Int)×((Int)×(Unit)))×(Unit)))×(Unit))))×(Unit)→Option ((((List (Int))×((Int)×(((Bool)×(((Int)×((Int)×(Unit)))×(Unit)))×(Unit))))×((Unit)×(Unit)))×((Int)×((Int)×(Unit)))) := fun ⟨⟨a,c,⟨f,⟨h,i,_⟩,_⟩,_⟩,_⟩ =>
bif f then
 orK (E := ((Bool)×(Unit))×((((Bool)×((Unit)×((Int)×((Int)×(Unit)))))×(Unit))×(Unit)))
 (Option.bind (pAsM fu ((false,dflt .unit,(h,i,())),((),()),())) fun ⟨⟨⟨⟨j,_,⟨k,l,_⟩⟩,_⟩,_⟩,m⟩ =>
 bif j then
 some (.inl ((m,()),(((true,(),dflt (.pair (.int .i64) (.pair (.int .i64) .unit))),()),())))
 else
 some (.inl ((m,()),(((false,dflt .unit,(k,l,())),()),()))))
 fun ⟨⟨n,_⟩,⟨⟨⟨o,_,⟨q,s,_⟩⟩,_⟩,_⟩⟩ =>
 bif o then
 bif n then
 none
 else
 bif decide (List.length a=List.length a) then
 some (((a,c,(true,(h,i,()),dflt .unit),()),(),()),((0:Int),(0:Int),()))
 else none
 else
 bif n then
 bif decide (List.length a=List.length a) then
 some (((a,c,(true,(h,i,()),dflt .unit),()),(),()),(q,s,()))
 else none
 else
 bif decide (List.length a=List.length a) then
 some (((a,c,(true,(h,i,()),dflt .unit),()),(),()),((0:Int),(0:Int),()))
 else none
else
 orK (E := ((Bool)×(Unit))×((((Bool)×((Unit)×((Int)×((Int)×(Unit)))))×(Unit))×(Unit)))
 (Option.bind (pAsM fu ((true,(),dflt (.pair (.int .i64) (.pair (.int .i64) .unit))),((),()),())) fun ⟨⟨⟨⟨t,_,⟨u,w,_⟩⟩,_⟩,_⟩,x⟩ =>
 bif t then
 some (.inl ((x,()),(((true,(),dflt (.pair (.int .i64) (.pair (.int .i64) .unit))),()),())))
 else
 some (.inl ((x,()),(((false,dflt .unit,(u,w,())),()),()))))
 fun ⟨⟨n,_⟩,⟨⟨⟨o,_,⟨q,s,_⟩⟩,_⟩,_⟩⟩ =>
 bif o then
 bif n then
 none
 else
 bif decide (List.length a=List.length a) then
 some (((a,c,(false,dflt (.pair (.int .i64) (.pair (.int .i64) .unit)),()),()),(),()),((0:Int),(0:Int),()))
 else none
 else
 bif n then
 bif decide (List.length a=List.length a) then
 some (((a,c,(false,dflt (.pair (.int .i64) (.pair (.int .i64) .unit)),()),()),(),()),(q,s,()))
 else none
 else
 bif decide (List.length a=List.length a) then
 some (((a,c,(false,dflt (.pair (.int .i64) (.pair (.int .i64) .unit)),()),()),(),()),((0:Int),(0:Int),()))
 else none
def e22 (fu:Nat):Ent := ⟨22,(.cons Y4 .nil),(.cons Y3 (.cons .dead .nil)),(.tup 2 (.cons (.hole (.int .i64)) (.cons (.hole (.int .i64)) .nil))),p22 fu⟩
theorem g22 (fu:Nat):(e22 fu).Good Tryd.prog := good_fx orders Tryd.func22 fu [(8,(.ent (eAsM fu)))] [(3,⟨[10],(.cons (.hole .bool) .nil),[(36,88,1)],(.cons (.agg 1 (.cons (.alt false .nilp (.look (.cons (.hole (.int .i64)) (.cons (.hole (.int .i64)) .nil)))) .nil)) .nil),[4],[0,1,3]⟩)] rs22 19 (l := [eAsM fu]) ⟨gAsM fu,trivial⟩
def rs23:List RVx := [(.tmp 2)]
def p23 (fu:Nat):((List (Int))×((Int)×(((Bool)×(((Int)×((Int)×(Unit)))×(Unit)))×(Unit))))×(Unit)→Option ((((List (Int))×((Int)×(((Bool)×(((Int)×((Int)×(Unit)))×(Unit)))×(Unit))))×((Unit)×(Unit)))×(Int)) := fun ⟨⟨a,c,⟨f,⟨h,i,_⟩,_⟩,_⟩,_⟩ =>
bif f then
 bif decide (List.length a=List.length a) then
 Option.bind (p22 fu ((a,c,(true,(h,i,()),dflt .unit),()),())) fun ⟨⟨⟨j,k,⟨l,⟨m,n,_⟩,_⟩,_⟩,_,_⟩,⟨o,_,_⟩⟩ =>
 bif (o==(0:Int)) then
 bif decide (k<((List.length j):Int)) then
 bif decide (List.length j=List.length j) then
 some (((j,k,(l,(m,n,()),()),()),(),()),(15:Int))
 else none
 else
 bif decide (List.length j=List.length j) then
 some (((j,k,(l,(m,n,()),()),()),(),()),o)
 else none
 else
 bif decide (List.length j=List.length j) then
 some (((j,k,(l,(m,n,()),()),()),(),()),o)
 else none
 else none
else
 bif decide (List.length a=List.length a) then
 Option.bind (p22 fu ((a,c,(false,dflt (.pair (.int .i64) (.pair (.int .i64) .unit)),()),()),())) fun ⟨⟨⟨q,s,⟨t,⟨u,w,_⟩,_⟩,_⟩,_,_⟩,⟨x,_,_⟩⟩ =>
 bif (x==(0:Int)) then
 bif decide (s<((List.length q):Int)) then
 bif decide (List.length q=List.length q) then
 some (((q,s,(t,(u,w,()),()),()),(),()),(15:Int))
 else none
 else
 bif decide (List.length q=List.length q) then
 some (((q,s,(t,(u,w,()),()),()),(),()),x)
 else none
 else
 bif decide (List.length q=List.length q) then
 some (((q,s,(t,(u,w,()),()),()),(),()),x)
 else none
 else none
def e23 (fu:Nat):Ent := ⟨23,(.cons Y4 .nil),(.cons Y3 (.cons .dead .nil)),(.hole (.int .i64)),p23 fu⟩
theorem g23 (fu:Nat):(e23 fu).Good Tryd.prog := good_fx orders Tryd.func23 fu [(2,(.ent (e22 fu)))] [] rs23 25 (l := [e22 fu]) ⟨g22 fu,trivial⟩
def rs7:List RVx := [(.tmp 2),(.tmp 3)]
def p7 (fu:Nat):((Int)×((Int)×((Int)×((List (Int))×(Unit)))))×(Unit)→Option ((Unit)×((List (D_beats_Wire))×((Int)×(Unit)))) := fun ⟨⟨a,c,f,h,_⟩,_⟩ =>
orK (E := (Unit)×(Unit))
 (bif (f != (1:Int)) then
 bif (f != (2:Int)) then
 inrO (some ((),([],(1:Int),())))
 else
 Option.bind (p15 fu (a,())) fun ⟨_,i⟩ =>
 bif !i then
 inrO (some ((),([],(1:Int),())))
 else
 Option.bind (p15 fu (c,())) fun ⟨_,j⟩ =>
 bif !j then
 inrO (some ((),([],(1:Int),())))
 else
 bif (a==c) then
 inrO (some ((),([],(1:Int),())))
 else
 some (.inl ((),()))
 else
 Option.bind (p15 fu (a,())) fun ⟨_,k⟩ =>
 bif !k then
 inrO (some ((),([],(1:Int),())))
 else
 Option.bind (p15 fu (c,())) fun ⟨_,l⟩ =>
 bif !l then
 inrO (some ((),([],(1:Int),())))
 else
 bif (a==c) then
 inrO (some ((),([],(1:Int),())))
 else
 some (.inl ((),())))
 fun ⟨_,_⟩ =>
Option.bind (p16 fu (h,())) fun ⟨_,⟨m,n,_,_⟩⟩ =>
bif decide (List.length m=List.length m) then
 Option.bind (p17 fu ((m,n,(),()),(4096:Int),())) fun ⟨⟨⟨o,q,⟨s,⟨t,u,_⟩,_⟩,_⟩,_,_⟩,w⟩ =>
 orK (E := (Unit)×(((List (Int))×((Int)×(((Bool)×(((Int)×((Int)×(Unit)))×(Unit)))×(Unit))))×(Unit)))
 (bif (w==(0:Int)) then
 bif decide (List.length o=List.length o) then
 Option.bind (p18_1 fu ((o,q,(s,(t,u,()),()),()),(111:Int),())) fun ⟨⟨⟨x,y,⟨z,⟨a0,c0,_⟩,_⟩,_⟩,_,_⟩,_⟩ =>
 bif decide (List.length x=List.length x) then
 some (.inl ((),((x,y,(z,(a0,c0,()),()),()),())))
 else none
 else none
 else
 bif decide (List.length o=List.length o) then
 some (.inl ((),((o,q,(s,(t,u,()),()),()),())))
 else none)
 fun ⟨_,⟨⟨f0,h0,⟨i0,⟨j0,k0,_⟩,_⟩,_⟩,_⟩⟩ =>
 orK (E := ((List (D_beats_Wire))×(Unit))×(((List (Int))×((Int)×(((Bool)×(((Int)×((Int)×(Unit)))×(Unit)))×(Unit))))×(Unit)))
 (bif decide (List.length f0=List.length f0) then
 loopO (S := ((List (D_beats_Wire))×((Int)×(Unit)))×(((List (Int))×((Int)×(((Bool)×(((Int)×((Int)×(Unit)))×(Unit)))×(Unit))))×(Unit))) fu (fun ⟨⟨l0,m0,_⟩,⟨⟨f0,h0,⟨i0,⟨j0,k0,_⟩,_⟩,_⟩,_⟩⟩ =>
 bif decide (m0<w) then
 bif decide (List.length f0=List.length f0) then
 Option.bind (p19_1 fu ((f0,h0,(i0,(j0,k0,()),()),()),())) fun ⟨⟨⟨n0,o0,⟨q0,⟨s0,t0,_⟩,_⟩,_⟩,_,_⟩,u0⟩ =>
 orK (E := (Unit)×(((List (Int))×((Int)×(((Bool)×(((Int)×((Int)×(Unit)))×(Unit)))×(Unit))))×((Z0)×(Unit))))
 (bif (f==(2:Int)) then
 bif decide (List.length n0=List.length n0) then
 Option.bind (p20 fu ((n0,o0,(q0,(s0,t0,()),()),()),())) fun ⟨⟨⟨w0,x0,⟨y0,⟨z0,a1,_⟩,_⟩,_⟩,_,_⟩,⟨c1,f1,h1,i1,j1,k1,l1,m1,n1,o1,q1,s1,t1,u1,_⟩⟩ =>
 bif decide (List.length w0=List.length w0) then
 some (.inl ((),((w0,x0,(y0,(z0,a1,()),()),()),(u0,c1,f1,h1,i1,j1,k1,l1,m1,n1,o1,q1,s1,t1,u1,()),())))
 else none
 else none
 else
 bif decide (List.length n0=List.length n0) then
 Option.bind (p21 fu ((n0,o0,(q0,(s0,t0,()),()),()),())) fun ⟨⟨⟨w1,x1,⟨y1,⟨z1,a2,_⟩,_⟩,_⟩,_,_⟩,⟨c2,f2,h2,i2,j2,k2,l2,m2,n2,o2,q2,s2,t2,u2,_⟩⟩ =>
 bif decide (List.length w1=List.length w1) then
 bif decide (List.length l2=List.length l2) then
 bif decide (List.length q2=List.length q2) then
 bif decide (List.length s2=List.length s2) then
 bif decide (List.length t2=List.length t2) then
 some (.inl ((),((w1,x1,(y1,(z1,a2,()),()),()),(u0,c2,f2,h2,i2,j2,k2,l2,m2,n2,o2,q2,s2,t2,u2,()),())))
 else none
 else none
 else none
 else none
 else none
 else none)
 fun ⟨_,⟨⟨f0,h0,⟨i0,⟨j0,k0,_⟩,_⟩,_⟩,⟨w2,x2,_,_,y2,z2,a3,c3,f3,h3,i3,j3,k3,l3,m3,_⟩,_⟩⟩ =>
 bif decide (List.length f0=List.length f0) then
 Option.bind (p22 fu ((f0,h0,(i0,(j0,k0,()),()),()),())) fun ⟨⟨⟨n3,o3,⟨q3,⟨s3,t3,_⟩,_⟩,_⟩,_,_⟩,⟨u3,_,_⟩⟩ =>
 bif (u3 != (0:Int)) then
 inrO (bif decide (List.length l0=List.length l0) then
 bif decide (List.length n3=List.length n3) then
 some (.inl ((l0,()),((n3,o3,(q3,(s3,t3,()),()),()),())))
 else none
 else none)
 else
 bif decide (List.length l0=List.length l0) then
 bif decide (List.length l0+List.length ([(w2,x2,a,c,y2,z2,a3,c3,f3,h3,i3,(j3,k3),l3,m3)])≤maxLen∧(List.length l0+List.length ([(w2,x2,a,c,y2,z2,a3,c3,f3,h3,i3,(j3,k3),l3,m3)])) * 184≤140737488355328) then
 bif decide (List.length (l0 ++ [(w2,x2,a,c,y2,z2,a3,c3,f3,h3,i3,(j3,k3),l3,m3)])=List.length (l0 ++ [(w2,x2,a,c,y2,z2,a3,c3,f3,h3,i3,(j3,k3),l3,m3)])) then
 bif decide (List.length n3=List.length n3) then
 some (.inl (((l0 ++ [(w2,x2,a,c,y2,z2,a3,c3,f3,h3,i3,(j3,k3),l3,m3)]),IntKind.wrap .i64 (m0+(1:Int)),()),((n3,o3,(q3,(s3,t3,()),()),()),())))
 else none
 else none
 else none
 else none
 else none
 else none
 else
 inrO (bif decide (List.length l0=List.length l0) then
 bif decide (List.length f0=List.length f0) then
 some (.inl ((l0,()),((f0,h0,(i0,(j0,k0,()),()),()),())))
 else none
 else none))
 (([],(0:Int),()),((f0,h0,(i0,(j0,k0,()),()),()),()))
 else none)
 fun ⟨⟨l0,_⟩,⟨⟨f0,h0,⟨i0,⟨j0,k0,_⟩,_⟩,_⟩,_⟩⟩ =>
 bif decide (List.length f0=List.length f0) then
 Option.bind (p23 fu ((f0,h0,(i0,(j0,k0,()),()),()),())) fun ⟨⟨⟨_,_,⟨_,⟨_,_,_⟩,_⟩,_⟩,_,_⟩,w3⟩ =>
 bif (w3 != (0:Int)) then
 some ((),([],w3,()))
 else
 bif decide (List.length l0=List.length l0) then
 some ((),(l0,(0:Int),()))
 else none
 else none
else none
def e7 (fu:Nat):Ent := ⟨7,(.cons Y12 .nil),.nil,(.tup 2 (.cons (.own .own 44 T_beats_Wire_n) (.cons (.hole (.int .i64)) .nil))),p7 fu⟩
theorem g7 (fu:Nat):(e7 fu).Good Tryd.prog := good_fx orders Tryd.func7 fu [(14,(.ent (e15 fu))),(20,(.ent (e15 fu))),(34,(.ent (e16 fu))),(37,(.ent (e17 fu))),(42,(.ent (e18_1 fu))),(48,(.ent (e19_1 fu))),(56,(.ent (e20 fu))),(60,(.ent (e21 fu))),(64,(.ent (e22 fu))),(84,(.ty T_beats_Wire_n)),(85,(.ty T_beats_Wire_n)),(90,(.ent (e23 fu)))] [(1,⟨[],.nil,[],.nil,[1],[0]⟩),(6,⟨[],.nil,[(80,79,3)],(.cons Y3 .nil),[1,4,5],[0]⟩),(9,⟨[6],(.cons (.own .own 44 T_beats_Wire_n) .nil),[(80,79,3)],(.cons Y3 .nil),[4],[]⟩),(11,⟨[6,48],(.cons (.own .own 44 T_beats_Wire_n) (.cons (.hole (.int .i64)) .nil)),[(80,79,3)],(.cons Y3 .nil),[1,4,47],[0]⟩),(16,⟨[],.nil,[(80,79,3),(275,44,15)],(.cons Y3 (.cons Y13 .nil)),[1,4,6,7,47,48],[0,209]⟩)] rs7 88 (l := [e15 fu,e15 fu,e16 fu,e17 fu,e18_1 fu,e19_1 fu,e20 fu,e21 fu,e22 fu,e23 fu]) ⟨g15 fu,g15 fu,g16 fu,g17 fu,g18_1 fu,g19_1 fu,g20 fu,g21 fu,g22 fu,g23 fu,trivial⟩
def rs24:List RVx := [(.tmp 2)]
def p24 (_:Nat):(Int)×(Unit)→Option ((Unit)×(Bool)) := fun ⟨a,_⟩ =>
bif decide (a≥(1:Int)) then
 some ((),decide (a≤(7:Int)))
else
 some ((),false)
def e24 (fu:Nat):Ent := ⟨24,(.cons (.hole (.int .i64)) .nil),.nil,(.hole .bool),p24 fu⟩
theorem g24 (fu:Nat):(e24 fu).Good Tryd.prog := good_fx orders Tryd.func24 fu [] [] rs24 9 (l := []) trivial
def rs46:List RVx := []
def p46 (_:Nat):((List (Int))×((Int)×((Int)×((Int)×(Unit)))))×((Int)×((Int)×(Unit)))→Option ((((List (Int))×((Int)×((Int)×((Int)×(Unit)))))×(Unit))×(Unit)) := fun ⟨⟨a,c,f,h,_⟩,i,j,_⟩ =>
orK (E := ((Bool)×(Unit))×(Unit))
 (bif (f==(0:Int)) then
 some (.inl (((i != (0:Int)),()),()))
 else
 some (.inl ((false,()),())))
 fun ⟨⟨k,_⟩,_⟩ =>
bif k then
 some (((a,j,i,j,()),()),())
else
 some (((a,c,f,h,()),()),())
def e46 (fu:Nat):Ent := ⟨46,(.cons Y14 (.cons (.hole (.int .i64)) (.cons (.hole (.int .i64)) .nil))),(.cons Y15 .nil),(.tup 0 .nil),p46 fu⟩
theorem g46 (fu:Nat):(e46 fu).Good Tryd.prog := good_fx orders Tryd.func46 fu [] [(0,⟨[14],(.cons (.hole .bool) .nil),[],.nil,[0,1,2],[0]⟩)] rs46 27 (l := []) trivial
def rs45:List RVx := [(.tmp 2)]
def p45 (fu:Nat):((List (Int))×((Int)×((Int)×((Int)×(Unit)))))×(Unit)→Option ((((List (Int))×((Int)×((Int)×((Int)×(Unit)))))×(Unit))×(Int)) := fun ⟨⟨a,c,f,h,_⟩,_⟩ =>
bif (f != (0:Int)) then
 some (((a,c,f,h,()),()),(0:Int))
else
 loopO (S := ((Int)×((Int)×(Unit)))×(Unit)) fu (fun ⟨⟨i,j,_⟩,_⟩ =>
 bif decide ((IntKind.wrap .i64 (c+j))≥(List.length a:Int)) then
 Option.bind (p46 fu ((a,c,f,h,()),(11:Int),c,())) fun ⟨⟨⟨k,l,m,n,_⟩,_⟩,_⟩ =>
 inrO (some (((k,l,m,n,()),()),(0:Int)))
 else
 bif decide ((0:Int)≤IntKind.wrap .i64 (c+j)∧IntKind.wrap .i64 (c+j)<(List.length a:Int)) then
 bif decide (Int.toNat (IntKind.wrap .i64 (c+j))<List.length a) then
 orK (E := ((Bool)×(Unit))×(Unit))
 (bif (j==(9:Int)) then
 some (.inl ((((List.getD a (Int.toNat (IntKind.wrap .i64 (c+j))) (dflt (.int .u8))) != (1:Int)),()),()))
 else
 some (.inl ((false,()),())))
 fun ⟨⟨o,_⟩,_⟩ =>
 bif o then
 Option.bind (p46 fu ((a,c,f,h,()),(12:Int),c,())) fun ⟨⟨⟨q,s,t,u,_⟩,_⟩,_⟩ =>
 inrO (some (((q,s,t,u,()),()),(0:Int)))
 else
 bif decide ((0:Int)≤(IntKind.wrap .i64 ((7:Int) * j))) then
 bif decide ((List.getD a (Int.toNat (IntKind.wrap .i64 (c+j))) (dflt (.int .u8)))<(128:Int)) then
 orK (E := ((Bool)×(Unit))×(Unit))
 (bif ((List.getD a (Int.toNat (IntKind.wrap .i64 (c+j))) (dflt (.int .u8)))==(0:Int)) then
 some (.inl ((decide (j>(0:Int)),()),()))
 else
 some (.inl ((false,()),())))
 fun ⟨⟨w,_⟩,_⟩ =>
 bif w then
 Option.bind (p46 fu ((a,c,f,h,()),(12:Int),c,())) fun ⟨⟨⟨x,y,z,a0,_⟩,_⟩,_⟩ =>
 inrO (some (((x,y,z,a0,()),()),(0:Int)))
 else
 inrO (some (((a,IntKind.wrap .i64 ((IntKind.wrap .i64 (c+j))+(1:Int)),f,h,()),()),IntKind.wrap .u64 (i+(IntKind.wrap .u64 ((IntKind.wrap .u64 (IntKind.wrap .u8 ((BitVec.ofInt (IntKind.bits .u8) (List.getD a (Int.toNat (IntKind.wrap .i64 (c+j))) (dflt (.int .u8))) &&& BitVec.ofInt (IntKind.bits .u8) (127:Int)).toNat:Int))) * 2 ^ (min (Int.toNat (IntKind.wrap .i64 ((7:Int) * j))) (IntKind.bits .u64)))))))
 else
 some (.inl ((IntKind.wrap .u64 (i+(IntKind.wrap .u64 ((IntKind.wrap .u64 (IntKind.wrap .u8 ((BitVec.ofInt (IntKind.bits .u8) (List.getD a (Int.toNat (IntKind.wrap .i64 (c+j))) (dflt (.int .u8))) &&& BitVec.ofInt (IntKind.bits .u8) (127:Int)).toNat:Int))) * 2 ^ (min (Int.toNat (IntKind.wrap .i64 ((7:Int) * j))) (IntKind.bits .u64))))),IntKind.wrap .i64 (j+(1:Int)),()),()))
 else none
 else none
 else none)
 (((0:Int),(0:Int),()),())
def e45 (fu:Nat):Ent := ⟨45,(.cons Y14 .nil),(.cons Y15 .nil),(.hole (.int .u64)),p45 fu⟩
theorem g45 (fu:Nat):(e45 fu).Good Tryd.prog := good_fx orders Tryd.func45 fu [(26,(.ent (e46 fu))),(52,(.ent (e46 fu))),(76,(.ent (e46 fu)))] [(6,⟨[3,4],(.cons (.hole (.int .u64)) (.cons (.hole (.int .i64)) .nil)),[],.nil,[0],[0]⟩),(14,⟨[48],(.cons (.hole .bool) .nil),[],.nil,[0,3,4,5],[0]⟩),(20,⟨[70],(.cons (.hole .bool) .nil),[],.nil,[0,3,4],[0]⟩)] rs45 88 (l := [e46 fu,e46 fu,e46 fu]) ⟨g46 fu,g46 fu,g46 fu,trivial⟩
def rs25:List RVx := [(.tmp 4)]
def p25 (fu:Nat):((List (Int))×((Int)×((Int)×((Int)×(Unit)))))×((Int)×(Unit))→Option ((((List (Int))×((Int)×((Int)×((Int)×(Unit)))))×(Unit))×(Int)) := fun ⟨⟨a,c,f,h,_⟩,i,_⟩ =>
Option.bind (p45 fu ((a,c,f,h,()),())) fun ⟨⟨⟨j,k,l,m,_⟩,_⟩,n⟩ =>
bif (l != (0:Int)) then
 some (((j,k,l,m,()),()),(0:Int))
else
 orK (E := ((Bool)×(Unit))×(Unit))
 (bif decide (i<(0:Int)) then
 some (.inl ((true,()),()))
 else
 some (.inl ((decide (n>(IntKind.wrap .u64 i)),()),())))
 fun ⟨⟨o,_⟩,_⟩ =>
 bif o then
 Option.bind (p46 fu ((j,k,l,m,()),(13:Int),c,())) fun ⟨⟨⟨q,s,t,u,_⟩,_⟩,_⟩ =>
 some (((q,s,t,u,()),()),(0:Int))
 else
 bif decide (n>(IntKind.wrap .u64 (IntKind.wrap .i64 ((List.length j:Int)-k)))) then
 Option.bind (p46 fu ((j,k,l,m,()),(11:Int),c,())) fun ⟨⟨⟨w,x,y,z,_⟩,_⟩,_⟩ =>
 some (((w,x,y,z,()),()),(0:Int))
 else
 some (((j,k,l,m,()),()),IntKind.wrap .i64 n)
def e25 (fu:Nat):Ent := ⟨25,(.cons Y14 (.cons (.hole (.int .i64)) .nil)),(.cons Y15 .nil),(.hole (.int .i64)),p25 fu⟩
theorem g25 (fu:Nat):(e25 fu).Good Tryd.prog := good_fx orders Tryd.func25 fu [(7,(.ent (e45 fu))),(25,(.ent (e46 fu))),(42,(.ent (e46 fu)))] [(7,⟨[25],(.cons (.hole .bool) .nil),[],.nil,[0,5,6],[0]⟩)] rs25 47 (l := [e45 fu,e46 fu,e46 fu]) ⟨g45 fu,g46 fu,g46 fu,trivial⟩
def rs26:List RVx := []
def p26 (fu:Nat):((List (Int))×((Int)×((Int)×((Int)×(Unit)))))×((Int)×(Unit))→Option ((((List (Int))×((Int)×((Int)×((Int)×(Unit)))))×(Unit))×(Unit)) := fun ⟨⟨a,c,f,h,_⟩,i,_⟩ =>
Option.bind (p46 fu ((a,c,f,h,()),i,c,())) fun ⟨⟨⟨j,k,l,m,_⟩,_⟩,_⟩ =>
some (((j,k,l,m,()),()),())
def e26 (fu:Nat):Ent := ⟨26,(.cons Y14 (.cons (.hole (.int .i64)) .nil)),(.cons Y15 .nil),(.tup 0 .nil),p26 fu⟩
theorem g26 (fu:Nat):(e26 fu).Good Tryd.prog := good_fx orders Tryd.func26 fu [(6,(.ent (e46 fu)))] [] rs26 11 (l := [e46 fu]) ⟨g46 fu,trivial⟩
def rs47:List RVx := [(.tmp 2)]
def p47 (fu:Nat):((List (Int))×((Int)×((Int)×((Int)×(Unit)))))×(Unit)→Option ((((List (Int))×((Int)×((Int)×((Int)×(Unit)))))×(Unit))×(Bool)) := fun ⟨⟨a,c,f,h,_⟩,_⟩ =>
bif (f != (0:Int)) then
 some (((a,c,f,h,()),()),false)
else
 bif decide (c≥(List.length a:Int)) then
 Option.bind (p46 fu ((a,c,f,h,()),(11:Int),c,())) fun ⟨⟨⟨i,j,k,l,_⟩,_⟩,_⟩ =>
 some (((i,j,k,l,()),()),false)
 else
 bif decide ((0:Int)≤c∧c<(List.length a:Int)) then
 bif decide (Int.toNat c<List.length a) then
 bif decide ((List.getD a (Int.toNat c) (dflt (.int .u8)))>(1:Int)) then
 Option.bind (p46 fu ((a,c,f,h,()),(16:Int),c,())) fun ⟨⟨⟨m,n,o,q,_⟩,_⟩,_⟩ =>
 some (((m,n,o,q,()),()),false)
 else
 bif decide ((0:Int)≤IntKind.wrap .i64 ((IntKind.wrap .i64 (c+(1:Int)))-(1:Int))∧IntKind.wrap .i64 ((IntKind.wrap .i64 (c+(1:Int)))-(1:Int))<(List.length a:Int)) then
 bif decide (Int.toNat (IntKind.wrap .i64 ((IntKind.wrap .i64 (c+(1:Int)))-(1:Int)))<List.length a) then
 some (((a,IntKind.wrap .i64 (c+(1:Int)),f,h,()),()),((List.getD a (Int.toNat (IntKind.wrap .i64 ((IntKind.wrap .i64 (c+(1:Int)))-(1:Int)))) (dflt (.int .u8)))==(1:Int)))
 else none
 else none
 else none
 else none
def e47 (fu:Nat):Ent := ⟨47,(.cons Y14 .nil),(.cons Y15 .nil),(.hole .bool),p47 fu⟩
theorem g47 (fu:Nat):(e47 fu).Good Tryd.prog := good_fx orders Tryd.func47 fu [(22,(.ent (e46 fu))),(40,(.ent (e46 fu)))] [] rs47 60 (l := [e46 fu,e46 fu]) ⟨g46 fu,g46 fu,trivial⟩
def rs48:List RVx := [(.tmp 2)]
def p48 (fu:Nat):((List (Int))×((Int)×((Int)×((Int)×(Unit)))))×(Unit)→Option ((((List (Int))×((Int)×((Int)×((Int)×(Unit)))))×(Unit))×(Int)) := fun ⟨⟨a,c,f,h,_⟩,_⟩ =>
Option.bind (p45 fu ((a,c,f,h,()),())) fun ⟨⟨⟨i,j,k,l,_⟩,_⟩,m⟩ =>
bif ((Int.tmod m (2:Int))==(1:Int)) then
 some (((i,j,k,l,()),()),IntKind.wrap .i64 ((IntKind.wrap .i64 (0-(IntKind.wrap .i64 (IntKind.wrap .u64 (Int.tdiv m (2:Int))))))-(1:Int)))
else
 some (((i,j,k,l,()),()),IntKind.wrap .i64 (IntKind.wrap .u64 (Int.tdiv m (2:Int))))
def e48 (fu:Nat):Ent := ⟨48,(.cons Y14 .nil),(.cons Y15 .nil),(.hole (.int .i64)),p48 fu⟩
theorem g48 (fu:Nat):(e48 fu).Good Tryd.prog := good_fx orders Tryd.func48 fu [(2,(.ent (e45 fu)))] [] rs48 17 (l := [e45 fu]) ⟨g45 fu,trivial⟩
def rs51:List RVx := [(.tmp 4)]
def p51 (fu:Nat):((List (Int))×((Int)×((Int)×((Int)×(Unit)))))×((Int)×(Unit))→Option ((((List (Int))×((Int)×((Int)×((Int)×(Unit)))))×(Unit))×(List (Int))) := fun ⟨⟨a,c,f,h,_⟩,i,_⟩ =>
Option.bind (p25 fu ((a,c,f,h,()),i,())) fun ⟨⟨⟨j,k,l,m,_⟩,_⟩,n⟩ =>
bif (l != (0:Int)) then
 some (((j,k,l,m,()),()),[])
else
 bif decide ((0:Int)≤IntKind.wrap .i64 ((IntKind.wrap .i64 (k+n))-n)) then
 bif decide ((0:Int)≤IntKind.wrap .i64 (k+n)) then
 bif decide (Int.toNat (IntKind.wrap .i64 ((IntKind.wrap .i64 (k+n))-n))≤Int.toNat (IntKind.wrap .i64 (k+n))∧Int.toNat (IntKind.wrap .i64 (k+n))≤List.length j) then
 bif decide (0=List.length ([]:List (Int))) then
 bif decide (List.length ([]:List (Int))+List.length (slice' j (Int.toNat (IntKind.wrap .i64 ((IntKind.wrap .i64 (k+n))-n))) (some (Int.toNat (IntKind.wrap .i64 (k+n)))))≤maxLen∧(List.length ([]:List (Int))+List.length (slice' j (Int.toNat (IntKind.wrap .i64 ((IntKind.wrap .i64 (k+n))-n))) (some (Int.toNat (IntKind.wrap .i64 (k+n)))))) * 1≤140737488355328) then
 bif decide (List.length (([]:List (Int)) ++ slice' j (Int.toNat (IntKind.wrap .i64 ((IntKind.wrap .i64 (k+n))-n))) (some (Int.toNat (IntKind.wrap .i64 (k+n)))))=List.length (([]:List (Int)) ++ slice' j (Int.toNat (IntKind.wrap .i64 ((IntKind.wrap .i64 (k+n))-n))) (some (Int.toNat (IntKind.wrap .i64 (k+n)))))) then
 some (((j,IntKind.wrap .i64 (k+n),l,m,()),()),(([]:List (Int)) ++ slice' j (Int.toNat (IntKind.wrap .i64 ((IntKind.wrap .i64 (k+n))-n))) (some (Int.toNat (IntKind.wrap .i64 (k+n))))))
 else none
 else none
 else none
 else none
 else none
 else none
def e51 (fu:Nat):Ent := ⟨51,(.cons Y14 (.cons (.hole (.int .i64)) .nil)),(.cons Y15 .nil),(.own .own 5 (.int .u8)),p51 fu⟩
theorem g51 (fu:Nat):(e51 fu).Good Tryd.prog := good_fx orders Tryd.func51 fu [(3,(.ent (e25 fu))),(21,(.ty (.int .u8))),(37,(.ty (.int .u8)))] [] rs51 40 (l := [e25 fu]) ⟨g25 fu,trivial⟩
def rs67:List RVx := [(.tmp 2)]
def p67 (fu:Nat):((List (Int))×((Int)×((Int)×((Int)×(Unit)))))×(Unit)→Option ((((List (Int))×((Int)×((Int)×((Int)×(Unit)))))×(Unit))×(List (Int))) := fun ⟨⟨a,c,f,h,_⟩,_⟩ =>
Option.bind (p25 fu ((a,c,f,h,()),(7:Int),())) fun ⟨⟨⟨i,j,k,l,_⟩,_⟩,m⟩ =>
orK (E := ((List (Int))×(Unit))×(((List (Int))×((Int)×((Int)×((Int)×(Unit)))))×(Unit)))
 (loopO (S := ((List (Int))×((Int)×(Unit)))×(((List (Int))×((Int)×((Int)×((Int)×(Unit)))))×(Unit))) fu (fun ⟨⟨n,o,_⟩,⟨⟨q,s,t,u,_⟩,_⟩⟩ =>
 bif decide (o<m) then
 bif (t==(0:Int)) then
 Option.bind (p48 fu ((q,s,t,u,()),())) fun ⟨⟨⟨w,x,y,z,_⟩,_⟩,a0⟩ =>
 bif decide (List.length n=List.length n) then
 bif decide (List.length n+List.length ([a0])≤maxLen∧(List.length n+List.length ([a0])) * 8≤140737488355328) then
 bif decide (List.length (n ++ [a0])=List.length (n ++ [a0])) then
 some (.inl (((n ++ [a0]),IntKind.wrap .i64 (o+(1:Int)),()),((w,x,y,z,()),())))
 else none
 else none
 else none
 else
 inrO (bif decide (List.length n=List.length n) then
 some (.inl ((n,()),((q,s,t,u,()),())))
 else none)
 else
 inrO (bif decide (List.length n=List.length n) then
 some (.inl ((n,()),((q,s,t,u,()),())))
 else none))
 (([],(0:Int),()),((i,j,k,l,()),())))
 fun ⟨⟨n,_⟩,⟨⟨q,s,t,u,_⟩,_⟩⟩ =>
bif (t != (0:Int)) then
 some (((q,s,t,u,()),()),[])
else
 bif decide (List.length n=List.length n) then
 some (((q,s,t,u,()),()),n)
 else none
def e67 (fu:Nat):Ent := ⟨67,(.cons Y14 .nil),(.cons Y15 .nil),(.own .own 3 (.int .i64)),p67 fu⟩
theorem g67 (fu:Nat):(e67 fu).Good Tryd.prog := good_fx orders Tryd.func67 fu [(2,(.ent (e25 fu))),(18,(.ent (e48 fu))),(19,(.ty (.int .i64))),(20,(.ty (.int .i64)))] [(3,⟨[4],(.cons (.own .own 3 (.int .i64)) .nil),[(0,66,4)],(.cons Y15 .nil),[0],[]⟩),(5,⟨[4,5],(.cons (.own .own 3 (.int .i64)) (.cons (.hole (.int .i64)) .nil)),[(0,66,4)],(.cons Y15 .nil),[0,3],[]⟩)] rs67 31 (l := [e25 fu,e48 fu]) ⟨g25 fu,g48 fu,trivial⟩
def rs50:List RVx := [(.cell 2 true 2)]
def p50 (fu:Nat):((List (Int))×((Int)×((Int)×((Int)×(Unit)))))×(Unit)→Option ((((List (Int))×((Int)×((Int)×((Int)×(Unit)))))×(Unit))×((List (Int))×((List (Int))×(Unit)))) := fun ⟨⟨a,c,f,h,_⟩,_⟩ =>
Option.bind (p67 fu ((a,c,f,h,()),())) fun ⟨⟨⟨i,j,k,l,_⟩,_⟩,m⟩ =>
Option.bind (p67 fu ((i,j,k,l,()),())) fun ⟨⟨⟨n,o,q,s,_⟩,_⟩,t⟩ =>
bif (q != (0:Int)) then
 some (((n,o,q,s,()),()),([],[],()))
else
 bif decide (List.length m=List.length m) then
 bif decide (List.length t=List.length t) then
 some (((n,o,q,s,()),()),(m,t,()))
 else none
 else none
def e50 (fu:Nat):Ent := ⟨50,(.cons Y14 .nil),(.cons Y15 .nil),(.agg 2 (.cons (.own .own 3 (.int .i64)) (.cons (.own .own 3 (.int .i64)) .nil))),p50 fu⟩
theorem g50 (fu:Nat):(e50 fu).Good Tryd.prog := good_fx orders Tryd.func50 fu [(2,(.ent (e67 fu))),(7,(.ent (e67 fu)))] [] rs50 17 (l := [e67 fu,e67 fu]) ⟨g67 fu,g67 fu,trivial⟩
def rs49:List RVx := [(.cell 2 true 6)]
def p49 (fu:Nat):((List (Int))×((Int)×((Int)×((Int)×(Unit)))))×(Unit)→Option ((((List (Int))×((Int)×((Int)×((Int)×(Unit)))))×(Unit))×((Int)×((Int)×((Int)×((List (Int))×((List (Int))×((List (Int))×(Unit)))))))) := fun ⟨⟨a,c,f,h,_⟩,_⟩ =>
Option.bind (p45 fu ((a,c,f,h,()),())) fun ⟨⟨⟨i,j,k,l,_⟩,_⟩,m⟩ =>
Option.bind (p45 fu ((i,j,k,l,()),())) fun ⟨⟨⟨n,o,q,s,_⟩,_⟩,t⟩ =>
Option.bind (p48 fu ((n,o,q,s,()),())) fun ⟨⟨⟨u,w,x,y,_⟩,_⟩,z⟩ =>
orK (E := (Unit)×(((List (Int))×((Int)×((Int)×((Int)×(Unit)))))×(Unit)))
 (orK (E := ((Bool)×(Unit))×(Unit))
 (bif decide (z<(1:Int)) then
 some (.inl ((true,()),()))
 else
 some (.inl ((decide (z>(3:Int)),()),())))
 fun ⟨⟨a0,_⟩,_⟩ =>
 bif a0 then
 Option.bind (p46 fu ((u,w,x,y,()),(16:Int),o,())) fun ⟨⟨⟨c0,f0,h0,i0,_⟩,_⟩,_⟩ =>
 some (.inl ((),((c0,f0,h0,i0,()),())))
 else
 some (.inl ((),((u,w,x,y,()),()))))
 fun ⟨_,⟨⟨j0,k0,l0,m0,_⟩,_⟩⟩ =>
Option.bind (p51 fu ((j0,k0,l0,m0,()),(262144:Int),())) fun ⟨⟨⟨n0,o0,q0,s0,_⟩,_⟩,t0⟩ =>
Option.bind (p50 fu ((n0,o0,q0,s0,()),())) fun ⟨⟨⟨u0,w0,x0,y0,_⟩,_⟩,⟨z0,a1,_⟩⟩ =>
bif (x0 != (0:Int)) then
 some (((u0,w0,x0,y0,()),()),((0:Int),(0:Int),(0:Int),[],[],[],()))
else
 bif decide (List.length t0=List.length t0) then
 bif decide (List.length z0=List.length z0) then
 bif decide (List.length a1=List.length a1) then
 some (((u0,w0,x0,y0,()),()),(m,t,z,t0,z0,a1,()))
 else none
 else none
 else none
def e49 (fu:Nat):Ent := ⟨49,(.cons Y14 .nil),(.cons Y15 .nil),Y10,p49 fu⟩
theorem g49 (fu:Nat):(e49 fu).Good Tryd.prog := good_fx orders Tryd.func49 fu [(2,(.ent (e45 fu))),(7,(.ent (e45 fu))),(16,(.ent (e48 fu))),(29,(.ent (e46 fu))),(31,(.ent (e51 fu))),(35,(.ent (e50 fu)))] [(5,⟨[],.nil,[(0,66,4)],(.cons Y15 .nil),[0,2,3],[2,66]⟩),(6,⟨[25],(.cons (.hole .bool) .nil),[],.nil,[0,2,3,4],[0,2,66]⟩)] rs49 42 (l := [e45 fu,e45 fu,e48 fu,e46 fu,e51 fu,e50 fu]) ⟨g45 fu,g45 fu,g48 fu,g46 fu,g51 fu,g50 fu,trivial⟩
def rs27:List RVx := [(.cell 4 true 15)]
def p27 (fu:Nat):((List (Int))×((Int)×((Int)×((Int)×(Unit)))))×((Int)×(Unit))→Option ((((List (Int))×((Int)×((Int)×((Int)×(Unit)))))×(Unit))×((Int)×((Int)×((Int)×((Int)×((Int)×((Int)×((Int)×((List (D_api_Entry))×((Int)×((Bool)×((Int)×((List (Int))×((List (Int))×((List (Int))×((Bool)×(Unit))))))))))))))))) := fun ⟨⟨a,c,f,h,_⟩,i,_⟩ =>
Option.bind (p45 fu ((a,c,f,h,()),())) fun ⟨⟨⟨j,k,l,m,_⟩,_⟩,n⟩ =>
bif (i==(2:Int)) then
 Option.bind (p47 fu ((j,k,l,m,()),())) fun ⟨⟨⟨o,q,s,t,_⟩,_⟩,u⟩ =>
 orK (E := (Unit)×((Z1)×(Unit)))
 (bif u then
 some (.inl ((),((n,(6:Int),(0:Int),(0:Int),(0:Int),(0:Int),(0:Int),(),(0:Int),false,(0:Int),(),(),(),false,()),())))
 else
 some (.inl ((),((n,(5:Int),(0:Int),(0:Int),(0:Int),(0:Int),(0:Int),(),(0:Int),false,(0:Int),(),(),(),false,()),()))))
 fun ⟨_,⟨⟨w,x,y,z,_,_,a0,_,c0,f0,h0,_,_,_,i0,_⟩,_⟩⟩ =>
 Option.bind (p45 fu ((o,q,s,t,()),())) fun ⟨⟨⟨j0,k0,l0,m0,_⟩,_⟩,n0⟩ =>
 Option.bind (p45 fu ((j0,k0,l0,m0,()),())) fun ⟨⟨⟨o0,q0,s0,t0,_⟩,_⟩,u0⟩ =>
 bif !u then
 Option.bind (p45 fu ((o0,q0,s0,t0,()),())) fun ⟨⟨⟨w0,x0,y0,z0,_⟩,_⟩,a1⟩ =>
 Option.bind (p45 fu ((w0,x0,y0,z0,()),())) fun ⟨⟨⟨c1,f1,h1,i1,_⟩,_⟩,j1⟩ =>
 some (((c1,f1,h1,i1,()),()),(w,x,y,z,n0,u0,a1,[],j1,f0,h0,[],[],[],i0,()))
 else
 some (((o0,q0,s0,t0,()),()),(w,x,y,z,n0,u0,a0,[],c0,f0,h0,[],[],[],i0,()))
else
 Option.bind (p48 fu ((j,k,l,m,()),())) fun ⟨⟨⟨k1,l1,m1,n1,_⟩,_⟩,o1⟩ =>
 Option.bind (p45 fu ((k1,l1,m1,n1,()),())) fun ⟨⟨⟨q1,s1,t1,u1,_⟩,_⟩,w1⟩ =>
 Option.bind (p45 fu ((q1,s1,t1,u1,()),())) fun ⟨⟨⟨x1,y1,z1,a2,_⟩,_⟩,c2⟩ =>
 Option.bind (p45 fu ((x1,y1,z1,a2,()),())) fun ⟨⟨⟨f2,h2,i2,j2,_⟩,_⟩,k2⟩ =>
 Option.bind (p25 fu ((f2,h2,i2,j2,()),(8:Int),())) fun ⟨⟨⟨l2,m2,n2,o2,_⟩,_⟩,q2⟩ =>
 loopO (S := ((Int)×(Unit))×(((List (Int))×((Int)×((Int)×((Int)×(Unit)))))×((Z2)×(Unit)))) fu (fun ⟨⟨s2,_⟩,⟨⟨t2,u2,w2,x2,_⟩,⟨w,x,y,z,y2,z2,a0,c0,f0,h0,i0,_,_,_,a3,_⟩,_⟩⟩ =>
 bif decide (s2<q2) then
 Option.bind (p49 fu ((t2,u2,w2,x2,()),())) fun ⟨⟨⟨c3,f3,h3,i3,_⟩,_⟩,⟨j3,k3,l3,m3,n3,o3,_⟩⟩ =>
 bif decide (List.length m3=List.length m3) then
 bif decide (List.length n3=List.length n3) then
 bif decide (List.length o3=List.length o3) then
 bif decide (List.length c0=List.length c0) then
 bif decide (List.length c0+List.length ([(j3,k3,l3,m3,n3,o3)])≤maxLen∧(List.length c0+List.length ([(j3,k3,l3,m3,n3,o3)])) * 96≤140737488355328) then
 bif decide (List.length (c0 ++ [(j3,k3,l3,m3,n3,o3)])=List.length (c0 ++ [(j3,k3,l3,m3,n3,o3)])) then
 some (.inl ((IntKind.wrap .i64 (s2+(1:Int)),()),((c3,f3,h3,i3,()),(w,x,y,z,y2,z2,a0,(c0 ++ [(j3,k3,l3,m3,n3,o3)]),f0,h0,i0,(),(),(),a3,()),())))
 else none
 else none
 else none
 else none
 else none
 else none
 else
 inrO (Option.bind (p45 fu ((t2,u2,w2,x2,()),())) fun ⟨⟨⟨q3,s3,t3,u3,_⟩,_⟩,w3⟩ =>
 Option.bind (p47 fu ((q3,s3,t3,u3,()),())) fun ⟨⟨⟨x3,y3,z3,a4,_⟩,_⟩,c4⟩ =>
 Option.bind (p45 fu ((x3,y3,z3,a4,()),())) fun ⟨⟨⟨f4,h4,i4,j4,_⟩,_⟩,k4⟩ =>
 Option.bind (p50 fu ((f4,h4,i4,j4,()),())) fun ⟨⟨⟨l4,m4,n4,o4,_⟩,_⟩,⟨q4,s4,_⟩⟩ =>
 Option.bind (p51 fu ((l4,m4,n4,o4,()),(262144:Int),())) fun ⟨⟨⟨t4,u4,w4,x4,_⟩,_⟩,y4⟩ =>
 Option.bind (p47 fu ((t4,u4,w4,x4,()),())) fun ⟨⟨⟨z4,a5,c5,f5,_⟩,_⟩,h5⟩ =>
 bif decide (List.length c0=List.length c0) then
 bif decide (List.length q4=List.length q4) then
 bif decide (List.length s4=List.length s4) then
 bif decide (List.length y4=List.length y4) then
 some (((z4,a5,c5,f5,()),()),(w,x,y,z,y2,z2,a0,c0,w3,c4,k4,q4,s4,y4,h5,()))
 else none
 else none
 else none
 else none))
 (((0:Int),()),((l2,m2,n2,o2,()),(n,o1,(0:Int),(0:Int),w1,c2,k2,[],(0:Int),false,(0:Int),(),(),(),false,()),()))
def e27 (fu:Nat):Ent := ⟨27,(.cons Y14 (.cons (.hole (.int .i64)) .nil)),(.cons Y15 .nil),Y16,p27 fu⟩
theorem g27 (fu:Nat):(e27 fu).Good Tryd.prog := good_fx orders Tryd.func27 fu [(2,(.ent (e45 fu))),(9,(.ent (e47 fu))),(19,(.ent (e45 fu))),(24,(.ent (e45 fu))),(31,(.ent (e45 fu))),(36,(.ent (e45 fu))),(43,(.ent (e48 fu))),(48,(.ent (e45 fu))),(53,(.ent (e45 fu))),(58,(.ent (e45 fu))),(63,(.ent (e25 fu))),(73,(.ent (e49 fu))),(74,(.ty T_api_Entry_n)),(75,(.ty T_api_Entry_n)),(83,(.ent (e45 fu))),(88,(.ent (e47 fu))),(93,(.ent (e45 fu))),(98,(.ent (e50 fu))),(103,(.ent (e51 fu))),(108,(.ent (e47 fu)))] [(6,⟨[],.nil,[(66,51,15)],(.cons Y17 .nil),[0,4,5,6],[0,2]⟩),(21,⟨[8],(.cons (.hole (.int .i64)) .nil),[(0,66,4),(66,51,15)],(.cons Y15 (.cons Y18 .nil)),[0,4,5,7],[2]⟩)] rs27 97 (l := [e45 fu,e47 fu,e45 fu,e45 fu,e45 fu,e45 fu,e48 fu,e45 fu,e45 fu,e45 fu,e25 fu,e49 fu,e45 fu,e47 fu,e45 fu,e50 fu,e51 fu,e47 fu]) ⟨g45 fu,g47 fu,g45 fu,g45 fu,g45 fu,g45 fu,g48 fu,g45 fu,g45 fu,g45 fu,g25 fu,g49 fu,g45 fu,g47 fu,g45 fu,g50 fu,g51 fu,g47 fu,trivial⟩
def rs34:List RVx := [(.tmp 2)]
def p34 (_:Nat):(Z7)×(Unit)→Option ((Unit)×(Bool)) := fun ⟨⟨_,_,_,_,_,_,a,_,c,f,h,i,j,k,_⟩,_⟩ =>
bif ((List.length a:Int)==(0:Int)) then
 bif !c then
 bif (f==(0:Int)) then
 bif ((IntKind.wrap .i64 ((List.length h:Int)+(List.length i:Int)))==(0:Int)) then
 bif ((List.length j:Int)==(0:Int)) then
 some ((),!k)
 else
 some ((),false)
 else
 some ((),false)
 else
 some ((),false)
 else
 some ((),false)
else
 some ((),false)
def e34 (fu:Nat):Ent := ⟨34,(.cons Y8 .nil),.nil,(.hole .bool),p34 fu⟩
theorem g34 (fu:Nat):(e34 fu).Good Tryd.prog := good_fx orders Tryd.func34 fu [] [] rs34 40 (l := []) trivial
def rs13:List RVx := [(.tmp 2)]
def p13 (fu:Nat):(Z7)×(Unit)→Option ((Unit)×(Bool)) := fun ⟨⟨a,c,f,h,i,j,k,l,m,n,o,q,s,t,_⟩,_⟩ =>
Option.bind (p34 fu ((a,c,f,h,i,j,k,l,m,n,o,q,s,t,()),())) fun ⟨_,u⟩ =>
bif u then
 bif (a==(5:Int)) then
 some ((),true)
 else
 bif (a==(6:Int)) then
 bif (j==(0:Int)) then
 some ((),(l==(0:Int)))
 else
 some ((),false)
 else
 some ((),false)
else
 some ((),false)
def e13 (fu:Nat):Ent := ⟨13,(.cons Y8 .nil),.nil,(.hole .bool),p13 fu⟩
theorem g13 (fu:Nat):(e13 fu).Good Tryd.prog := good_fx orders Tryd.func13 fu [(3,(.ent (e34 fu)))] [] rs13 27 (l := [e34 fu]) ⟨g34 fu,trivial⟩
def rs28:List RVx := [(.tmp 2)]
def p28 (_:Nat):(Int)×(Unit)→Option ((Unit)×(Bool)) := fun ⟨a,_⟩ =>
bif decide (a≥(1:Int)) then
 some ((),decide (a≤(9:Int)))
else
 some ((),false)
def e28 (fu:Nat):Ent := ⟨28,(.cons (.hole (.int .i64)) .nil),.nil,(.hole .bool),p28 fu⟩
theorem g28 (fu:Nat):(e28 fu).Good Tryd.prog := good_fx orders Tryd.func28 fu [] [] rs28 9 (l := []) trivial
def rs29:List RVx := [(.tmp 2)]
def p29 (_:Nat):((List (Int))×((Int)×((Int)×((Int)×(Unit)))))×(Unit)→Option ((Unit)×(Int)) := fun ⟨⟨a,c,f,_,_⟩,_⟩ =>
orK (E := (Unit)×(Unit))
 (bif (f==(0:Int)) then
 bif decide (c<(List.length a:Int)) then
 inrO (some ((),(15:Int)))
 else
 some (.inl ((),()))
 else
 some (.inl ((),())))
 fun ⟨_,_⟩ =>
some ((),f)
def e29 (fu:Nat):Ent := ⟨29,(.cons (.look (.cons (.hole (.sl .any (.int .u8))) (.cons (.hole (.int .i64)) (.cons (.hole (.int .i64)) (.cons (.hole (.int .i64)) .nil))))) .nil),.nil,(.hole (.int .i64)),p29 fu⟩
theorem g29 (fu:Nat):(e29 fu).Good Tryd.prog := good_fx orders Tryd.func29 fu [] [(1,⟨[],.nil,[],.nil,[0],[]⟩)] rs29 24 (l := []) trivial
def rs8:List RVx := [(.tmp 2),(.tmp 3)]
def p8 (fu:Nat):((Int)×((Int)×((Int)×((List (Int))×(Unit)))))×(Unit)→Option ((Unit)×((List (D_beats_Wire))×((Int)×(Unit)))) := fun ⟨⟨a,c,f,h,_⟩,_⟩ =>
Option.bind (p24 fu (a,())) fun ⟨_,i⟩ =>
Option.bind (p24 fu (c,())) fun ⟨_,j⟩ =>
orK (E := (Unit)×(Unit))
 (bif (f != (1:Int)) then
 bif (f != (2:Int)) then
 inrO (some ((),([],(1:Int),())))
 else
 bif !i then
 inrO (some ((),([],(1:Int),())))
 else
 bif !j then
 inrO (some ((),([],(1:Int),())))
 else
 bif (a==c) then
 inrO (some ((),([],(1:Int),())))
 else
 some (.inl ((),()))
 else
 bif !i then
 inrO (some ((),([],(1:Int),())))
 else
 bif !j then
 inrO (some ((),([],(1:Int),())))
 else
 bif (a==c) then
 inrO (some ((),([],(1:Int),())))
 else
 some (.inl ((),())))
 fun ⟨_,_⟩ =>
Option.bind (p25 fu ((h,(0:Int),(0:Int),(0:Int),()),(4096:Int),())) fun ⟨⟨⟨k,l,m,n,_⟩,_⟩,o⟩ =>
orK (E := (Unit)×(((List (Int))×((Int)×((Int)×((Int)×(Unit)))))×(Unit)))
 (bif (o==(0:Int)) then
 Option.bind (p26 fu ((k,l,m,n,()),(111:Int),())) fun ⟨⟨⟨q,s,t,u,_⟩,_⟩,_⟩ =>
 some (.inl ((),((q,s,t,u,()),())))
 else
 some (.inl ((),((k,l,m,n,()),()))))
 fun ⟨_,⟨⟨w,x,y,z,_⟩,_⟩⟩ =>
orK (E := ((List (D_beats_Wire))×(Unit))×(((List (Int))×((Int)×((Int)×((Int)×(Unit)))))×(Unit)))
 (loopO (S := ((List (D_beats_Wire))×((Int)×(Unit)))×(((List (Int))×((Int)×((Int)×((Int)×(Unit)))))×(Unit))) fu (fun ⟨⟨a0,c0,_⟩,⟨⟨w,x,y,z,_⟩,_⟩⟩ =>
 bif decide (c0<o) then
 bif (y==(0:Int)) then
 Option.bind (p27 fu ((w,x,y,z,()),f,())) fun ⟨⟨⟨f0,h0,i0,j0,_⟩,_⟩,⟨k0,l0,m0,n0,o0,q0,s0,t0,u0,w0,x0,y0,z0,a1,c1,_⟩⟩ =>
 orK (E := (Unit)×(((List (Int))×((Int)×((Int)×((Int)×(Unit)))))×(Unit)))
 (orK (E := ((Bool)×(Unit))×(Unit))
 (bif (f==(1:Int)) then
 some (.inl (((i0==(0:Int)),()),()))
 else
 some (.inl ((false,()),())))
 fun ⟨⟨f1,_⟩,_⟩ =>
 bif f1 then
 bif decide (List.length t0=List.length t0) then
 bif decide (List.length y0=List.length y0) then
 bif decide (List.length z0=List.length z0) then
 bif decide (List.length a1=List.length a1) then
 Option.bind (p13 fu ((l0,m0,n0,o0,q0,s0,t0,u0,w0,x0,y0,z0,a1,c1,()),())) fun ⟨_,h1⟩ =>
 Option.bind (p28 fu (l0,())) fun ⟨_,i1⟩ =>
 bif h1 then
 Option.bind (p26 fu ((f0,h0,i0,j0,()),(111:Int),())) fun ⟨⟨⟨j1,k1,l1,m1,_⟩,_⟩,_⟩ =>
 some (.inl ((),((j1,k1,l1,m1,()),())))
 else
 bif !i1 then
 Option.bind (p26 fu ((f0,h0,i0,j0,()),(111:Int),())) fun ⟨⟨⟨n1,o1,q1,s1,_⟩,_⟩,_⟩ =>
 some (.inl ((),((n1,o1,q1,s1,()),())))
 else
 some (.inl ((),((f0,h0,i0,j0,()),())))
 else none
 else none
 else none
 else none
 else
 some (.inl ((),((f0,h0,i0,j0,()),()))))
 fun ⟨_,⟨⟨w,x,y,z,_⟩,_⟩⟩ =>
 bif decide (List.length t0=List.length t0) then
 bif decide (List.length y0=List.length y0) then
 bif decide (List.length z0=List.length z0) then
 bif decide (List.length a1=List.length a1) then
 bif decide (List.length a0=List.length a0) then
 bif decide (List.length a0+List.length ([(k0,l0,a,c,o0,q0,s0,t0,u0,w0,x0,(y0,z0),a1,c1)])≤maxLen∧(List.length a0+List.length ([(k0,l0,a,c,o0,q0,s0,t0,u0,w0,x0,(y0,z0),a1,c1)])) * 184≤140737488355328) then
 bif decide (List.length (a0 ++ [(k0,l0,a,c,o0,q0,s0,t0,u0,w0,x0,(y0,z0),a1,c1)])=List.length (a0 ++ [(k0,l0,a,c,o0,q0,s0,t0,u0,w0,x0,(y0,z0),a1,c1)])) then
 some (.inl (((a0 ++ [(k0,l0,a,c,o0,q0,s0,t0,u0,w0,x0,(y0,z0),a1,c1)]),IntKind.wrap .i64 (c0+(1:Int)),()),((w,x,y,z,()),())))
 else none
 else none
 else none
 else none
 else none
 else none
 else none
 else
 inrO (bif decide (List.length a0=List.length a0) then
 some (.inl ((a0,()),((w,x,y,z,()),())))
 else none)
 else
 inrO (bif decide (List.length a0=List.length a0) then
 some (.inl ((a0,()),((w,x,y,z,()),())))
 else none))
 (([],(0:Int),()),((w,x,y,z,()),())))
 fun ⟨⟨a0,_⟩,⟨⟨w,x,y,z,_⟩,_⟩⟩ =>
Option.bind (p29 fu ((w,x,y,z,()),())) fun ⟨_,t1⟩ =>
bif (t1 != (0:Int)) then
 some ((),([],t1,()))
else
 bif decide (List.length a0=List.length a0) then
 some ((),(a0,(0:Int),()))
 else none
def e8 (fu:Nat):Ent := ⟨8,(.cons Y12 .nil),.nil,(.tup 2 (.cons (.own .own 51 T_beats_Wire_n) (.cons (.hole (.int .i64)) .nil))),p8 fu⟩
theorem g8 (fu:Nat):(e8 fu).Good Tryd.prog := good_fx orders Tryd.func8 fu [(5,(.ent (e24 fu))),(9,(.ent (e24 fu))),(42,(.ent (e25 fu))),(47,(.ent (e26 fu))),(63,(.ent (e27 fu))),(78,(.ent (e13 fu))),(83,(.ent (e28 fu))),(91,(.ent (e26 fu))),(104,(.ty T_beats_Wire_n)),(105,(.ty T_beats_Wire_n)),(111,(.ent (e29 fu)))] [(3,⟨[],.nil,[],.nil,[1],[0]⟩),(8,⟨[],.nil,[(224,66,4)],(.cons Y15 .nil),[1,6,7],[0]⟩),(11,⟨[8],(.cons (.own .own 51 T_beats_Wire_n) .nil),[(224,66,4)],(.cons Y15 .nil),[6],[]⟩),(13,⟨[8,9],(.cons (.own .own 51 T_beats_Wire_n) (.cons (.hole (.int .i64)) .nil)),[(224,66,4)],(.cons Y15 .nil),[1,6,7],[0]⟩),(18,⟨[],.nil,[(224,66,4)],(.cons Y15 .nil),[1,6,7,8,9,10,61],[0,336,545,546,547,548,561]⟩),(19,⟨[78],(.cons (.hole .bool) .nil),[],.nil,[1,6,7,8,9,10,61],[0,224,336,545,546,547,548,561]⟩)] rs8 111 (l := [e24 fu,e24 fu,e25 fu,e26 fu,e27 fu,e13 fu,e28 fu,e26 fu,e29 fu]) ⟨g24 fu,g24 fu,g25 fu,g26 fu,g27 fu,g13 fu,g28 fu,g26 fu,g29 fu,trivial⟩
def rs10:List RVx := [(.tmp 2)]
def p10 (fu:Nat):(List (D_beats_Wire))×(Unit)→Option ((Unit)×(List (D_beats_Wire))) := fun ⟨a,_⟩ =>
loopO (S := ((List (D_beats_Wire))×((Int)×(Unit)))×(Unit)) fu (fun ⟨⟨c,f,_⟩,_⟩ =>
 bif decide (f<(List.length a:Int)) then
 bif decide ((0:Int)≤f∧f<(List.length a:Int)) then
 bif decide (Int.toNat f<List.length a) then
 bif decide ((0:Int)≤f∧f<(List.length a:Int)) then
 bif decide (Int.toNat f<List.length a) then
 bif decide (List.length c=List.length c) then
 bif decide (List.length c+List.length ([((List.getD a (Int.toNat f) (dflt T_beats_Wire)).1,((List.getD a (Int.toNat f) (dflt T_beats_Wire)).2).1,(((List.getD a (Int.toNat f) (dflt T_beats_Wire)).2).2).1,((((List.getD a (Int.toNat f) (dflt T_beats_Wire)).2).2).2).1,(((((List.getD a (Int.toNat f) (dflt T_beats_Wire)).2).2).2).2).1,((((((List.getD a (Int.toNat f) (dflt T_beats_Wire)).2).2).2).2).2).1,(((((((List.getD a (Int.toNat f) (dflt T_beats_Wire)).2).2).2).2).2).2).1,((((((((List.getD a (Int.toNat f) (dflt T_beats_Wire)).2).2).2).2).2).2).2).1,(((((((((List.getD a (Int.toNat f) (dflt T_beats_Wire)).2).2).2).2).2).2).2).2).1,((((((((((List.getD a (Int.toNat f) (dflt T_beats_Wire)).2).2).2).2).2).2).2).2).2).1,(((((((((((List.getD a (Int.toNat f) (dflt T_beats_Wire)).2).2).2).2).2).2).2).2).2).2).1,((((((((((((((List.getD a (Int.toNat f) (dflt T_beats_Wire)).2).2).2).2).2).2).2).2).2).2).2).1).1,(((((((((((((List.getD a (Int.toNat f) (dflt T_beats_Wire)).2).2).2).2).2).2).2).2).2).2).2).1).2),(((((((((((((List.getD a (Int.toNat f) (dflt T_beats_Wire)).2).2).2).2).2).2).2).2).2).2).2).2).1,(((((((((((((List.getD a (Int.toNat f) (dflt T_beats_Wire)).2).2).2).2).2).2).2).2).2).2).2).2).2)])≤maxLen∧(List.length c+List.length ([((List.getD a (Int.toNat f) (dflt T_beats_Wire)).1,((List.getD a (Int.toNat f) (dflt T_beats_Wire)).2).1,(((List.getD a (Int.toNat f) (dflt T_beats_Wire)).2).2).1,((((List.getD a (Int.toNat f) (dflt T_beats_Wire)).2).2).2).1,(((((List.getD a (Int.toNat f) (dflt T_beats_Wire)).2).2).2).2).1,((((((List.getD a (Int.toNat f) (dflt T_beats_Wire)).2).2).2).2).2).1,(((((((List.getD a (Int.toNat f) (dflt T_beats_Wire)).2).2).2).2).2).2).1,((((((((List.getD a (Int.toNat f) (dflt T_beats_Wire)).2).2).2).2).2).2).2).1,(((((((((List.getD a (Int.toNat f) (dflt T_beats_Wire)).2).2).2).2).2).2).2).2).1,((((((((((List.getD a (Int.toNat f) (dflt T_beats_Wire)).2).2).2).2).2).2).2).2).2).1,(((((((((((List.getD a (Int.toNat f) (dflt T_beats_Wire)).2).2).2).2).2).2).2).2).2).2).1,((((((((((((((List.getD a (Int.toNat f) (dflt T_beats_Wire)).2).2).2).2).2).2).2).2).2).2).2).1).1,(((((((((((((List.getD a (Int.toNat f) (dflt T_beats_Wire)).2).2).2).2).2).2).2).2).2).2).2).1).2),(((((((((((((List.getD a (Int.toNat f) (dflt T_beats_Wire)).2).2).2).2).2).2).2).2).2).2).2).2).1,(((((((((((((List.getD a (Int.toNat f) (dflt T_beats_Wire)).2).2).2).2).2).2).2).2).2).2).2).2).2)])) * 184≤140737488355328) then
 bif decide (List.length (c ++ [((List.getD a (Int.toNat f) (dflt T_beats_Wire)).1,((List.getD a (Int.toNat f) (dflt T_beats_Wire)).2).1,(((List.getD a (Int.toNat f) (dflt T_beats_Wire)).2).2).1,((((List.getD a (Int.toNat f) (dflt T_beats_Wire)).2).2).2).1,(((((List.getD a (Int.toNat f) (dflt T_beats_Wire)).2).2).2).2).1,((((((List.getD a (Int.toNat f) (dflt T_beats_Wire)).2).2).2).2).2).1,(((((((List.getD a (Int.toNat f) (dflt T_beats_Wire)).2).2).2).2).2).2).1,((((((((List.getD a (Int.toNat f) (dflt T_beats_Wire)).2).2).2).2).2).2).2).1,(((((((((List.getD a (Int.toNat f) (dflt T_beats_Wire)).2).2).2).2).2).2).2).2).1,((((((((((List.getD a (Int.toNat f) (dflt T_beats_Wire)).2).2).2).2).2).2).2).2).2).1,(((((((((((List.getD a (Int.toNat f) (dflt T_beats_Wire)).2).2).2).2).2).2).2).2).2).2).1,((((((((((((((List.getD a (Int.toNat f) (dflt T_beats_Wire)).2).2).2).2).2).2).2).2).2).2).2).1).1,(((((((((((((List.getD a (Int.toNat f) (dflt T_beats_Wire)).2).2).2).2).2).2).2).2).2).2).2).1).2),(((((((((((((List.getD a (Int.toNat f) (dflt T_beats_Wire)).2).2).2).2).2).2).2).2).2).2).2).2).1,(((((((((((((List.getD a (Int.toNat f) (dflt T_beats_Wire)).2).2).2).2).2).2).2).2).2).2).2).2).2)])=List.length (c ++ [((List.getD a (Int.toNat f) (dflt T_beats_Wire)).1,((List.getD a (Int.toNat f) (dflt T_beats_Wire)).2).1,(((List.getD a (Int.toNat f) (dflt T_beats_Wire)).2).2).1,((((List.getD a (Int.toNat f) (dflt T_beats_Wire)).2).2).2).1,(((((List.getD a (Int.toNat f) (dflt T_beats_Wire)).2).2).2).2).1,((((((List.getD a (Int.toNat f) (dflt T_beats_Wire)).2).2).2).2).2).1,(((((((List.getD a (Int.toNat f) (dflt T_beats_Wire)).2).2).2).2).2).2).1,((((((((List.getD a (Int.toNat f) (dflt T_beats_Wire)).2).2).2).2).2).2).2).1,(((((((((List.getD a (Int.toNat f) (dflt T_beats_Wire)).2).2).2).2).2).2).2).2).1,((((((((((List.getD a (Int.toNat f) (dflt T_beats_Wire)).2).2).2).2).2).2).2).2).2).1,(((((((((((List.getD a (Int.toNat f) (dflt T_beats_Wire)).2).2).2).2).2).2).2).2).2).2).1,((((((((((((((List.getD a (Int.toNat f) (dflt T_beats_Wire)).2).2).2).2).2).2).2).2).2).2).2).1).1,(((((((((((((List.getD a (Int.toNat f) (dflt T_beats_Wire)).2).2).2).2).2).2).2).2).2).2).2).1).2),(((((((((((((List.getD a (Int.toNat f) (dflt T_beats_Wire)).2).2).2).2).2).2).2).2).2).2).2).2).1,(((((((((((((List.getD a (Int.toNat f) (dflt T_beats_Wire)).2).2).2).2).2).2).2).2).2).2).2).2).2)])) then
 some (.inl (((c ++ [((List.getD a (Int.toNat f) (dflt T_beats_Wire)).1,((List.getD a (Int.toNat f) (dflt T_beats_Wire)).2).1,(((List.getD a (Int.toNat f) (dflt T_beats_Wire)).2).2).1,((((List.getD a (Int.toNat f) (dflt T_beats_Wire)).2).2).2).1,(((((List.getD a (Int.toNat f) (dflt T_beats_Wire)).2).2).2).2).1,((((((List.getD a (Int.toNat f) (dflt T_beats_Wire)).2).2).2).2).2).1,(((((((List.getD a (Int.toNat f) (dflt T_beats_Wire)).2).2).2).2).2).2).1,((((((((List.getD a (Int.toNat f) (dflt T_beats_Wire)).2).2).2).2).2).2).2).1,(((((((((List.getD a (Int.toNat f) (dflt T_beats_Wire)).2).2).2).2).2).2).2).2).1,((((((((((List.getD a (Int.toNat f) (dflt T_beats_Wire)).2).2).2).2).2).2).2).2).2).1,(((((((((((List.getD a (Int.toNat f) (dflt T_beats_Wire)).2).2).2).2).2).2).2).2).2).2).1,((((((((((((((List.getD a (Int.toNat f) (dflt T_beats_Wire)).2).2).2).2).2).2).2).2).2).2).2).1).1,(((((((((((((List.getD a (Int.toNat f) (dflt T_beats_Wire)).2).2).2).2).2).2).2).2).2).2).2).1).2),(((((((((((((List.getD a (Int.toNat f) (dflt T_beats_Wire)).2).2).2).2).2).2).2).2).2).2).2).2).1,(((((((((((((List.getD a (Int.toNat f) (dflt T_beats_Wire)).2).2).2).2).2).2).2).2).2).2).2).2).2)]),IntKind.wrap .i64 (f+(1:Int)),()),()))
 else none
 else none
 else none
 else none
 else none
 else none
 else none
 else
 inrO (bif decide (List.length c=List.length c) then
 some ((),c)
 else none))
 (([],(0:Int),()),())
def e10 (fu:Nat):Ent := ⟨10,(.cons (.hole (.sl .any T_beats_Wire)) .nil),.nil,(.own .own 51 T_beats_Wire),p10 fu⟩
theorem g10 (fu:Nat):(e10 fu).Good Tryd.prog := good_fx orders Tryd.func10 fu [(19,(.ty T_beats_Wire)),(20,(.ty T_beats_Wire))] [(4,⟨[3,4],(.cons (.own .own 51 T_beats_Wire) (.cons (.hole (.int .i64)) .nil)),[],.nil,[0],[]⟩)] rs10 26 (l := []) trivial
def rs68:List RVx := [(.tmp 4)]
def p68 (fu:Nat):(List (Int))×((List (Int))×(Unit))→Option ((Unit)×(Bool)) := fun ⟨a,c,_⟩ =>
bif ((List.length a:Int) != (List.length c:Int)) then
 some ((),false)
else
 loopO (S := ((Int)×(Unit))×(Unit)) fu (fun ⟨⟨f,_⟩,_⟩ =>
 bif decide (f<(List.length a:Int)) then
 bif decide ((0:Int)≤f∧f<(List.length a:Int)) then
 bif decide (Int.toNat f<List.length a) then
 bif decide ((0:Int)≤f∧f<(List.length c:Int)) then
 bif decide (Int.toNat f<List.length c) then
 bif ((List.getD a (Int.toNat f) (dflt (.int .i64))) != (List.getD c (Int.toNat f) (dflt (.int .i64)))) then
 inrO (some ((),false))
 else
 some (.inl ((IntKind.wrap .i64 (f+(1:Int)),()),()))
 else none
 else none
 else none
 else none
 else
 inrO (some ((),true)))
 (((0:Int),()),())
def e68 (fu:Nat):Ent := ⟨68,(.cons (.hole (.sl .any (.int .i64))) (.cons (.hole (.sl .any (.int .i64))) .nil)),.nil,(.hole .bool),p68 fu⟩
theorem g68 (fu:Nat):(e68 fu).Good Tryd.prog := good_fx orders Tryd.func68 fu [] [(6,⟨[5],(.cons (.hole (.int .i64)) .nil),[],.nil,[0,1],[]⟩)] rs68 26 (l := []) trivial
def rs52:List RVx := [(.tmp 4)]
def p52 (fu:Nat):((List (Int))×((List (Int))×(Unit)))×(((List (Int))×((List (Int))×(Unit)))×(Unit))→Option ((Unit)×(Bool)) := fun ⟨⟨a,c,_⟩,⟨f,h,_⟩,_⟩ =>
Option.bind (p68 fu (a,f,())) fun ⟨_,i⟩ =>
Option.bind (p68 fu (c,h,())) fun ⟨_,j⟩ =>
bif i then
 some ((),j)
else
 some ((),false)
def e52 (fu:Nat):Ent := ⟨52,(.cons (.agg 2 (.cons (.hole (.sl .any (.int .i64))) (.cons (.hole (.sl .any (.int .i64))) .nil))) (.cons (.agg 2 (.cons (.hole (.sl .any (.int .i64))) (.cons (.hole (.sl .any (.int .i64))) .nil))) .nil)),.nil,(.hole .bool),p52 fu⟩
theorem g52 (fu:Nat):(e52 fu).Good Tryd.prog := good_fx orders Tryd.func52 fu [(7,(.ent (e68 fu))),(13,(.ent (e68 fu)))] [] rs52 21 (l := [e68 fu,e68 fu]) ⟨g68 fu,g68 fu,trivial⟩
def rs69:List RVx := [(.tmp 4)]
def p69 (fu:Nat):(Z9)×((Z9)×(Unit))→Option ((Unit)×(Bool)) := fun ⟨⟨a,c,f,h,i,j,_⟩,⟨k,l,m,n,o,q,_⟩,_⟩ =>
Option.bind (p52 fu ((i,j,()),(o,q,()),())) fun ⟨_,s⟩ =>
bif s then
 bif (a==k) then
 bif (c==l) then
 bif (f==m) then
 some ((),ByteArray.toList (strOfNums h)==ByteArray.toList (strOfNums n))
 else
 some ((),false)
 else
 some ((),false)
 else
 some ((),false)
else
 some ((),false)
def e69 (fu:Nat):Ent := ⟨69,(.cons Y19 (.cons Y19 .nil)),.nil,(.hole .bool),p69 fu⟩
theorem g69 (fu:Nat):(e69 fu).Good Tryd.prog := good_fx orders Tryd.func69 fu [(7,(.ent (e52 fu)))] [] rs69 42 (l := [e52 fu]) ⟨g52 fu,trivial⟩
def rs53:List RVx := [(.tmp 4)]
def p53 (fu:Nat):(List (D_api_Entry))×((List (D_api_Entry))×(Unit))→Option ((Unit)×(Bool)) := fun ⟨a,c,_⟩ =>
bif ((List.length a:Int) != (List.length c:Int)) then
 some ((),false)
else
 loopO (S := ((Int)×(Unit))×(Unit)) fu (fun ⟨⟨f,_⟩,_⟩ =>
 bif decide (f<(List.length a:Int)) then
 bif decide ((0:Int)≤f∧f<(List.length a:Int)) then
 bif decide (Int.toNat f<List.length a) then
 bif decide ((0:Int)≤f∧f<(List.length c:Int)) then
 bif decide (Int.toNat f<List.length c) then
 Option.bind (p69 fu (((List.getD a (Int.toNat f) (dflt T_api_Entry)).1,((List.getD a (Int.toNat f) (dflt T_api_Entry)).2).1,(((List.getD a (Int.toNat f) (dflt T_api_Entry)).2).2).1,((((List.getD a (Int.toNat f) (dflt T_api_Entry)).2).2).2).1,(((((List.getD a (Int.toNat f) (dflt T_api_Entry)).2).2).2).2).1,(((((List.getD a (Int.toNat f) (dflt T_api_Entry)).2).2).2).2).2,()),((List.getD c (Int.toNat f) (dflt T_api_Entry)).1,((List.getD c (Int.toNat f) (dflt T_api_Entry)).2).1,(((List.getD c (Int.toNat f) (dflt T_api_Entry)).2).2).1,((((List.getD c (Int.toNat f) (dflt T_api_Entry)).2).2).2).1,(((((List.getD c (Int.toNat f) (dflt T_api_Entry)).2).2).2).2).1,(((((List.getD c (Int.toNat f) (dflt T_api_Entry)).2).2).2).2).2,()),())) fun ⟨_,h⟩ =>
 bif !h then
 inrO (some ((),false))
 else
 some (.inl ((IntKind.wrap .i64 (f+(1:Int)),()),()))
 else none
 else none
 else none
 else none
 else
 inrO (some ((),true)))
 (((0:Int),()),())
def e53 (fu:Nat):Ent := ⟨53,(.cons (.hole (.sl .any T_api_Entry)) (.cons (.hole (.sl .any T_api_Entry)) .nil)),.nil,(.hole .bool),p53 fu⟩
theorem g53 (fu:Nat):(e53 fu).Good Tryd.prog := good_fx orders Tryd.func53 fu [(20,(.ent (e69 fu)))] [(6,⟨[5],(.cons (.hole (.int .i64)) .nil),[],.nil,[0,1],[]⟩)] rs53 29 (l := [e69 fu]) ⟨g69 fu,trivial⟩
def rs30:List RVx := [(.tmp 4)]
def p30 (fu:Nat):(Z7)×((Z7)×(Unit))→Option ((Unit)×(Bool)) := fun ⟨⟨a,c,f,h,i,j,k,l,m,n,o,q,s,t,_⟩,⟨u,w,x,y,z,a0,c0,f0,h0,i0,j0,k0,l0,m0,_⟩,_⟩ =>
Option.bind (p52 fu ((o,q,()),(j0,k0,()),())) fun ⟨_,n0⟩ =>
Option.bind (p53 fu (k,c0,())) fun ⟨_,o0⟩ =>
bif n0 then
 bif o0 then
 bif (a==u) then
 bif (c==w) then
 bif (f==x) then
 bif (h==y) then
 bif (i==z) then
 bif (j==a0) then
 bif (l==f0) then
 bif m==h0 then
 bif (n==i0) then
 bif ByteArray.toList (strOfNums s)==ByteArray.toList (strOfNums l0) then
 some ((),t==m0)
 else
 some ((),false)
 else
 some ((),false)
 else
 some ((),false)
 else
 some ((),false)
 else
 some ((),false)
 else
 some ((),false)
 else
 some ((),false)
 else
 some ((),false)
 else
 some ((),false)
 else
 some ((),false)
 else
 some ((),false)
else
 some ((),false)
def e30 (fu:Nat):Ent := ⟨30,(.cons Y8 (.cons Y8 .nil)),.nil,(.hole .bool),p30 fu⟩
theorem g30 (fu:Nat):(e30 fu).Good Tryd.prog := good_fx orders Tryd.func30 fu [(7,(.ent (e52 fu))),(13,(.ent (e53 fu)))] [] rs30 100 (l := [e52 fu,e53 fu]) ⟨g52 fu,g53 fu,trivial⟩
def rs9:List RVx := [(.tmp 4)]
def p9 (fu:Nat):(List (D_beats_Wire))×((List (D_beats_Wire))×(Unit))→Option ((Unit)×(Bool)) := fun ⟨a,c,_⟩ =>
bif ((List.length a:Int) != (List.length c:Int)) then
 some ((),false)
else
 loopO (S := ((Int)×(Unit))×(Unit)) fu (fun ⟨⟨f,_⟩,_⟩ =>
 bif decide (f<(List.length a:Int)) then
 bif decide ((0:Int)≤f∧f<(List.length a:Int)) then
 bif decide (Int.toNat f<List.length a) then
 bif decide ((0:Int)≤f∧f<(List.length c:Int)) then
 bif decide (Int.toNat f<List.length c) then
 Option.bind (p30 fu ((((List.getD a (Int.toNat f) (dflt T_beats_Wire)).2).1,(((List.getD a (Int.toNat f) (dflt T_beats_Wire)).2).2).1,((((List.getD a (Int.toNat f) (dflt T_beats_Wire)).2).2).2).1,(((((List.getD a (Int.toNat f) (dflt T_beats_Wire)).2).2).2).2).1,((((((List.getD a (Int.toNat f) (dflt T_beats_Wire)).2).2).2).2).2).1,(((((((List.getD a (Int.toNat f) (dflt T_beats_Wire)).2).2).2).2).2).2).1,((((((((List.getD a (Int.toNat f) (dflt T_beats_Wire)).2).2).2).2).2).2).2).1,(((((((((List.getD a (Int.toNat f) (dflt T_beats_Wire)).2).2).2).2).2).2).2).2).1,((((((((((List.getD a (Int.toNat f) (dflt T_beats_Wire)).2).2).2).2).2).2).2).2).2).1,(((((((((((List.getD a (Int.toNat f) (dflt T_beats_Wire)).2).2).2).2).2).2).2).2).2).2).1,(((((((((((((List.getD a (Int.toNat f) (dflt T_beats_Wire)).2).2).2).2).2).2).2).2).2).2).2).1).1,(((((((((((((List.getD a (Int.toNat f) (dflt T_beats_Wire)).2).2).2).2).2).2).2).2).2).2).2).1).2,(((((((((((((List.getD a (Int.toNat f) (dflt T_beats_Wire)).2).2).2).2).2).2).2).2).2).2).2).2).1,(((((((((((((List.getD a (Int.toNat f) (dflt T_beats_Wire)).2).2).2).2).2).2).2).2).2).2).2).2).2,()),(((List.getD c (Int.toNat f) (dflt T_beats_Wire)).2).1,(((List.getD c (Int.toNat f) (dflt T_beats_Wire)).2).2).1,((((List.getD c (Int.toNat f) (dflt T_beats_Wire)).2).2).2).1,(((((List.getD c (Int.toNat f) (dflt T_beats_Wire)).2).2).2).2).1,((((((List.getD c (Int.toNat f) (dflt T_beats_Wire)).2).2).2).2).2).1,(((((((List.getD c (Int.toNat f) (dflt T_beats_Wire)).2).2).2).2).2).2).1,((((((((List.getD c (Int.toNat f) (dflt T_beats_Wire)).2).2).2).2).2).2).2).1,(((((((((List.getD c (Int.toNat f) (dflt T_beats_Wire)).2).2).2).2).2).2).2).2).1,((((((((((List.getD c (Int.toNat f) (dflt T_beats_Wire)).2).2).2).2).2).2).2).2).2).1,(((((((((((List.getD c (Int.toNat f) (dflt T_beats_Wire)).2).2).2).2).2).2).2).2).2).2).1,(((((((((((((List.getD c (Int.toNat f) (dflt T_beats_Wire)).2).2).2).2).2).2).2).2).2).2).2).1).1,(((((((((((((List.getD c (Int.toNat f) (dflt T_beats_Wire)).2).2).2).2).2).2).2).2).2).2).2).1).2,(((((((((((((List.getD c (Int.toNat f) (dflt T_beats_Wire)).2).2).2).2).2).2).2).2).2).2).2).2).1,(((((((((((((List.getD c (Int.toNat f) (dflt T_beats_Wire)).2).2).2).2).2).2).2).2).2).2).2).2).2,()),())) fun ⟨_,h⟩ =>
 bif !h then
 inrO (some ((),false))
 else
 bif decide ((0:Int)≤f∧f<(List.length a:Int)) then
 bif decide (Int.toNat f<List.length a) then
 bif decide ((0:Int)≤f∧f<(List.length c:Int)) then
 bif decide (Int.toNat f<List.length c) then
 bif (((List.getD a (Int.toNat f) (dflt T_beats_Wire)).1) != ((List.getD c (Int.toNat f) (dflt T_beats_Wire)).1)) then
 inrO (some ((),false))
 else
 some (.inl ((IntKind.wrap .i64 (f+(1:Int)),()),()))
 else none
 else none
 else none
 else none
 else none
 else none
 else none
 else none
 else
 inrO (some ((),true)))
 (((0:Int),()),())
def e9 (fu:Nat):Ent := ⟨9,(.cons (.hole (.sl .any T_beats_Wire)) (.cons (.hole (.sl .any T_beats_Wire)) .nil)),.nil,(.hole .bool),p9 fu⟩
theorem g9 (fu:Nat):(e9 fu).Good Tryd.prog := good_fx orders Tryd.func9 fu [(22,(.ent (e30 fu)))] [(6,⟨[5],(.cons (.hole (.int .i64)) .nil),[],.nil,[0,1],[]⟩)] rs9 44 (l := [e30 fu]) ⟨g30 fu,trivial⟩
def rs3:List RVx := [(.tmp 2)]
def p3 (fu:Nat):((Int)×((Int)×((Int)×((List (Int))×(Unit)))))×(Unit)→Option ((Unit)×(Bool)) := fun ⟨⟨a,c,f,h,_⟩,_⟩ =>
Option.bind (p6 fu ()) fun ⟨_,i⟩ =>
bif decide (0=List.length ([]:List (Int))) then
 bif decide (List.length ([]:List (Int))+List.length h≤maxLen∧(List.length ([]:List (Int))+List.length h) * 1≤140737488355328) then
 bif decide (List.length (([]:List (Int)) ++ h)=List.length (([]:List (Int)) ++ h)) then
 bif decide (List.length (([]:List (Int)) ++ h)+List.length ([(77:Int)])≤maxLen∧(List.length (([]:List (Int)) ++ h)+List.length ([(77:Int)])) * 1≤140737488355328) then
 bif decide ((0:Int)≤(List.length h:Int)) then
 bif decide (0≤Int.toNat (List.length h:Int)∧0+(Int.toNat (List.length h:Int))≤List.length ((([]:List (Int)) ++ h) ++ [(77:Int)])) then
 bif decide (Int.toNat (List.length h:Int)≤List.length ((([]:List (Int)) ++ h) ++ [(77:Int)])) then
 Option.bind (p7 fu ((a,c,f,List.take (Int.toNat (List.length h:Int)) ((([]:List (Int)) ++ h) ++ [(77:Int)]),()),())) fun ⟨_,⟨j,k,_⟩⟩ =>
 Option.bind (p8 fu ((a,c,f,h,()),())) fun ⟨_,⟨l,m,_⟩⟩ =>
 orK (E := ((List (D_beats_Wire))×((Bool)×(Unit)))×(Unit))
 (bif decide (List.length j=List.length j) then
 Option.bind (p10 fu (j,())) fun ⟨_,n⟩ =>
 bif decide (List.length n=List.length n) then
 bif decide (List.length l=List.length l) then
 Option.bind (p9 fu (n,l,())) fun ⟨_,o⟩ =>
 bif decide (List.length j=List.length j) then
 some (.inl ((j,o,()),()))
 else none
 else none
 else none
 else none)
 fun ⟨⟨q,s,_⟩,_⟩ =>
 loopO (S := ((Int)×(Unit))×(Unit)) fu (fun ⟨⟨t,_⟩,_⟩ =>
 bif decide (t<(List.length q:Int)) then
 loopO (S := ((Int)×(Unit))×(Unit)) fu (fun ⟨⟨u,_⟩,_⟩ =>
 bif decide ((0:Int)≤t∧t<(List.length q:Int)) then
 bif decide (Int.toNat t<List.length q) then
 bif decide (u<(List.length ((((((((((((((List.getD q (Int.toNat t) (dflt T_beats_Wire)).2).2).2).2).2).2).2).2).2).2).2).2).1):Int)) then
 bif decide ((0:Int)≤t∧t<(List.length q:Int)) then
 bif decide (Int.toNat t<List.length q) then
 bif decide ((0:Int)≤u∧u<(List.length ((((((((((((((List.getD q (Int.toNat t) (dflt T_beats_Wire)).2).2).2).2).2).2).2).2).2).2).2).2).1):Int)) then
 bif decide (Int.toNat u<List.length ((((((((((((((List.getD q (Int.toNat t) (dflt T_beats_Wire)).2).2).2).2).2).2).2).2).2).2).2).2).1)) then
 bif decide ((0:Int)≤u∧u<(List.length ((((((((((((((List.getD q (Int.toNat t) (dflt T_beats_Wire)).2).2).2).2).2).2).2).2).2).2).2).2).1):Int)) then
 some (.inl ((IntKind.wrap .i64 (u+(1:Int)),()),()))
 else none
 else none
 else none
 else none
 else none
 else
 inrO (some (.inl ((IntKind.wrap .i64 (t+(1:Int)),()),())))
 else none
 else none)
 (((0:Int),()),())
 else
 inrO (bif i then
 bif s then
 bif (k==m) then
 bif decide (Int.toNat (List.length h:Int)≤List.length ((([]:List (Int)) ++ h) ++ [(77:Int)])) then
 bif ByteArray.toList (strOfNums (List.take (Int.toNat (List.length h:Int)) ((([]:List (Int)) ++ h) ++ [(77:Int)])))==ByteArray.toList (strOfNums h) then
 bif decide ((0:Int)≤IntKind.wrap .i64 ((List.length h:Int)+(1:Int))) then
 bif decide (0≤Int.toNat (IntKind.wrap .i64 ((List.length h:Int)+(1:Int)))∧Int.toNat (IntKind.wrap .i64 ((List.length h:Int)+(1:Int)))≤List.length ((([]:List (Int)) ++ h) ++ [(77:Int)])) then
 bif decide ((0:Int)≤(List.length h:Int)∧(List.length h:Int)<(List.length (List.take (Int.toNat (IntKind.wrap .i64 ((List.length h:Int)+(1:Int)))) ((([]:List (Int)) ++ h) ++ [(77:Int)])):Int)) then
 bif decide (Int.toNat (List.length h:Int)<List.length (List.take (Int.toNat (IntKind.wrap .i64 ((List.length h:Int)+(1:Int)))) ((([]:List (Int)) ++ h) ++ [(77:Int)]))) then
 some ((),((List.getD (List.take (Int.toNat (IntKind.wrap .i64 ((List.length h:Int)+(1:Int)))) ((([]:List (Int)) ++ h) ++ [(77:Int)])) (Int.toNat (List.length h:Int)) (dflt (.int .u8)))==(77:Int)))
 else none
 else none
 else none
 else none
 else
 some ((),false)
 else none
 else
 some ((),false)
 else
 some ((),false)
 else
 some ((),false)))
 (((0:Int),()),())
 else none
 else none
 else none
 else none
 else none
 else none
else none
def e3 (fu:Nat):Ent := ⟨3,(.cons Y12 .nil),.nil,(.hole .bool),p3 fu⟩
theorem g3 (fu:Nat):(e3 fu).Good Tryd.prog := good_fz orders Tryd.func3 fu [(2,(.ent (e6 fu))),(7,(.ty (.int .u8))),(10,(.ty (.int .u8))),(11,(.ty (.int .u8))),(12,(.ty (.int .u8))),(20,(.ent (e7 fu))),(27,(.ent (e8 fu))),(34,(.ent (e10 fu))),(36,(.ent (e9 fu)))] [(6,⟨[5,9],(.cons (.hole (.sl .new (.pair (.hv (.int .u64)) (.pair (.hv (.int .i64)) (.pair (.hv (.int .i64)) (.pair (.hv (.int .i64)) (.pair (.hv (.int .u64)) (.pair (.hv (.int .u64)) (.pair (.hv (.int .u64)) (.pair (.sl .new (.pair (.hv (.int .u64)) (.pair (.hv (.int .u64)) (.pair (.hv (.int .i64)) (.pair (.sl .new (.hv (.int .u8))) (.pair (.sl .new (.hv (.int .i64))) (.sl .new (.hv (.int .i64))))))))) (.pair (.hv (.int .u64)) (.pair .bool (.pair (.hv (.int .u64)) (.pair (.pair (.sl .new (.hv (.int .i64))) (.sl .new (.hv (.int .i64)))) (.pair (.sl .new (.hv (.int .u8))) .bool))))))))))))))) (.cons (.hole .bool) .nil)),[],.nil,[1,3,4,6,8],[0,80]⟩),(9,⟨[10],(.cons (.hole (.int .i64)) .nil),[],.nil,[1,3,4,5,6,8,9],[0,80]⟩),(14,⟨[11],(.cons (.hole (.int .i64)) .nil),[],.nil,[1,3,4,5,6,8,9,10],[0,80]⟩)] [(3,.age)] rs3 100 (l := [e6 fu,e7 fu,e8 fu,e10 fu,e9 fu]) ⟨g6 fu,g7 fu,g8 fu,g10 fu,g9 fu,trivial⟩ (ls := []) trivial
end Go.Proofs.YtahamggipcikgaaDoor
