/-
  The functions, typed.
-/
import Derived.Test.YtmjmhobeiamgiaaGreatIsn
import Derived.Test.YtmjmhobeiamgiaaGreatInC
import Derived.Test.YtmjmhobeiamgiaaGreatCpE
import Derived.Test.YtmjmhobeiamgiaaGreatNsE
import Derived.Test.YtmjmhobeiamgiaaGreatDaN
import Derived.Test.YtmjmhobeiamgiaaGreatRows
namespace Go.Proofs.YtmjmhobeiamgiaaGreat
set_option maxRecDepth 1000000
open Go.RowKit
abbrev hI:Sh := .hole (.int .i64)
abbrev hU:Sh := .hole (.int .u64)
abbrev hT:Sh := .hole .str
abbrev lD (d c s:Nat):RO×Hint := (⟨some d,none,.load false c (.tmp s)⟩,.none)
abbrev fD (d c s:Nat):RO×Hint := (⟨some d,none,.faddr c (.tmp s)⟩,.none)
abbrev nD (d s:Nat):RO×Hint := (⟨some d,none,.pure .nilc [.tmp s]⟩,.none)
abbrev zR0:Bool×(Int×Int×Unit)×Unit := (false,(0,0,()),())
abbrev T_runtime_errorAddressString:Tp := (.pair .str (.int .u64))
abbrev D_runtime_errorAddressString := ByteArray×Int
abbrev T_api_Range:Tp := (.pair .str .str)
abbrev D_api_Range := ByteArray×ByteArray
abbrev T_api_Producer:Tp := (.pair (.int .u64) (.pair (.int .u64) (.pair .bool (.int .u64))))
abbrev D_api_Producer := Int×(Int×(Bool×Int))
abbrev T_api_Record:Tp := (.pair (.int .u64) (.pair .str (.pair (.sl .any (.int .u8)) (.pair (.int .u64) (.int .u64)))))
abbrev D_api_Record := Int×(ByteArray×((List Int)×(Int×Int)))
abbrev T_api_Record_n:Tp := (.pair (.int .u64) (.pair .str (.pair (.sl .new (.int .u8)) (.pair (.int .u64) (.int .u64)))))
abbrev T_api_Part:Tp := (.pair T_api_Range (.pair (.int .u64) (.pair (.int .u64) (.pair (.sl .any T_api_Record) (.pair (.sl .any T_api_Producer) (.sl .any T_runtime_errorAddressString))))))
abbrev D_api_Part := (D_api_Range)×(Int×(Int×((List (D_api_Record))×((List (D_api_Producer))×(List (D_runtime_errorAddressString))))))
theorem orders:Tryz.prog.follows .mixedOrders=true := by kernel_rfl
abbrev Z0:Type := ByteArray×(ByteArray×(Int×(Int×((List (D_api_Record))×((List (D_api_Producer))×((List (D_runtime_errorAddressString))×Unit))))))
abbrev Y1:Sh := (.agg 7 (.cons hT (.cons hT (.cons hU (.cons hU (.cons (.own .own 38 T_api_Record_n) (.cons (.own .own 46 T_api_Producer) (.cons (.own .own 50 T_runtime_errorAddressString) .nil))))))))
abbrev Y2:Sh := (.agg 5 (.cons hU (.cons hT (.cons (.hole (.sl .any (.int .u8))) (.cons hU (.cons hU .nil))))))
abbrev Y3:Sh := (.agg 7 (.cons hT (.cons hT (.cons hU (.cons hU (.cons (.hole (.sl .any T_api_Record)) (.cons (.hole (.sl .any T_api_Producer)) (.cons (.hole (.sl .any T_runtime_errorAddressString)) .nil))))))))
abbrev Y4:Sh := (.tup 3 (.cons (.agg 2 (.cons hT (.cons hT .nil))) (.cons (.agg 2 (.cons hT (.cons hT .nil))) (.cons hI .nil))))
abbrev Y5:Sh := (.agg 5 (.cons hU (.cons hT (.cons (.own .own 5 (.int .u8)) (.cons hU (.cons hU .nil))))))
abbrev Y6:Sh := (.box 29 7 (.cons hT (.cons hT (.cons hU (.cons hU (.cons (.hole (.sl .any T_api_Record)) (.cons (.hole (.sl .any T_api_Producer)) (.cons (.hole (.sl .any T_runtime_errorAddressString)) .nil))))))))
abbrev Y7:Sh := (.box 90 3 (.cons (.hole (.sl .any T_api_Record)) (.cons (.own .own 24 (.int .u64)) (.cons (.mown false (.int .u64) (.sl .any (.int .u64))) .nil))))
abbrev Y8:Sh := (.agg 3 (.cons (.hole (.sl .any T_api_Record)) (.cons (.own .own 24 (.int .u64)) (.cons (.mown false (.int .u64) (.sl .any (.int .u64))) .nil))))
abbrev Y9:Sh := (.tup 4 (.cons (.own .own 38 T_api_Record_n) (.cons (.own .own 24 (.int .u64)) (.cons (.own .own 24 (.int .u64)) (.cons hI .nil)))))
abbrev Y10:Sh := (.box 29 7 (.cons hT (.cons hT (.cons hU (.cons hU (.cons (.own .own 38 T_api_Record_n) (.cons (.own .own 46 T_api_Producer) (.cons (.own .own 50 T_runtime_errorAddressString) .nil))))))))
abbrev Y11:Sh := (.agg 7 (.cons hT (.cons hT (.cons hU (.cons hU (.cons (.hole (.sl .new (.pair (.hv (.int .u64)) (.pair (.hv .str) (.pair (.sl .new (.hv (.int .u8))) (.pair (.hv (.int .u64)) (.hv (.int .u64)))))))) (.cons (.hole (.sl .new (.pair (.hv (.int .u64)) (.pair (.hv (.int .u64)) (.pair .bool (.hv (.int .u64))))))) (.cons (.hole (.sl .new (.pair (.hv .str) (.hv (.int .u64))))) .nil))))))))
def rs10:List RVx := [(.cell 0 true 7)]
def p10 (_:Nat):Unit→Option (Unit×(ByteArray×(ByteArray×(Int×(Int×((List (D_api_Record))×((List (D_api_Producer))×((List (D_runtime_errorAddressString))×Unit)))))))) := fun _ =>
some ((),((⟨#[]⟩:ByteArray),(⟨#[]⟩:ByteArray),(3:Int),(1:Int),[((0:Int),(⟨#[97]⟩:ByteArray),[],(7:Int),(1:Int)),((1:Int),(⟨#[109]⟩:ByteArray),[],(7:Int),(2:Int)),((2:Int),(⟨#[98]⟩:ByteArray),[],(8:Int),(1:Int))],[((7:Int),(2:Int),true,(1:Int)),((8:Int),(1:Int),true,(2:Int))],[((⟨#[99]⟩:ByteArray),(2:Int))],()))
def e10 (fu:Nat):Ent := ⟨10,.nil,.nil,Y1,p10 fu⟩
theorem g10 (fu:Nat):(e10 fu).Good Tryz.prog := good_fx orders Tryz.func10 fu [(4,(.ty T_api_Record_n)),(7,(.ty T_api_Producer)),(9,(.ty T_runtime_errorAddressString))] [] rs10 11 (l := []) trivial
def rs79:List RVx := [(.tmp 2)]
def p79 (_:Nat):ByteArray×Unit→Option (Unit×Bool) := fun ⟨a,_⟩ =>
some ((),decide ((ByteArray.size a:Int)≤(32:Int)))
def e79 (fu:Nat):Ent := ⟨79,(.cons hT .nil),.nil,(.hole .bool),p79 fu⟩
theorem g79 (fu:Nat):(e79 fu).Good Tryz.prog := good_fx orders Tryz.func79 fu [] [] rs79 6 (l := []) trivial
def rs42:List RVx := [(.cell 2 true 2)]
def p42 (_:Nat):(ByteArray×(ByteArray×Unit))×Unit→Option (Unit×(ByteArray×(Bool×Unit))) := fun ⟨⟨_,a,_⟩,_⟩ =>
some ((),(a,ByteArray.toList a==ByteArray.toList (⟨#[]⟩:ByteArray),()))
def e42 (fu:Nat):Ent := ⟨42,(.cons (.agg 2 (.cons hT (.cons hT .nil))) .nil),.nil,(.agg 2 (.cons hT (.cons (.hole .bool) .nil))),p42 fu⟩
theorem g42 (fu:Nat):(e42 fu).Good Tryz.prog := good_fx orders Tryz.func42 fu [] [] rs42 9 (l := []) trivial
def rs85:List RVx := [(.tmp 4)]
def p85 (_:Nat):(ByteArray×(Bool×Unit))×(ByteArray×Unit)→Option (Unit×Bool) := fun ⟨⟨a,c,_⟩,f,_⟩ =>
bif c then
 some ((),true)
else
 some ((),!(Op.bytesLess (ByteArray.toList a) (ByteArray.toList f)||ByteArray.toList a==ByteArray.toList f))
def e85 (fu:Nat):Ent := ⟨85,(.cons (.agg 2 (.cons hT (.cons (.hole .bool) .nil))) (.cons hT .nil)),.nil,(.hole .bool),p85 fu⟩
theorem g85 (fu:Nat):(e85 fu).Good Tryz.prog := good_fx orders Tryz.func85 fu [] [] rs85 13 (l := []) trivial
def rs41:List RVx := [(.tmp 2)]
def p41 (fu:Nat):(ByteArray×(ByteArray×Unit))×Unit→Option (Unit×Int) := fun ⟨⟨a,c,_⟩,_⟩ =>
Option.bind (p79 fu (a,())) fun ⟨_,f⟩ =>
bif !f then
 some ((),(131:Int))
else
 Option.bind (p79 fu (c,())) fun ⟨_,h⟩ =>
 bif !h then
 some ((),(131:Int))
 else
 Option.bind (p42 fu ((a,c,()),())) fun ⟨_,⟨i,j,_⟩⟩ =>
 Option.bind (p85 fu ((i,j,()),a,())) fun ⟨_,k⟩ =>
 bif !k then
 some ((),(132:Int))
 else
 some ((),(0:Int))
def e41 (fu:Nat):Ent := ⟨41,(.cons (.agg 2 (.cons hT (.cons hT .nil))) .nil),.nil,hI,p41 fu⟩
theorem g41 (fu:Nat):(e41 fu).Good Tryz.prog := good_fx orders Tryz.func41 fu [(4,(.ent (e79 fu))),(9,(.ent (e79 fu))),(14,(.ent (e42 fu))),(17,(.ent (e85 fu)))] [] rs41 19 (l := [e79 fu,e79 fu,e42 fu,e85 fu]) ⟨g79 fu,g79 fu,g42 fu,g85 fu,trivial⟩
def rs86:List RVx := [(.tmp 2)]
def p86 (_:Nat):(Int×(ByteArray×((List Int)×(Int×(Int×Unit)))))×Unit→Option (Unit×Int) := fun ⟨⟨_,a,c,_,_,_⟩,_⟩ =>
bif decide ((ByteArray.size a:Int)>(32:Int)) then
 some ((),(131:Int))
else
 bif decide ((c.length:Int)>(256:Int)) then
 some ((),(144:Int))
 else
 some ((),(0:Int))
def e86 (fu:Nat):Ent := ⟨86,(.cons Y2 .nil),.nil,hI,p86 fu⟩
theorem g86 (fu:Nat):(e86 fu).Good Tryz.prog := good_fx orders Tryz.func86 fu [] [] rs86 13 (l := []) trivial
def rs43:List RVx := [(.tmp 2)]
def p43 (fu:Nat):(List (D_api_Record))×Unit→Option (Unit×Bool) := fun ⟨a,_⟩ =>
loopO (S := (Int×Unit)×Unit) fu (fun ⟨⟨c,_⟩,_⟩ =>
 bif decide (c<(a.length:Int)) then
 bif decide ((0:Int)≤c∧c<(a.length:Int)) then
 bif decide (c.toNat<a.length) then
 bif (((a.getD (c.toNat) (dflt T_api_Record)).1) != (IntKind.wrap .u64 c)) then
 inrO (some ((),false))
 else
 Option.bind (p86 fu (((a.getD (c.toNat) (dflt T_api_Record)).1,((a.getD (c.toNat) (dflt T_api_Record)).2).1,(((a.getD (c.toNat) (dflt T_api_Record)).2).2).1,((((a.getD (c.toNat) (dflt T_api_Record)).2).2).2).1,((((a.getD (c.toNat) (dflt T_api_Record)).2).2).2).2,()),())) fun ⟨_,f⟩ =>
 bif (f != (0:Int)) then
 inrO (some ((),false))
 else
 some (.inl ((IntKind.wrap .i64 (c+(1:Int)),()),()))
 else none
 else none
 else
 inrO (some ((),decide ((a.length:Int)≤(4096:Int)))))
 (((0:Int),()),())
def e43 (fu:Nat):Ent := ⟨43,(.cons (.hole (.sl .any T_api_Record)) .nil),.nil,(.hole .bool),p43 fu⟩
theorem g43 (fu:Nat):(e43 fu).Good Tryz.prog := good_fx orders Tryz.func43 fu [(18,(.ent (e86 fu)))] [(3,⟨[7],(.cons hI .nil),[],.nil,[0,5,6],[]⟩)] rs43 26 (l := [e86 fu]) ⟨g86 fu,trivial⟩
def rs103:List RVx := [(.tmp 2)]
def p103 (_:Nat):Int×Unit→Option (Unit×Bool) := fun ⟨a,_⟩ =>
some ((),(a != a))
def e103 (fu:Nat):Ent := ⟨103,(.cons hU .nil),.nil,(.hole .bool),p103 fu⟩
theorem g103 (fu:Nat):(e103 fu).Good Tryz.prog := good_fx orders Tryz.func103 fu [] [] rs103 6 (l := []) trivial
def rs89:List RVx := [(.tmp 4)]
def p89 (fu:Nat):Int×(Int×Unit)→Option (Unit×Int) := fun ⟨a,c,_⟩ =>
Option.bind (p103 fu (a,())) fun ⟨_,f⟩ =>
Option.bind (p103 fu (c,())) fun ⟨_,h⟩ =>
bif f then
 bif h then
 some ((),(0:Int))
 else
 some ((),((-1):Int))
else
 bif h then
 some ((),(1:Int))
 else
 bif decide (a<c) then
 some ((),((-1):Int))
 else
 bif decide (a>c) then
 some ((),(1:Int))
 else
 some ((),(0:Int))
def e89 (fu:Nat):Ent := ⟨89,(.cons hU (.cons hU .nil)),.nil,hI,p89 fu⟩
theorem g89 (fu:Nat):(e89 fu).Good Tryz.prog := good_fx orders Tryz.func89 fu [(2,(.ent (e103 fu))),(5,(.ent (e103 fu)))] [] rs89 20 (l := [e103 fu,e103 fu]) ⟨g103 fu,g103 fu,trivial⟩
def rs52:List RVx := [(.tmp 4)]
def p52 (fu:Nat):(Int×(Int×(Bool×(Int×Unit))))×((Int×(Int×(Bool×(Int×Unit))))×Unit)→Option (Unit×Int) := fun ⟨⟨a,_,_,_,_⟩,⟨c,_,_,_,_⟩,_⟩ =>
Option.bind (p89 fu (a,c,())) fun ⟨_,f⟩ =>
some ((),f)
def e52 (fu:Nat):Ent := ⟨52,(.cons (.agg 4 (.cons hU (.cons hU (.cons (.hole .bool) (.cons hU .nil))))) (.cons (.agg 4 (.cons hU (.cons hU (.cons (.hole .bool) (.cons hU .nil))))) .nil)),.nil,hI,p52 fu⟩
theorem g52 (fu:Nat):(e52 fu).Good Tryz.prog := good_fx orders Tryz.func52 fu [(7,(.ent (e89 fu)))] [] rs52 10 (l := [e89 fu]) ⟨g89 fu,trivial⟩
def rs88:List RVx := [(.tmp 2)]
def p88 (_:Nat):Int×Unit→Option (Unit×Bool) := fun ⟨a,_⟩ =>
bif decide (a≥(1:Int)) then
 some ((),decide (a≤(9223372036854775807:Int)))
else
 some ((),false)
def e88 (fu:Nat):Ent := ⟨88,(.cons hU .nil),.nil,(.hole .bool),p88 fu⟩
theorem g88 (fu:Nat):(e88 fu).Good Tryz.prog := good_fx orders Tryz.func88 fu [] [] rs88 9 (l := []) trivial
def rs49:List RVx := [(.tmp 2)]
def p49 (fu:Nat):(List (D_api_Producer))×Unit→Option (Unit×Bool) := fun ⟨a,_⟩ =>
loopO (S := (Int×Unit)×Unit) fu (fun ⟨⟨c,_⟩,_⟩ =>
 bif decide (c<(a.length:Int)) then
 bif decide ((0:Int)≤c∧c<(a.length:Int)) then
 bif decide (c.toNat<a.length) then
 orK (E := (Bool×Unit)×Unit)
 (bif (c==(0:Int)) then
 some (.inl ((true,()),()))
 else
 bif decide ((0:Int)≤IntKind.wrap .i64 (c-(1:Int))∧IntKind.wrap .i64 (c-(1:Int))<(a.length:Int)) then
 bif decide (Int.toNat (IntKind.wrap .i64 (c-(1:Int)))<a.length) then
 Option.bind (p52 fu (((a.getD (Int.toNat (IntKind.wrap .i64 (c-(1:Int)))) (dflt T_api_Producer)).1,((a.getD (Int.toNat (IntKind.wrap .i64 (c-(1:Int)))) (dflt T_api_Producer)).2).1,(((a.getD (Int.toNat (IntKind.wrap .i64 (c-(1:Int)))) (dflt T_api_Producer)).2).2).1,(((a.getD (Int.toNat (IntKind.wrap .i64 (c-(1:Int)))) (dflt T_api_Producer)).2).2).2,()),((a.getD (c.toNat) (dflt T_api_Producer)).1,((a.getD (c.toNat) (dflt T_api_Producer)).2).1,(((a.getD (c.toNat) (dflt T_api_Producer)).2).2).1,(((a.getD (c.toNat) (dflt T_api_Producer)).2).2).2,()),())) fun ⟨_,f⟩ =>
 some (.inl ((decide (f<(0:Int)),()),()))
 else none
 else none)
 fun ⟨⟨h,_⟩,_⟩ =>
 bif (((a.getD (c.toNat) (dflt T_api_Producer)).1)==(0:Int)) then
 inrO (some ((),false))
 else
 Option.bind (p88 fu (((a.getD (c.toNat) (dflt T_api_Producer)).2).1,())) fun ⟨_,i⟩ =>
 bif !i then
 inrO (some ((),false))
 else
 bif !h then
 inrO (some ((),false))
 else
 bif !((((a.getD (c.toNat) (dflt T_api_Producer)).2).2).1) then
 bif (((((a.getD (c.toNat) (dflt T_api_Producer)).2).2).2) != (0:Int)) then
 inrO (some ((),false))
 else
 some (.inl ((IntKind.wrap .i64 (c+(1:Int)),()),()))
 else
 some (.inl ((IntKind.wrap .i64 (c+(1:Int)),()),()))
 else none
 else none
 else
 inrO (some ((),decide ((a.length:Int)≤(256:Int)))))
 (((0:Int),()),())
def e49 (fu:Nat):Ent := ⟨49,(.cons (.hole (.sl .any T_api_Producer)) .nil),.nil,(.hole .bool),p49 fu⟩
theorem g49 (fu:Nat):(e49 fu).Good Tryz.prog := good_fx orders Tryz.func49 fu [(20,(.ent (e52 fu))),(30,(.ent (e88 fu)))] [(3,⟨[8],(.cons hI .nil),[],.nil,[0,6,7],[]⟩),(8,⟨[5],(.cons (.hole .bool) .nil),[],.nil,[0,4,6,7,8],[128]⟩)] rs49 52 (l := [e52 fu,e88 fu]) ⟨g52 fu,g88 fu,trivial⟩
def rs90:List RVx := [(.tmp 2)]
def p90 (fu:Nat):ByteArray×Unit→Option (Unit×Bool) := fun ⟨a,_⟩ =>
loopO (S := (Int×Unit)×Unit) fu (fun ⟨⟨c,_⟩,_⟩ =>
 bif decide (c<(List.length (numsOf a):Int)) then
 bif decide ((0:Int)≤c∧c<(List.length (numsOf a):Int)) then
 bif decide (c.toNat<List.length (numsOf a)) then
 bif decide ((List.getD (numsOf a) (c.toNat) (dflt (.int .u8)))<(97:Int)) then
 bif decide ((List.getD (numsOf a) (c.toNat) (dflt (.int .u8)))<(48:Int)) then
 bif ((List.getD (numsOf a) (c.toNat) (dflt (.int .u8))) != (45:Int)) then
 bif ((List.getD (numsOf a) (c.toNat) (dflt (.int .u8))) != (95:Int)) then
 bif ((List.getD (numsOf a) (c.toNat) (dflt (.int .u8))) != (46:Int)) then
 inrO (some ((),false))
 else
 some (.inl ((IntKind.wrap .i64 (c+(1:Int)),()),()))
 else
 some (.inl ((IntKind.wrap .i64 (c+(1:Int)),()),()))
 else
 some (.inl ((IntKind.wrap .i64 (c+(1:Int)),()),()))
 else
 bif decide ((List.getD (numsOf a) (c.toNat) (dflt (.int .u8)))>(57:Int)) then
 bif ((List.getD (numsOf a) (c.toNat) (dflt (.int .u8))) != (45:Int)) then
 bif ((List.getD (numsOf a) (c.toNat) (dflt (.int .u8))) != (95:Int)) then
 bif ((List.getD (numsOf a) (c.toNat) (dflt (.int .u8))) != (46:Int)) then
 inrO (some ((),false))
 else
 some (.inl ((IntKind.wrap .i64 (c+(1:Int)),()),()))
 else
 some (.inl ((IntKind.wrap .i64 (c+(1:Int)),()),()))
 else
 some (.inl ((IntKind.wrap .i64 (c+(1:Int)),()),()))
 else
 some (.inl ((IntKind.wrap .i64 (c+(1:Int)),()),()))
 else
 bif decide ((List.getD (numsOf a) (c.toNat) (dflt (.int .u8)))>(122:Int)) then
 bif decide ((List.getD (numsOf a) (c.toNat) (dflt (.int .u8)))<(48:Int)) then
 bif ((List.getD (numsOf a) (c.toNat) (dflt (.int .u8))) != (45:Int)) then
 bif ((List.getD (numsOf a) (c.toNat) (dflt (.int .u8))) != (95:Int)) then
 bif ((List.getD (numsOf a) (c.toNat) (dflt (.int .u8))) != (46:Int)) then
 inrO (some ((),false))
 else
 some (.inl ((IntKind.wrap .i64 (c+(1:Int)),()),()))
 else
 some (.inl ((IntKind.wrap .i64 (c+(1:Int)),()),()))
 else
 some (.inl ((IntKind.wrap .i64 (c+(1:Int)),()),()))
 else
 bif decide ((List.getD (numsOf a) (c.toNat) (dflt (.int .u8)))>(57:Int)) then
 bif ((List.getD (numsOf a) (c.toNat) (dflt (.int .u8))) != (45:Int)) then
 bif ((List.getD (numsOf a) (c.toNat) (dflt (.int .u8))) != (95:Int)) then
 bif ((List.getD (numsOf a) (c.toNat) (dflt (.int .u8))) != (46:Int)) then
 inrO (some ((),false))
 else
 some (.inl ((IntKind.wrap .i64 (c+(1:Int)),()),()))
 else
 some (.inl ((IntKind.wrap .i64 (c+(1:Int)),()),()))
 else
 some (.inl ((IntKind.wrap .i64 (c+(1:Int)),()),()))
 else
 some (.inl ((IntKind.wrap .i64 (c+(1:Int)),()),()))
 else
 some (.inl ((IntKind.wrap .i64 (c+(1:Int)),()),()))
 else none
 else none
 else
 inrO (bif decide ((ByteArray.size a:Int)≥(1:Int)) then
 some ((),decide ((ByteArray.size a:Int)≤(32:Int)))
 else
 some ((),false)))
 (((0:Int),()),())
def e90 (fu:Nat):Ent := ⟨90,(.cons hT .nil),.nil,(.hole .bool),p90 fu⟩
theorem g90 (fu:Nat):(e90 fu).Good Tryz.prog := good_fx orders Tryz.func90 fu [] [(3,⟨[8],(.cons hI .nil),[],.nil,[0,6,7],[]⟩)] rs90 47 (l := []) trivial
def rs54:List RVx := [(.tmp 2)]
def p54 (fu:Nat):(List (D_runtime_errorAddressString))×Unit→Option (Unit×Bool) := fun ⟨a,_⟩ =>
loopO (S := (Int×Unit)×Unit) fu (fun ⟨⟨c,_⟩,_⟩ =>
 bif decide (c<(a.length:Int)) then
 bif decide ((0:Int)≤c∧c<(a.length:Int)) then
 bif decide (c.toNat<a.length) then
 Option.bind (p90 fu ((a.getD (c.toNat) (dflt T_runtime_errorAddressString)).1,())) fun ⟨_,f⟩ =>
 bif !f then
 inrO (some ((),false))
 else
 bif decide (c>(0:Int)) then
 bif decide ((0:Int)≤IntKind.wrap .i64 (c-(1:Int))∧IntKind.wrap .i64 (c-(1:Int))<(a.length:Int)) then
 bif decide (Int.toNat (IntKind.wrap .i64 (c-(1:Int)))<a.length) then
 bif !Op.bytesLess (ByteArray.toList ((a.getD (Int.toNat (IntKind.wrap .i64 (c-(1:Int)))) (dflt T_runtime_errorAddressString)).1)) (ByteArray.toList ((a.getD (c.toNat) (dflt T_runtime_errorAddressString)).1)) then
 inrO (some ((),false))
 else
 some (.inl ((IntKind.wrap .i64 (c+(1:Int)),()),()))
 else none
 else none
 else
 some (.inl ((IntKind.wrap .i64 (c+(1:Int)),()),()))
 else none
 else none
 else
 inrO (some ((),decide ((a.length:Int)≤(64:Int)))))
 (((0:Int),()),())
def e54 (fu:Nat):Ent := ⟨54,(.cons (.hole (.sl .any T_runtime_errorAddressString)) .nil),.nil,(.hole .bool),p54 fu⟩
theorem g54 (fu:Nat):(e54 fu).Good Tryz.prog := good_fx orders Tryz.func54 fu [(13,(.ent (e90 fu)))] [(3,⟨[7],(.cons hI .nil),[],.nil,[0,5,6],[]⟩)] rs54 35 (l := [e90 fu]) ⟨g90 fu,trivial⟩
def rs97:List RVx := [(.tmp 4)]
def p97 (fu:Nat):(Int×(Int×(Bool×(Int×Unit))))×(Int×Unit)→Option (Unit×Int) := fun ⟨⟨a,_,_,_,_⟩,c,_⟩ =>
Option.bind (p89 fu (a,c,())) fun ⟨_,f⟩ =>
some ((),f)
def e97 (fu:Nat):Ent := ⟨97,(.cons (.agg 4 (.cons hU (.cons hU (.cons (.hole .bool) (.cons hU .nil))))) (.cons hU .nil)),.nil,hI,p97 fu⟩
theorem g97 (fu:Nat):(e97 fu).Good Tryz.prog := good_fx orders Tryz.func97 fu [(5,(.ent (e89 fu)))] [] rs97 9 (l := [e89 fu]) ⟨g89 fu,trivial⟩
def rs96:List RVx := [(.tmp 6),(.tmp 7)]
def p96 (fu:Nat):(List (D_api_Producer))×(Int×((Unit×Unit)×Unit))→Option (Unit×(Int×(Bool×Unit))) := fun ⟨a,c,⟨_,_⟩,_⟩ =>
loopO (S := (Int×(Int×Unit))×Unit) fu (fun ⟨⟨f,h,_⟩,_⟩ =>
 bif decide (f<h) then
 bif decide ((0:Int)≤IntKind.wrap .i64 (Int.fdiv (IntKind.wrap .u64 (IntKind.wrap .i64 (f+h))) (2 ^ (min (Int.toNat (1:Int)) (IntKind.bits .u64))))∧IntKind.wrap .i64 (Int.fdiv (IntKind.wrap .u64 (IntKind.wrap .i64 (f+h))) (2 ^ (min (Int.toNat (1:Int)) (IntKind.bits .u64))))<(a.length:Int)) then
 bif decide (Int.toNat (IntKind.wrap .i64 (Int.fdiv (IntKind.wrap .u64 (IntKind.wrap .i64 (f+h))) (2 ^ (min (Int.toNat (1:Int)) (IntKind.bits .u64)))))<a.length) then
 Option.bind (p97 fu (((a.getD (Int.toNat (IntKind.wrap .i64 (Int.fdiv (IntKind.wrap .u64 (IntKind.wrap .i64 (f+h))) (2 ^ (min (Int.toNat (1:Int)) (IntKind.bits .u64)))))) (dflt T_api_Producer)).1,((a.getD (Int.toNat (IntKind.wrap .i64 (Int.fdiv (IntKind.wrap .u64 (IntKind.wrap .i64 (f+h))) (2 ^ (min (Int.toNat (1:Int)) (IntKind.bits .u64)))))) (dflt T_api_Producer)).2).1,(((a.getD (Int.toNat (IntKind.wrap .i64 (Int.fdiv (IntKind.wrap .u64 (IntKind.wrap .i64 (f+h))) (2 ^ (min (Int.toNat (1:Int)) (IntKind.bits .u64)))))) (dflt T_api_Producer)).2).2).1,(((a.getD (Int.toNat (IntKind.wrap .i64 (Int.fdiv (IntKind.wrap .u64 (IntKind.wrap .i64 (f+h))) (2 ^ (min (Int.toNat (1:Int)) (IntKind.bits .u64)))))) (dflt T_api_Producer)).2).2).2,()),c,())) fun ⟨_,i⟩ =>
 bif decide (i<(0:Int)) then
 some (.inl ((IntKind.wrap .i64 ((IntKind.wrap .i64 (Int.fdiv (IntKind.wrap .u64 (IntKind.wrap .i64 (f+h))) (2 ^ (min (Int.toNat (1:Int)) (IntKind.bits .u64)))))+(1:Int)),h,()),()))
 else
 some (.inl ((f,IntKind.wrap .i64 (Int.fdiv (IntKind.wrap .u64 (IntKind.wrap .i64 (f+h))) (2 ^ (min (Int.toNat (1:Int)) (IntKind.bits .u64)))),()),()))
 else none
 else none
 else
 inrO (bif decide (f<(a.length:Int)) then
 bif decide ((0:Int)≤f∧f<(a.length:Int)) then
 bif decide (f.toNat<a.length) then
 Option.bind (p97 fu (((a.getD (f.toNat) (dflt T_api_Producer)).1,((a.getD (f.toNat) (dflt T_api_Producer)).2).1,(((a.getD (f.toNat) (dflt T_api_Producer)).2).2).1,(((a.getD (f.toNat) (dflt T_api_Producer)).2).2).2,()),c,())) fun ⟨_,j⟩ =>
 some ((),(f,(j==(0:Int)),()))
 else none
 else none
 else
 some ((),(f,false,()))))
 (((0:Int),(a.length:Int),()),())
def e96 (fu:Nat):Ent := ⟨96,(.cons (.hole (.sl .any T_api_Producer)) (.cons hU (.cons (.clo 97 0 .nil 0 .nil) .nil))),.nil,(.tup 2 (.cons hI (.cons (.hole .bool) .nil))),p96 fu⟩
theorem g96 (fu:Nat):(e96 fu).Good Tryz.prog := good_fx orders Tryz.func96 fu [(24,(.ent (e97 fu))),(42,(.ent (e97 fu)))] [(4,⟨[9,10],(.cons hI (.cons hI .nil)),[],.nil,[0,1,2,8],[]⟩)] rs96 49 (l := [e97 fu,e97 fu]) ⟨g97 fu,g97 fu,trivial⟩
def rs80:List RVx := [(.tmp 4)]
def p80 (fu:Nat):(ByteArray×(ByteArray×Unit))×(ByteArray×Unit)→Option (Unit×Bool) := fun ⟨⟨a,c,_⟩,f,_⟩ =>
Option.bind (p41 fu ((a,c,()),())) fun ⟨_,h⟩ =>
bif (h==(0:Int)) then
 Option.bind (p79 fu (f,())) fun ⟨_,i⟩ =>
 bif i then
 bif !Op.bytesLess (ByteArray.toList f) (ByteArray.toList a) then
 Option.bind (p42 fu ((a,c,()),())) fun ⟨_,⟨j,k,_⟩⟩ =>
 Option.bind (p85 fu ((j,k,()),f,())) fun ⟨_,l⟩ =>
 some ((),l)
 else
 some ((),false)
 else
 some ((),false)
else
 some ((),false)
def e80 (fu:Nat):Ent := ⟨80,(.cons (.agg 2 (.cons hT (.cons hT .nil))) (.cons hT .nil)),.nil,(.hole .bool),p80 fu⟩
theorem g80 (fu:Nat):(e80 fu).Good Tryz.prog := good_fx orders Tryz.func80 fu [(3,(.ent (e41 fu))),(7,(.ent (e79 fu))),(17,(.ent (e42 fu))),(19,(.ent (e85 fu)))] [] rs80 24 (l := [e41 fu,e79 fu,e42 fu,e85 fu]) ⟨g41 fu,g79 fu,g42 fu,g85 fu,trivial⟩
def rs62:List RVx := [(.tmp 2)]
def p62 (fu:Nat):(Z0)×Unit→Option (Unit×Bool) := fun ⟨⟨a,c,_,_,f,h,_,_⟩,_⟩ =>
bif decide ((0:Int)≤(h.length:Int)∧((h.length:Int):Int)≤(h.length:Int)∧((h.length:Int):Int)≤9223372036854775807∧(8:Int) * (h.length:Int)≤140737488355328) then
 bif decide (Int.toNat (h.length:Int)=List.length (List.replicate (Int.toNat (h.length:Int)) (0:Int):List Int)) then
 loopO (S := ((List Int)×(Int×Unit))×Unit) fu (fun ⟨⟨i,j,_⟩,_⟩ =>
 bif decide (j<(f.length:Int)) then
 bif decide ((0:Int)≤j∧j<(f.length:Int)) then
 bif decide (j.toNat<f.length) then
 Option.bind (p96 fu (h,((((f.getD (j.toNat) (dflt T_api_Record)).2).2).2).1,((),()),())) fun ⟨_,⟨k,l,_⟩⟩ =>
 bif !l then
 inrO (some ((),false))
 else
 Option.bind (p80 fu ((a,c,()),((f.getD (j.toNat) (dflt T_api_Record)).2).1,())) fun ⟨_,m⟩ =>
 bif !m then
 inrO (some ((),false))
 else
 bif decide ((0:Int)≤k∧k<(i.length:Int)) then
 bif decide (k.toNat<i.length) then
 bif decide ((((((f.getD (j.toNat) (dflt T_api_Record)).2).2).2).2)≤(i.getD (k.toNat) (dflt (.int .u64)))) then
 inrO (some ((),false))
 else
 bif decide ((0:Int)≤k∧k<(h.length:Int)) then
 bif decide (k.toNat<h.length) then
 bif decide ((((((f.getD (j.toNat) (dflt T_api_Record)).2).2).2).2)>(((h.getD (k.toNat) (dflt T_api_Producer)).2).1)) then
 inrO (some ((),false))
 else
 bif decide ((0:Int)≤k∧k<(i.length:Int)) then
 bif decide (k.toNat<i.length) then
 bif decide (i.length=List.length (List.set i (k.toNat) (((((f.getD (j.toNat) (dflt T_api_Record)).2).2).2).2))) then
 some (.inl (((List.set i (k.toNat) (((((f.getD (j.toNat) (dflt T_api_Record)).2).2).2).2)),IntKind.wrap .i64 (j+(1:Int)),()),()))
 else none
 else none
 else none
 else none
 else none
 else none
 else none
 else none
 else none
 else
 inrO (some ((),true)))
 (((List.replicate (Int.toNat (h.length:Int)) (0:Int):List Int),(0:Int),()),())
 else none
else none
def e62 (fu:Nat):Ent := ⟨62,(.cons Y3 .nil),.nil,(.hole .bool),p62 fu⟩
theorem g62 (fu:Nat):(e62 fu).Good Tryz.prog := good_fx orders Tryz.func62 fu [(5,(.ty (.int .u64))),(20,(.ent (e96 fu))),(33,(.ent (e80 fu)))] [(4,⟨[3,15],(.cons (.own .own 24 (.int .u64)) (.cons hI .nil)),[],.nil,[1,13,14],[0]⟩)] rs62 63 (l := [e96 fu,e80 fu]) ⟨g96 fu,g80 fu,trivial⟩
def rs63:List RVx := [(.tmp 2)]
def p63 (fu:Nat):(Z0)×Unit→Option (Unit×Bool) := fun ⟨⟨_,_,_,_,a,c,_,_⟩,_⟩ =>
loopO (S := (Int×Unit)×Unit) fu (fun ⟨⟨f,_⟩,_⟩ =>
 bif decide (f<(c.length:Int)) then
 bif decide ((0:Int)≤f∧f<(c.length:Int)) then
 bif decide (f.toNat<c.length) then
 bif !((((c.getD (f.toNat) (dflt T_api_Producer)).2).2).1) then
 some (.inl ((IntKind.wrap .i64 (f+(1:Int)),()),()))
 else
 bif decide (((((c.getD (f.toNat) (dflt T_api_Producer)).2).2).2)≥(IntKind.wrap .u64 (a.length:Int))) then
 inrO (some ((),false))
 else
 bif decide ((0:Int)≤(((c.getD (f.toNat) (dflt T_api_Producer)).2).2).2∧(((c.getD (f.toNat) (dflt T_api_Producer)).2).2).2<(a.length:Int)) then
 bif decide (Int.toNat ((((c.getD (f.toNat) (dflt T_api_Producer)).2).2).2)<a.length) then
 bif ((((((a.getD (Int.toNat ((((c.getD (f.toNat) (dflt T_api_Producer)).2).2).2)) (dflt T_api_Record)).2).2).2).1) != ((c.getD (f.toNat) (dflt T_api_Producer)).1)) then
 inrO (some ((),false))
 else
 bif ((((((a.getD (Int.toNat ((((c.getD (f.toNat) (dflt T_api_Producer)).2).2).2)) (dflt T_api_Record)).2).2).2).2) != (((c.getD (f.toNat) (dflt T_api_Producer)).2).1)) then
 inrO (some ((),false))
 else
 some (.inl ((IntKind.wrap .i64 (f+(1:Int)),()),()))
 else none
 else none
 else none
 else none
 else
 inrO (some ((),true)))
 (((0:Int),()),())
def e63 (fu:Nat):Ent := ⟨63,(.cons Y3 .nil),.nil,(.hole .bool),p63 fu⟩
theorem g63 (fu:Nat):(e63 fu).Good Tryz.prog := good_fx orders Tryz.func63 fu [] [(3,⟨[9],(.cons hI .nil),[],.nil,[1,7,8],[0]⟩)] rs63 42 (l := []) trivial
def rs64:List RVx := [(.tmp 2)]
def p64 (fu:Nat):(Z0)×Unit→Option (Unit×Bool) := fun ⟨⟨_,_,_,_,a,_,c,_⟩,_⟩ =>
loopO (S := (Int×Unit)×Unit) fu (fun ⟨⟨f,_⟩,_⟩ =>
 bif decide (f<(c.length:Int)) then
 bif decide ((0:Int)≤f∧f<(c.length:Int)) then
 bif decide (f.toNat<c.length) then
 bif decide (((c.getD (f.toNat) (dflt T_runtime_errorAddressString)).2)>(IntKind.wrap .u64 (a.length:Int))) then
 inrO (some ((),false))
 else
 some (.inl ((IntKind.wrap .i64 (f+(1:Int)),()),()))
 else none
 else none
 else
 inrO (some ((),true)))
 (((0:Int),()),())
def e64 (fu:Nat):Ent := ⟨64,(.cons Y3 .nil),.nil,(.hole .bool),p64 fu⟩
theorem g64 (fu:Nat):(e64 fu).Good Tryz.prog := good_fx orders Tryz.func64 fu [] [(3,⟨[8],(.cons hI .nil),[],.nil,[1,6,7],[0]⟩)] rs64 20 (l := []) trivial
def rs26:List RVx := [(.tmp 2)]
def p26 (fu:Nat):(Z0)×Unit→Option (Unit×Int) := fun ⟨⟨a,c,f,h,i,j,k,_⟩,_⟩ =>
orK (E := (Bool×Unit)×Unit)
 (Option.bind (p41 fu ((a,c,()),())) fun ⟨_,l⟩ =>
 bif (l==(0:Int)) then
 bif (f != (0:Int)) then
 Option.bind (p43 fu (i,())) fun ⟨_,m⟩ =>
 bif m then
 Option.bind (p49 fu (j,())) fun ⟨_,n⟩ =>
 bif n then
 Option.bind (p54 fu (k,())) fun ⟨_,o⟩ =>
 bif o then
 Option.bind (p62 fu ((a,c,f,h,i,j,k,()),())) fun ⟨_,q⟩ =>
 bif q then
 Option.bind (p63 fu ((a,c,f,h,i,j,k,()),())) fun ⟨_,s⟩ =>
 bif s then
 Option.bind (p64 fu ((a,c,f,h,i,j,k,()),())) fun ⟨_,t⟩ =>
 some (.inl ((t,()),()))
 else
 some (.inl ((false,()),()))
 else
 some (.inl ((false,()),()))
 else
 some (.inl ((false,()),()))
 else
 some (.inl ((false,()),()))
 else
 some (.inl ((false,()),()))
 else
 some (.inl ((false,()),()))
 else
 some (.inl ((false,()),())))
 fun ⟨⟨u,_⟩,_⟩ =>
bif !u then
 some ((),(165:Int))
else
 some ((),(0:Int))
def e26 (fu:Nat):Ent := ⟨26,(.cons Y3 .nil),.nil,hI,p26 fu⟩
theorem g26 (fu:Nat):(e26 fu).Good Tryz.prog := good_fx orders Tryz.func26 fu [(4,(.ent (e41 fu))),(14,(.ent (e43 fu))),(19,(.ent (e49 fu))),(24,(.ent (e54 fu))),(28,(.ent (e62 fu))),(32,(.ent (e63 fu))),(36,(.ent (e64 fu)))] [(1,⟨[3],(.cons (.hole .bool) .nil),[],.nil,[],[]⟩)] rs26 42 (l := [e41 fu,e43 fu,e49 fu,e54 fu,e62 fu,e63 fu,e64 fu]) ⟨g41 fu,g43 fu,g49 fu,g54 fu,g62 fu,g63 fu,g64 fu,trivial⟩
def rs16:List RVx := [(.tmp 2)]
def p16 (fu:Nat):(List (D_api_Part))×Unit→Option (Unit×Int) := fun ⟨a,_⟩ =>
loopO (S := (Int×Unit)×Unit) fu (fun ⟨⟨c,_⟩,_⟩ =>
 bif decide (c<(a.length:Int)) then
 bif decide ((0:Int)≤c∧c<(a.length:Int)) then
 bif decide (c.toNat<a.length) then
 Option.bind (p26 fu ((((a.getD (c.toNat) (dflt T_api_Part)).1).1,((a.getD (c.toNat) (dflt T_api_Part)).1).2,((a.getD (c.toNat) (dflt T_api_Part)).2).1,(((a.getD (c.toNat) (dflt T_api_Part)).2).2).1,((((a.getD (c.toNat) (dflt T_api_Part)).2).2).2).1,(((((a.getD (c.toNat) (dflt T_api_Part)).2).2).2).2).1,(((((a.getD (c.toNat) (dflt T_api_Part)).2).2).2).2).2,()),())) fun ⟨_,f⟩ =>
 Option.bind (pIsN fu (f,(165:Int),())) fun ⟨_,h⟩ =>
 bif h then
 inrO (some ((),(172:Int)))
 else
 bif ((((a.getD (c.toNat) (dflt T_api_Part)).2).1)==(18446744073709551615:Int)) then
 inrO (some ((),(172:Int)))
 else
 some (.inl ((IntKind.wrap .i64 (c+(1:Int)),()),()))
 else none
 else none
 else
 inrO (loopO (S := (Int×Unit)×Unit) fu (fun ⟨⟨i,_⟩,_⟩ =>
 bif decide (i<(a.length:Int)) then
 bif decide ((0:Int)≤i∧i<(a.length:Int)) then
 bif decide (i.toNat<a.length) then
 bif (((((a.getD (i.toNat) (dflt T_api_Part)).2).2).1)==(0:Int)) then
 inrO (some ((),(171:Int)))
 else
 some (.inl ((IntKind.wrap .i64 (i+(1:Int)),()),()))
 else none
 else none
 else
 inrO (some ((),(0:Int))))
 (((0:Int),()),())))
 (((0:Int),()),())
def e16 (fu:Nat):Ent := ⟨16,(.cons (.hole (.sl .any T_api_Part)) .nil),.nil,hI,p16 fu⟩
theorem g16 (fu:Nat):(e16 fu).Good Tryz.prog := good_fx orders Tryz.func16 fu [(10,(.ent (e26 fu))),(13,(.ent (eIsN fu)))] [(3,⟨[9],(.cons hI .nil),[],.nil,[0,7,8],[]⟩),(12,⟨[26],(.cons hI .nil),[],.nil,[24,25],[]⟩)] rs16 34 (l := [e26 fu,eIsN fu]) ⟨g26 fu,gIsN fu,trivial⟩
def rs35:List RVx := [(.cell 4 true 2),(.cell 5 true 2),(.tmp 6)]
def p35 (fu:Nat):(ByteArray×(ByteArray×Unit))×(ByteArray×Unit)→Option (Unit×((ByteArray×(ByteArray×Unit))×((ByteArray×(ByteArray×Unit))×(Int×Unit)))) := fun ⟨⟨a,c,_⟩,f,_⟩ =>
Option.bind (p41 fu ((a,c,()),())) fun ⟨_,h⟩ =>
orK (E := (Int×Unit)×Unit)
 (bif (h != (0:Int)) then
 some (.inl ((h,()),()))
 else
 Option.bind (p79 fu (f,())) fun ⟨_,i⟩ =>
 bif !i then
 some (.inl (((131:Int),()),()))
 else
 bif (Op.bytesLess (ByteArray.toList f) (ByteArray.toList a)||ByteArray.toList f==ByteArray.toList a) then
 some (.inl (((132:Int),()),()))
 else
 Option.bind (p80 fu ((a,c,()),f,())) fun ⟨_,j⟩ =>
 bif !j then
 some (.inl (((132:Int),()),()))
 else
 some (.inl ((h,()),())))
 fun ⟨⟨k,_⟩,_⟩ =>
bif (k != (0:Int)) then
 some ((),(((⟨#[]⟩:ByteArray),(⟨#[]⟩:ByteArray),()),((⟨#[]⟩:ByteArray),(⟨#[]⟩:ByteArray),()),k,()))
else
 some ((),((a,f,()),(f,c,()),(0:Int),()))
def e35 (fu:Nat):Ent := ⟨35,(.cons (.agg 2 (.cons hT (.cons hT .nil))) (.cons hT .nil)),.nil,Y4,p35 fu⟩
theorem g35 (fu:Nat):(e35 fu).Good Tryz.prog := good_fx orders Tryz.func35 fu [(5,(.ent (e41 fu))),(11,(.ent (e79 fu))),(22,(.ent (e80 fu)))] [(2,⟨[7],(.cons hI .nil),[],.nil,[1,2,4,5],[0,16,32]⟩)] rs35 41 (l := [e41 fu,e79 fu,e80 fu]) ⟨g41 fu,g79 fu,g80 fu,trivial⟩
def rs102:List RVx := [(.tmp 2)]
def p102 (_:Nat):(List Int)×Unit→Option (Unit×(List Int)) := fun ⟨a,_⟩ =>
bif ((a.length:Int)==(0:Int)) then
 some ((),[])
else
 bif decide ((0:Int)≤(a.length:Int)∧((a.length:Int):Int)≤(a.length:Int)∧((a.length:Int):Int)≤9223372036854775807∧(1:Int) * (a.length:Int)≤140737488355328) then
 bif decide (Int.toNat (a.length:Int)=List.length (List.replicate (Int.toNat (a.length:Int)) (0:Int):List Int)) then
 bif decide (Int.toNat (a.length:Int)=List.length (copyL (List.replicate (Int.toNat (a.length:Int)) (0:Int):List Int) 0 (Int.toNat (a.length:Int)) a)) then
 some ((),(copyL (List.replicate (Int.toNat (a.length:Int)) (0:Int):List Int) 0 (Int.toNat (a.length:Int)) a))
 else none
 else none
 else none
def e102 (fu:Nat):Ent := ⟨102,(.cons (.hole (.sl .any (.int .u8))) .nil),.nil,(.own .own 5 (.int .u8)),p102 fu⟩
theorem g102 (fu:Nat):(e102 fu).Good Tryz.prog := good_fx orders Tryz.func102 fu [(7,(.ty (.int .u8)))] [] rs102 14 (l := []) trivial
def rs87:List RVx := [(.cell 2 true 5)]
def p87 (fu:Nat):(Int×(ByteArray×((List Int)×(Int×(Int×Unit)))))×Unit→Option (Unit×(Int×(ByteArray×((List Int)×(Int×(Int×Unit)))))) := fun ⟨⟨a,c,f,h,i,_⟩,_⟩ =>
Option.bind (p102 fu (f,())) fun ⟨_,j⟩ =>
bif decide (j.length=j.length) then
 some ((),(a,c,j,h,i,()))
else none
def e87 (fu:Nat):Ent := ⟨87,(.cons Y2 .nil),.nil,Y5,p87 fu⟩
theorem g87 (fu:Nat):(e87 fu).Good Tryz.prog := good_fx orders Tryz.func87 fu [(4,(.ent (e102 fu)))] [] rs87 8 (l := [e102 fu]) ⟨g102 fu,trivial⟩
def rs47:List RVx := [(.tmp 4)]
def p47_1 (fu:Nat):(List (D_api_Record))×((Int×(ByteArray×((List Int)×(Int×(Int×Unit)))))×Unit)→Option ((Unit×Unit)×(List (D_api_Record))) := fun ⟨a,⟨c,f,h,i,j,_⟩,_⟩ =>
Option.bind (p87 fu ((c,f,h,i,j,()),())) fun ⟨_,⟨_,k,l,m,n,_⟩⟩ =>
bif decide (l.length=l.length) then
 bif decide (a.length=a.length) then
 bif decide (a.length+List.length ([(IntKind.wrap .u64 ((a.length):Int),k,l,m,n)])≤maxLen∧(a.length+List.length ([(IntKind.wrap .u64 ((a.length):Int),k,l,m,n)])) * 64≤140737488355328) then
 bif decide (List.length (a ++ [(IntKind.wrap .u64 ((a.length):Int),k,l,m,n)])=List.length (a ++ [(IntKind.wrap .u64 ((a.length):Int),k,l,m,n)])) then
 some (((),()),(a ++ [(IntKind.wrap .u64 ((a.length):Int),k,l,m,n)]))
 else none
 else none
 else none
else none
def e47_1 (fu:Nat):Ent := ⟨47,(.cons (.own .own 38 T_api_Record_n) (.cons Y2 .nil)),(.cons .dead .nil),(.own .own 38 T_api_Record_n),p47_1 fu⟩
theorem g47_1 (fu:Nat):(e47_1 fu).Good Tryz.prog := good_fx orders Tryz.func47 fu [(3,(.ent (e87 fu))),(12,(.ty T_api_Record_n)),(13,(.ty T_api_Record_n))] [] rs47 15 (l := [e87 fu]) ⟨g87 fu,trivial⟩
def rs37:List RVx := [(.tmp 4),(.tmp 5)]
def p37 (fu:Nat):(List (D_api_Record))×((ByteArray×(ByteArray×Unit))×Unit)→Option (Unit×((List (D_api_Record))×((List Int)×Unit))) := fun ⟨a,⟨c,f,_⟩,_⟩ =>
Option.bind (p43 fu (a,())) fun ⟨_,h⟩ =>
bif !h then
 some ((),([],[],()))
else
 Option.bind (p41 fu ((c,f,()),())) fun ⟨_,i⟩ =>
 bif (i != (0:Int)) then
 some ((),([],[],()))
 else
 loopO (S := ((List (D_api_Record))×((List Int)×(Int×Unit)))×Unit) fu (fun ⟨⟨j,k,l,_⟩,_⟩ =>
 bif decide (l<(a.length:Int)) then
 bif decide ((0:Int)≤l∧l<(a.length:Int)) then
 bif decide (l.toNat<a.length) then
 bif decide (k.length=k.length) then
 bif decide (k.length+List.length ([IntKind.wrap .u64 ((j.length):Int)])≤maxLen∧(k.length+List.length ([IntKind.wrap .u64 ((j.length):Int)])) * 8≤140737488355328) then
 Option.bind (p80 fu ((c,f,()),((a.getD (l.toNat) (dflt T_api_Record)).2).1,())) fun ⟨_,m⟩ =>
 bif m then
 bif decide (j.length=j.length) then
 Option.bind (p47_1 fu (j,((a.getD (l.toNat) (dflt T_api_Record)).1,((a.getD (l.toNat) (dflt T_api_Record)).2).1,(((a.getD (l.toNat) (dflt T_api_Record)).2).2).1,((((a.getD (l.toNat) (dflt T_api_Record)).2).2).2).1,((((a.getD (l.toNat) (dflt T_api_Record)).2).2).2).2,()),())) fun ⟨⟨_,_⟩,n⟩ =>
 bif decide (n.length=n.length) then
 bif decide (List.length (k ++ [IntKind.wrap .u64 ((j.length):Int)])=List.length (k ++ [IntKind.wrap .u64 ((j.length):Int)])) then
 some (.inl ((n,(k ++ [IntKind.wrap .u64 ((j.length):Int)]),IntKind.wrap .i64 (l+(1:Int)),()),()))
 else none
 else none
 else none
 else
 bif decide (j.length=j.length) then
 bif decide (List.length (k ++ [IntKind.wrap .u64 ((j.length):Int)])=List.length (k ++ [IntKind.wrap .u64 ((j.length):Int)])) then
 some (.inl ((j,(k ++ [IntKind.wrap .u64 ((j.length):Int)]),IntKind.wrap .i64 (l+(1:Int)),()),()))
 else none
 else none
 else none
 else none
 else none
 else none
 else
 inrO (bif decide (k.length=k.length) then
 bif decide (k.length+List.length ([IntKind.wrap .u64 ((j.length):Int)])≤maxLen∧(k.length+List.length ([IntKind.wrap .u64 ((j.length):Int)])) * 8≤140737488355328) then
 bif decide (j.length=j.length) then
 bif decide (List.length (k ++ [IntKind.wrap .u64 ((j.length):Int)])=List.length (k ++ [IntKind.wrap .u64 ((j.length):Int)])) then
 some ((),(j,(k ++ [IntKind.wrap .u64 ((j.length):Int)]),()))
 else none
 else none
 else none
 else none))
 (([],[],(0:Int),()),())
def e37 (fu:Nat):Ent := ⟨37,(.cons (.hole (.sl .any T_api_Record)) (.cons (.agg 2 (.cons hT (.cons hT .nil))) .nil)),.nil,(.tup 2 (.cons (.own .own 38 T_api_Record_n) (.cons (.own .own 24 (.int .u64)) .nil))),p37 fu⟩
theorem g37 (fu:Nat):(e37 fu).Good Tryz.prog := good_fx orders Tryz.func37 fu [(4,(.ent (e43 fu))),(8,(.ent (e41 fu))),(27,(.ty (.int .u64))),(28,(.ty (.int .u64))),(33,(.ent (e80 fu))),(36,(.ent (e47_1 fu))),(45,(.ty (.int .u64))),(46,(.ty (.int .u64)))] [(8,⟨[6,7,20],(.cons (.own .own 38 T_api_Record_n) (.cons (.own .own 24 (.int .u64)) (.cons hI .nil))),[],.nil,[3,18,19],[0]⟩)] rs37 45 (l := [e43 fu,e41 fu,e80 fu,e47_1 fu]) ⟨g43 fu,g41 fu,g80 fu,g47_1 fu,trivial⟩
def rs83:List RVx := [(.tmp 4)]
def p83 (_:Nat):Int×((List Int)×Unit)→Option (Unit×Bool) := fun ⟨a,c,_⟩ =>
bif decide (a<(IntKind.wrap .u64 (c.length:Int))) then
 bif decide ((IntKind.wrap .u64 (a+(1:Int)))<(IntKind.wrap .u64 (c.length:Int))) then
 bif decide ((0:Int)≤a∧a<(c.length:Int)) then
 bif decide (a.toNat<c.length) then
 bif decide ((0:Int)≤IntKind.wrap .u64 (a+(1:Int))∧IntKind.wrap .u64 (a+(1:Int))<(c.length:Int)) then
 bif decide (Int.toNat (IntKind.wrap .u64 (a+(1:Int)))<c.length) then
 some ((),decide ((c.getD (a.toNat) (dflt (.int .u64)))<(c.getD (Int.toNat (IntKind.wrap .u64 (a+(1:Int)))) (dflt (.int .u64)))))
 else none
 else none
 else none
 else none
 else
 some ((),false)
else
 some ((),false)
def e83 (fu:Nat):Ent := ⟨83,(.cons hU (.cons (.hole (.sl .any (.int .u64))) .nil)),.nil,(.hole .bool),p83 fu⟩
theorem g83 (fu:Nat):(e83 fu).Good Tryz.prog := good_fx orders Tryz.func83 fu [] [] rs83 30 (l := []) trivial
def rs82:List RVx := [(.cell 3 true 4)]
def p82 (fu:Nat):(Int×(Int×(Bool×(Int×Unit))))×(((List Int)×Unit)×Unit)→Option (Unit×(Int×(Int×(Bool×(Int×Unit))))) := fun ⟨⟨a,c,f,h,_⟩,⟨i,_⟩,_⟩ =>
orK (E := (Bool×Unit)×Unit)
 (bif f then
 Option.bind (p83 fu (h,i,())) fun ⟨_,j⟩ =>
 some (.inl ((j,()),()))
 else
 some (.inl ((false,()),())))
 fun ⟨⟨k,_⟩,_⟩ =>
bif k then
 bif decide ((0:Int)≤h∧h<(i.length:Int)) then
 bif decide (h.toNat<i.length) then
 some ((),(a,c,true,(i.getD (h.toNat) (dflt (.int .u64))),()))
 else none
 else none
else
 some ((),(a,c,false,(0:Int),()))
def e82 (fu:Nat):Ent := ⟨82,(.cons (.agg 4 (.cons hU (.cons hU (.cons (.hole .bool) (.cons hU .nil))))) (.cons (.look (.cons (.hole (.sl .any (.int .u64))) .nil)) .nil)),.nil,(.agg 4 (.cons hU (.cons hU (.cons (.hole .bool) (.cons hU .nil))))),p82 fu⟩
theorem g82 (fu:Nat):(e82 fu).Good Tryz.prog := good_fx orders Tryz.func82 fu [(15,(.ent (e83 fu)))] [(3,⟨[17],(.cons (.hole .bool) .nil),[],.nil,[1,2,3,4],[0,16,112]⟩)] rs82 26 (l := [e83 fu]) ⟨g83 fu,trivial⟩
def rs81:List RVx := [(.tmp 4)]
def p81 (fu:Nat):(List (D_api_Producer))×((Unit×(((List Int)×Unit)×Unit))×Unit)→Option ((((List Int)×Unit)×Unit)×(List (D_api_Producer))) := fun ⟨a,⟨_,⟨⟨c,_⟩,_⟩⟩,_⟩ =>
bif ((a.length:Int)==(0:Int)) then
 some (((c,()),()),[])
else
 bif decide ((0:Int)≤(a.length:Int)∧((a.length:Int):Int)≤(a.length:Int)∧((a.length:Int):Int)≤9223372036854775807∧(32:Int) * (a.length:Int)≤140737488355328) then
 bif decide (Int.toNat (a.length:Int)=List.length (List.replicate (Int.toNat (a.length:Int)) ((0:Int),(0:Int),false,(0:Int)):List (D_api_Producer))) then
 loopO (S := ((List (D_api_Producer))×(Int×Unit))×Unit) fu (fun ⟨⟨f,h,_⟩,_⟩ =>
 bif decide (h<(a.length:Int)) then
 bif decide ((0:Int)≤h∧h<(a.length:Int)) then
 bif decide (h.toNat<a.length) then
 Option.bind (p82 fu (((a.getD (h.toNat) (dflt T_api_Producer)).1,((a.getD (h.toNat) (dflt T_api_Producer)).2).1,(((a.getD (h.toNat) (dflt T_api_Producer)).2).2).1,(((a.getD (h.toNat) (dflt T_api_Producer)).2).2).2,()),(c,()),())) fun ⟨_,⟨i,j,k,l,_⟩⟩ =>
 bif decide ((0:Int)≤h∧h<(f.length:Int)) then
 bif decide (h.toNat<f.length) then
 bif decide (f.length=List.length (List.set f (h.toNat) (i,j,k,l))) then
 some (.inl (((List.set f (h.toNat) (i,j,k,l)),IntKind.wrap .i64 (h+(1:Int)),()),()))
 else none
 else none
 else none
 else none
 else none
 else
 inrO (bif decide (f.length=f.length) then
 some (((c,()),()),f)
 else none))
 (((List.replicate (Int.toNat (a.length:Int)) ((0:Int),(0:Int),false,(0:Int)):List (D_api_Producer)),(0:Int),()),())
 else none
 else none
def e81 (fu:Nat):Ent := ⟨81,(.cons (.hole (.sl .any T_api_Producer)) (.cons (.clo 82 0 .nil 1 (.cons (.box 52 1 (.cons (.hole (.sl .any (.int .u64))) .nil)) .nil)) .nil)),(.cons (.agg 1 (.cons (.hole (.sl .any (.int .u64))) .nil)) .nil),(.own .own 46 T_api_Producer),p81 fu⟩
theorem g81 (fu:Nat):(e81 fu).Good Tryz.prog := good_fx orders Tryz.func81 fu [(7,(.ty T_api_Producer)),(23,(.ent (e82 fu)))] [(7,⟨[5,16],(.cons (.own .own 46 T_api_Producer) (.cons hI .nil)),[],.nil,[1,14,15],[0]⟩)] rs81 29 (l := [e82 fu]) ⟨g82 fu,trivial⟩
def rs38:List RVx := [(.tmp 4)]
def p38 (fu:Nat):(List (D_api_Producer))×((List Int)×Unit)→Option (Unit×(List (D_api_Producer))) := fun ⟨a,c,_⟩ =>
Option.bind (p81 fu (a,((),((c,()),())),())) fun ⟨⟨⟨_,_⟩,_⟩,f⟩ =>
bif decide (f.length=f.length) then
 some ((),f)
else none
def e38 (fu:Nat):Ent := ⟨38,(.cons (.hole (.sl .any T_api_Producer)) (.cons (.hole (.sl .any (.int .u64))) .nil)),.nil,(.own .own 46 T_api_Producer),p38 fu⟩
theorem g38 (fu:Nat):(e38 fu).Good Tryz.prog := good_fx orders Tryz.func38 fu [(4,(.ent (e81 fu)))] [] rs38 8 (l := [e81 fu]) ⟨g81 fu,trivial⟩
def rs57:List RVx := [(.tmp 4)]
def p57 (_:Nat):(List Int)×(Int×Unit)→Option (Unit×Int) := fun ⟨a,c,_⟩ =>
bif decide ((0:Int)≤(if IntKind.wrap .u64 (IntKind.wrap .i64 ((a.length:Int)-(1:Int)))<c then IntKind.wrap .u64 (IntKind.wrap .i64 ((a.length:Int)-(1:Int))) else c)∧(if IntKind.wrap .u64 (IntKind.wrap .i64 ((a.length:Int)-(1:Int)))<c then IntKind.wrap .u64 (IntKind.wrap .i64 ((a.length:Int)-(1:Int))) else c)<(a.length:Int)) then
 bif decide (Int.toNat (if IntKind.wrap .u64 (IntKind.wrap .i64 ((a.length:Int)-(1:Int)))<c then IntKind.wrap .u64 (IntKind.wrap .i64 ((a.length:Int)-(1:Int))) else c)<a.length) then
 some ((),(a.getD (Int.toNat (if IntKind.wrap .u64 (IntKind.wrap .i64 ((a.length:Int)-(1:Int)))<c then IntKind.wrap .u64 (IntKind.wrap .i64 ((a.length:Int)-(1:Int))) else c)) (dflt (.int .u64))))
 else none
else none
def e57 (fu:Nat):Ent := ⟨57,(.cons (.hole (.sl .any (.int .u64))) (.cons hU .nil)),.nil,hU,p57 fu⟩
theorem g57 (fu:Nat):(e57 fu).Good Tryz.prog := good_fx orders Tryz.func57 fu [] [] rs57 14 (l := []) trivial
def rs101:List RVx := [(.cell 3 true 2)]
def p101 (fu:Nat):(ByteArray×(Int×Unit))×(((((List Int)×Unit)×Unit)×Unit)×Unit)→Option ((((((List Int)×Unit)×Unit)×Unit)×Unit)×(ByteArray×(Int×Unit))) := fun ⟨⟨a,c,_⟩,⟨⟨⟨f,_⟩,_⟩,_⟩,_⟩ =>
Option.bind (p57 fu (f,c,())) fun ⟨_,h⟩ =>
some (((((f,()),()),()),()),(a,h,()))
def e101 (fu:Nat):Ent := ⟨101,(.cons (.agg 2 (.cons hT (.cons hU .nil))) (.cons (.box 101 1 (.cons (.clo 57 1 (.cons (.hole (.sl .any (.int .u64))) .nil) 0 .nil) .nil)) .nil)),(.cons (.agg 1 (.cons (.clo 57 1 (.cons (.hole (.sl .any (.int .u64))) .nil) 0 .nil) .nil)) .nil),(.agg 2 (.cons hT (.cons hU .nil))),p101 fu⟩
theorem g101 (fu:Nat):(e101 fu).Good Tryz.prog := good_fx orders Tryz.func101 fu [(7,(.ent (e57 fu)))] [] rs101 11 (l := [e57 fu]) ⟨g57 fu,trivial⟩
def rs100:List RVx := [(.tmp 4)]
def p100 (fu:Nat):(List (D_runtime_errorAddressString))×((Unit×(((((List Int)×Unit)×Unit)×Unit)×Unit))×Unit)→Option ((((((List Int)×Unit)×Unit)×Unit)×Unit)×(List (D_runtime_errorAddressString))) := fun ⟨a,⟨_,⟨⟨⟨⟨c,_⟩,_⟩,_⟩,_⟩⟩,_⟩ =>
bif ((a.length:Int)==(0:Int)) then
 some (((((c,()),()),()),()),[])
else
 bif decide ((0:Int)≤(a.length:Int)∧((a.length:Int):Int)≤(a.length:Int)∧((a.length:Int):Int)≤9223372036854775807∧(24:Int) * (a.length:Int)≤140737488355328) then
 bif decide (Int.toNat (a.length:Int)=List.length (List.replicate (Int.toNat (a.length:Int)) ((⟨#[]⟩:ByteArray),(0:Int)):List (D_runtime_errorAddressString))) then
 loopO (S := ((List (D_runtime_errorAddressString))×(Int×Unit))×(((((List Int)×Unit)×Unit)×Unit)×Unit)) fu (fun ⟨⟨f,h,_⟩,⟨⟨⟨⟨i,_⟩,_⟩,_⟩,_⟩⟩ =>
 bif decide (h<(a.length:Int)) then
 bif decide ((0:Int)≤h∧h<(a.length:Int)) then
 bif decide (h.toNat<a.length) then
 Option.bind (p101 fu (((a.getD (h.toNat) (dflt T_runtime_errorAddressString)).1,(a.getD (h.toNat) (dflt T_runtime_errorAddressString)).2,()),(((i,()),()),()),())) fun ⟨⟨⟨⟨⟨j,_⟩,_⟩,_⟩,_⟩,⟨k,l,_⟩⟩ =>
 bif decide ((0:Int)≤h∧h<(f.length:Int)) then
 bif decide (h.toNat<f.length) then
 bif decide (f.length=List.length (List.set f (h.toNat) (k,l))) then
 some (.inl (((List.set f (h.toNat) (k,l)),IntKind.wrap .i64 (h+(1:Int)),()),((((j,()),()),()),())))
 else none
 else none
 else none
 else none
 else none
 else
 inrO (bif decide (f.length=f.length) then
 some (((((i,()),()),()),()),f)
 else none))
 (((List.replicate (Int.toNat (a.length:Int)) ((⟨#[]⟩:ByteArray),(0:Int)):List (D_runtime_errorAddressString)),(0:Int),()),((((c,()),()),()),()))
 else none
 else none
def e100 (fu:Nat):Ent := ⟨100,(.cons (.hole (.sl .any T_runtime_errorAddressString)) (.cons (.clo 101 0 .nil 1 (.cons (.box 101 1 (.cons (.clo 57 1 (.cons (.hole (.sl .any (.int .u64))) .nil) 0 .nil) .nil)) .nil)) .nil)),(.cons (.agg 1 (.cons (.clo 57 1 (.cons (.hole (.sl .any (.int .u64))) .nil) 0 .nil) .nil)) .nil),(.own .own 50 T_runtime_errorAddressString),p100 fu⟩
theorem g100 (fu:Nat):(e100 fu).Good Tryz.prog := good_fx orders Tryz.func100 fu [(7,(.ty T_runtime_errorAddressString)),(23,(.ent (e101 fu)))] [(7,⟨[5,16],(.cons (.own .own 50 T_runtime_errorAddressString) (.cons hI .nil)),[(0,101,1)],(.cons (.agg 1 (.cons (.clo 57 1 (.cons (.hole (.sl .any (.int .u64))) .nil) 0 .nil) .nil)) .nil),[1,14,15],[]⟩)] rs100 29 (l := [e101 fu]) ⟨g101 fu,trivial⟩
def rs84:List RVx := [(.tmp 4)]
def p84 (fu:Nat):(List (D_runtime_errorAddressString))×((((List Int)×Unit)×Unit)×Unit)→Option (Unit×(List (D_runtime_errorAddressString))) := fun ⟨a,⟨⟨c,_⟩,_⟩,_⟩ =>
Option.bind (p100 fu (a,((),((((c,()),()),()),())),())) fun ⟨⟨⟨⟨⟨_,_⟩,_⟩,_⟩,_⟩,f⟩ =>
bif decide (f.length=f.length) then
 some ((),f)
else none
def e84 (fu:Nat):Ent := ⟨84,(.cons (.hole (.sl .any T_runtime_errorAddressString)) (.cons (.clo 57 1 (.cons (.hole (.sl .any (.int .u64))) .nil) 0 .nil) .nil)),.nil,(.own .own 50 T_runtime_errorAddressString),p84 fu⟩
theorem g84 (fu:Nat):(e84 fu).Good Tryz.prog := good_fx orders Tryz.func84 fu [(4,(.ent (e100 fu)))] [] rs84 8 (l := [e100 fu]) ⟨g100 fu,trivial⟩
def rs39:List RVx := [(.tmp 4)]
def p39 (fu:Nat):(List (D_runtime_errorAddressString))×((List Int)×Unit)→Option (Unit×(List (D_runtime_errorAddressString))) := fun ⟨a,c,_⟩ =>
bif ((c.length:Int)==(0:Int)) then
 some ((),[])
else
 Option.bind (p84 fu (a,((c,()),()),())) fun ⟨_,f⟩ =>
 bif decide (f.length=f.length) then
 some ((),f)
 else none
def e39 (fu:Nat):Ent := ⟨39,(.cons (.hole (.sl .any T_runtime_errorAddressString)) (.cons (.hole (.sl .any (.int .u64))) .nil)),.nil,(.own .own 50 T_runtime_errorAddressString),p39 fu⟩
theorem g39 (fu:Nat):(e39 fu).Good Tryz.prog := good_fx orders Tryz.func39 fu [(8,(.ent (e84 fu)))] [] rs39 12 (l := [e84 fu]) ⟨g84 fu,trivial⟩
def rs36:List RVx := [(.cell 3 true 7)]
def p36_1 (fu:Nat):(ByteArray×(ByteArray×Unit))×((Z0)×Unit)→Option (((Z0)×Unit)×(ByteArray×(ByteArray×(Int×(Int×((List (D_api_Record))×((List (D_api_Producer))×((List (D_runtime_errorAddressString))×Unit)))))))) := fun ⟨⟨a,c,_⟩,⟨f,h,i,j,k,l,m,_⟩,_⟩ =>
Option.bind (p37 fu (k,(a,c,()),())) fun ⟨_,⟨n,o,_⟩⟩ =>
bif decide (o.length=o.length) then
 Option.bind (p38 fu (l,o,())) fun ⟨_,q⟩ =>
 bif decide (o.length=o.length) then
 Option.bind (p39 fu (m,o,())) fun ⟨_,s⟩ =>
 bif decide (n.length=n.length) then
 bif decide (q.length=q.length) then
 bif decide (s.length=s.length) then
 some (((f,h,i,j,k,l,m,()),()),(a,c,IntKind.wrap .u64 (i+(1:Int)),(0:Int),n,q,s,()))
 else none
 else none
 else none
 else none
else none
def e36_1 (fu:Nat):Ent := ⟨36,(.cons (.agg 2 (.cons hT (.cons hT .nil))) (.cons Y6 .nil)),(.cons Y3 .nil),Y1,p36_1 fu⟩
theorem g36_1 (fu:Nat):(e36_1 fu).Good Tryz.prog := good_fx orders Tryz.func36 fu [(5,(.ent (e37 fu))),(19,(.ent (e38 fu))),(23,(.ent (e39 fu)))] [] rs36 27 (l := [e37 fu,e38 fu,e39 fu]) ⟨g37 fu,g38 fu,g39 fu,trivial⟩
def rs9:List RVx := [(.cell 4 true 7),(.cell 5 true 7),(.tmp 6)]
def p9 (fu:Nat):(Z0)×(ByteArray×Unit)→Option (Unit×((Z0)×((Z0)×(Int×Unit)))) := fun ⟨⟨a,c,f,h,i,j,k,_⟩,l,_⟩ =>
Option.bind (p16 fu ([((a,c),f,h,i,j,k)],())) fun ⟨_,m⟩ =>
bif (m != (0:Int)) then
 some ((),(((⟨#[]⟩:ByteArray),(⟨#[]⟩:ByteArray),(0:Int),(0:Int),[],[],[],()),((⟨#[]⟩:ByteArray),(⟨#[]⟩:ByteArray),(0:Int),(0:Int),[],[],[],()),m,()))
else
 Option.bind (p35 fu ((a,c,()),l,())) fun ⟨_,⟨⟨n,o,_⟩,⟨q,s,_⟩,t,_⟩⟩ =>
 bif (t != (0:Int)) then
 some ((),(((⟨#[]⟩:ByteArray),(⟨#[]⟩:ByteArray),(0:Int),(0:Int),[],[],[],()),((⟨#[]⟩:ByteArray),(⟨#[]⟩:ByteArray),(0:Int),(0:Int),[],[],[],()),t,()))
 else
 Option.bind (p36_1 fu ((n,o,()),(a,c,f,h,i,j,k,()),())) fun ⟨⟨⟨u,w,x,y,z,a0,c0,_⟩,_⟩,⟨f0,h0,i0,j0,k0,l0,m0,_⟩⟩ =>
 Option.bind (p36_1 fu ((q,s,()),(u,w,x,y,z,a0,c0,()),())) fun ⟨⟨⟨_,_,_,_,_,_,_,_⟩,_⟩,⟨n0,o0,q0,s0,t0,u0,w0,_⟩⟩ =>
 bif decide (k0.length=k0.length) then
 bif decide (l0.length=l0.length) then
 bif decide (m0.length=m0.length) then
 bif decide (t0.length=t0.length) then
 bif decide (u0.length=u0.length) then
 bif decide (w0.length=w0.length) then
 some ((),((f0,h0,i0,j0,k0,l0,m0,()),(n0,o0,q0,s0,t0,u0,w0,()),(0:Int),()))
 else none
 else none
 else none
 else none
 else none
 else none
def e9 (fu:Nat):Ent := ⟨9,(.cons Y3 (.cons hT .nil)),.nil,(.tup 3 (.cons Y1 (.cons Y1 (.cons hI .nil)))),p9 fu⟩
theorem g9 (fu:Nat):(e9 fu).Good Tryz.prog := good_fx orders Tryz.func9 fu [(5,(.ty T_api_Part)),(6,(.ent (e16 fu))),(19,(.ent (e35 fu))),(41,(.ent (e36_1 fu))),(44,(.ent (e36_1 fu)))] [] rs9 40 (l := [e16 fu,e35 fu,e36_1 fu,e36_1 fu]) ⟨g16 fu,g35 fu,g36_1 fu,g36_1 fu,trivial⟩
def rs4:List RVx := [(.tmp 0)]
def p4 (fu:Nat):Unit→Option (Unit×Bool) := fun _ =>
Option.bind (p10 fu ()) fun ⟨_,⟨a,c,f,h,i,j,k,_⟩⟩ =>
bif decide (i.length=i.length) then
 bif decide (j.length=j.length) then
 bif decide (k.length=k.length) then
 Option.bind (p9 fu ((a,c,f,h,i,j,k,()),(⟨#[99]⟩:ByteArray),())) fun ⟨_,⟨⟨_,_,l,_,m,_,_,_⟩,⟨_,_,_,_,n,_,_,_⟩,o,_⟩⟩ =>
 bif (o==(0:Int)) then
 bif (((m.length):Int)==(2:Int)) then
 bif (((n.length):Int)==(1:Int)) then
 some ((),(l==(4:Int)))
 else
 some ((),false)
 else
 some ((),false)
 else
 some ((),false)
 else none
 else none
else none
def e4 (fu:Nat):Ent := ⟨4,.nil,.nil,(.hole .bool),p4 fu⟩
theorem g4 (fu:Nat):(e4 fu).Good Tryz.prog := good_fx orders Tryz.func4 fu [(1,(.ent (e10 fu))),(2,(.ent (e9 fu)))] [] rs4 29 (l := [e10 fu,e9 fu]) ⟨g10 fu,g9 fu,trivial⟩
def rs12:List RVx := [(.tmp 2)]
def p12 (fu:Nat):Int×Unit→Option (Unit×(List Int)) := fun ⟨a,_⟩ =>
loopO (S := (Int×((List Int)×Unit))×Unit) fu (fun ⟨⟨c,f,_⟩,_⟩ =>
 bif decide (c≥(128:Int)) then
 bif decide (f.length=f.length) then
 bif decide (f.length+List.length ([IntKind.wrap .u8 ((IntKind.wrap .u8 (IntKind.wrap .u64 ((BitVec.ofInt (IntKind.bits .u64) c &&& BitVec.ofInt (IntKind.bits .u64) (127:Int)).toNat:Int)))+(128:Int))])≤maxLen∧(f.length+List.length ([IntKind.wrap .u8 ((IntKind.wrap .u8 (IntKind.wrap .u64 ((BitVec.ofInt (IntKind.bits .u64) c &&& BitVec.ofInt (IntKind.bits .u64) (127:Int)).toNat:Int)))+(128:Int))])) * 1≤140737488355328) then
 bif decide (List.length (f ++ [IntKind.wrap .u8 ((IntKind.wrap .u8 (IntKind.wrap .u64 ((BitVec.ofInt (IntKind.bits .u64) c &&& BitVec.ofInt (IntKind.bits .u64) (127:Int)).toNat:Int)))+(128:Int))])=List.length (f ++ [IntKind.wrap .u8 ((IntKind.wrap .u8 (IntKind.wrap .u64 ((BitVec.ofInt (IntKind.bits .u64) c &&& BitVec.ofInt (IntKind.bits .u64) (127:Int)).toNat:Int)))+(128:Int))])) then
 some (.inl ((Int.fdiv c (2 ^ (min (Int.toNat (7:Int)) (IntKind.bits .u64))),(f ++ [IntKind.wrap .u8 ((IntKind.wrap .u8 (IntKind.wrap .u64 ((BitVec.ofInt (IntKind.bits .u64) c &&& BitVec.ofInt (IntKind.bits .u64) (127:Int)).toNat:Int)))+(128:Int))]),()),()))
 else none
 else none
 else none
 else
 inrO (bif decide (f.length=f.length) then
 bif decide (f.length+List.length ([IntKind.wrap .u8 c])≤maxLen∧(f.length+List.length ([IntKind.wrap .u8 c])) * 1≤140737488355328) then
 bif decide (List.length (f ++ [IntKind.wrap .u8 c])=List.length (f ++ [IntKind.wrap .u8 c])) then
 some ((),(f ++ [IntKind.wrap .u8 c]))
 else none
 else none
 else none))
 ((a,[],()),())
def e12 (fu:Nat):Ent := ⟨12,(.cons hU .nil),.nil,(.own .own 5 (.int .u8)),p12 fu⟩
theorem g12 (fu:Nat):(e12 fu).Good Tryz.prog := good_fx orders Tryz.func12 fu [(9,(.ty (.int .u8))),(10,(.ty (.int .u8))),(18,(.ty (.int .u8))),(19,(.ty (.int .u8)))] [(3,⟨[0,3],(.cons hU (.cons (.own .own 5 (.int .u8)) .nil)),[],.nil,[],[]⟩)] rs12 20 (l := []) trivial
def rs15:List RVx := [(.tmp 2)]
def p15 (fu:Nat):(List Int)×Unit→Option (Unit×(List Int)) := fun ⟨a,_⟩ =>
Option.bind (p12 fu (IntKind.wrap .u64 (a.length:Int),())) fun ⟨_,c⟩ =>
bif decide (c.length=c.length) then
 bif decide (c.length+a.length≤maxLen∧(c.length+a.length) * 1≤140737488355328) then
 bif decide (List.length (c ++ a)=List.length (c ++ a)) then
 some ((),(c ++ a))
 else none
 else none
else none
def e15 (fu:Nat):Ent := ⟨15,(.cons (.hole (.sl .any (.int .u8))) .nil),.nil,(.own .own 5 (.int .u8)),p15 fu⟩
theorem g15 (fu:Nat):(e15 fu).Good Tryz.prog := good_fx orders Tryz.func15 fu [(4,(.ent (e12 fu))),(6,(.ty (.int .u8)))] [] rs15 9 (l := [e12 fu]) ⟨g12 fu,trivial⟩
def rs11:List RVx := [(.tmp 2)]
def p11 (fu:Nat):(ByteArray×(ByteArray×Unit))×Unit→Option (Unit×(List Int)) := fun ⟨⟨a,c,_⟩,_⟩ =>
Option.bind (p15 fu (numsOf a,())) fun ⟨_,f⟩ =>
Option.bind (p15 fu (numsOf c,())) fun ⟨_,h⟩ =>
bif decide (f.length=f.length) then
 bif decide (h.length=h.length) then
 bif decide (f.length+h.length≤maxLen∧(f.length+h.length) * 1≤140737488355328) then
 bif decide (List.length (f ++ h)=List.length (f ++ h)) then
 some ((),(f ++ h))
 else none
 else none
 else none
else none
def e11 (fu:Nat):Ent := ⟨11,(.cons (.agg 2 (.cons hT (.cons hT .nil))) .nil),.nil,(.own .own 5 (.int .u8)),p11 fu⟩
theorem g11 (fu:Nat):(e11 fu).Good Tryz.prog := good_fx orders Tryz.func11 fu [(5,(.ent (e15 fu))),(9,(.ent (e15 fu))),(10,(.ty (.int .u8)))] [] rs11 12 (l := [e15 fu,e15 fu]) ⟨g15 fu,g15 fu,trivial⟩
def rs40:List RVx := [(.tmp 2)]
def p40 (fu:Nat):(Int×(ByteArray×((List Int)×(Int×(Int×Unit)))))×Unit→Option (Unit×(List Int)) := fun ⟨⟨a,c,f,h,i,_⟩,_⟩ =>
Option.bind (p12 fu (a,())) fun ⟨_,j⟩ =>
Option.bind (p15 fu (numsOf c,())) fun ⟨_,k⟩ =>
bif decide (j.length=j.length) then
 bif decide (k.length=k.length) then
 bif decide (j.length+k.length≤maxLen∧(j.length+k.length) * 1≤140737488355328) then
 Option.bind (p15 fu (f,())) fun ⟨_,l⟩ =>
 bif decide (List.length (j ++ k)=List.length (j ++ k)) then
 bif decide (l.length=l.length) then
 bif decide (List.length (j ++ k)+l.length≤maxLen∧(List.length (j ++ k)+l.length) * 1≤140737488355328) then
 Option.bind (p12 fu (h,())) fun ⟨_,m⟩ =>
 bif decide (List.length ((j ++ k) ++ l)=List.length ((j ++ k) ++ l)) then
 bif decide (m.length=m.length) then
 bif decide (List.length ((j ++ k) ++ l)+m.length≤maxLen∧(List.length ((j ++ k) ++ l)+m.length) * 1≤140737488355328) then
 Option.bind (p12 fu (i,())) fun ⟨_,n⟩ =>
 bif decide (List.length (((j ++ k) ++ l) ++ m)=List.length (((j ++ k) ++ l) ++ m)) then
 bif decide (n.length=n.length) then
 bif decide (List.length (((j ++ k) ++ l) ++ m)+n.length≤maxLen∧(List.length (((j ++ k) ++ l) ++ m)+n.length) * 1≤140737488355328) then
 bif decide (List.length ((((j ++ k) ++ l) ++ m) ++ n)=List.length ((((j ++ k) ++ l) ++ m) ++ n)) then
 some ((),((((j ++ k) ++ l) ++ m) ++ n))
 else none
 else none
 else none
 else none
 else none
 else none
 else none
 else none
 else none
 else none
 else none
 else none
else none
def e40 (fu:Nat):Ent := ⟨40,(.cons Y2 .nil),.nil,(.own .own 5 (.int .u8)),p40 fu⟩
theorem g40 (fu:Nat):(e40 fu).Good Tryz.prog := good_fx orders Tryz.func40 fu [(4,(.ent (e12 fu))),(8,(.ent (e15 fu))),(9,(.ty (.int .u8))),(14,(.ent (e15 fu))),(15,(.ty (.int .u8))),(20,(.ent (e12 fu))),(21,(.ty (.int .u8))),(26,(.ent (e12 fu))),(27,(.ty (.int .u8)))] [] rs40 27 (l := [e12 fu,e15 fu,e15 fu,e12 fu,e12 fu]) ⟨g12 fu,g15 fu,g15 fu,g12 fu,g12 fu,trivial⟩
def rs13:List RVx := [(.tmp 2)]
def p13 (fu:Nat):(List (D_api_Record))×Unit→Option (Unit×(List Int)) := fun ⟨a,_⟩ =>
Option.bind (p12 fu (IntKind.wrap .u64 (a.length:Int),())) fun ⟨_,c⟩ =>
bif decide (c.length=c.length) then
 loopO (S := ((List Int)×(Int×Unit))×Unit) fu (fun ⟨⟨f,h,_⟩,_⟩ =>
 bif decide (h<(a.length:Int)) then
 bif decide ((0:Int)≤h∧h<(a.length:Int)) then
 bif decide (h.toNat<a.length) then
 Option.bind (p40 fu (((a.getD (h.toNat) (dflt T_api_Record)).1,((a.getD (h.toNat) (dflt T_api_Record)).2).1,(((a.getD (h.toNat) (dflt T_api_Record)).2).2).1,((((a.getD (h.toNat) (dflt T_api_Record)).2).2).2).1,((((a.getD (h.toNat) (dflt T_api_Record)).2).2).2).2,()),())) fun ⟨_,i⟩ =>
 bif decide (f.length=f.length) then
 bif decide (i.length=i.length) then
 bif decide (f.length+i.length≤maxLen∧(f.length+i.length) * 1≤140737488355328) then
 bif decide (List.length (f ++ i)=List.length (f ++ i)) then
 some (.inl (((f ++ i),IntKind.wrap .i64 (h+(1:Int)),()),()))
 else none
 else none
 else none
 else none
 else none
 else none
 else
 inrO (bif decide (f.length=f.length) then
 some ((),f)
 else none))
 ((c,(0:Int),()),())
else none
def e13 (fu:Nat):Ent := ⟨13,(.cons (.hole (.sl .any T_api_Record)) .nil),.nil,(.own .own 5 (.int .u8)),p13 fu⟩
theorem g13 (fu:Nat):(e13 fu).Good Tryz.prog := good_fx orders Tryz.func13 fu [(4,(.ent (e12 fu))),(16,(.ent (e40 fu))),(17,(.ty (.int .u8)))] [(4,⟨[3,4],(.cons (.own .own 5 (.int .u8)) (.cons hI .nil)),[],.nil,[0],[]⟩)] rs13 23 (l := [e12 fu,e40 fu]) ⟨g12 fu,g40 fu,trivial⟩
def rs14:List RVx := [(.tmp 2)]
def p14 (_:Nat):Bool×Unit→Option (Unit×(List Int)) := fun ⟨a,_⟩ =>
bif a then
 some ((),[(1:Int)])
else
 some ((),[(0:Int)])
def e14 (fu:Nat):Ent := ⟨14,(.cons (.hole .bool) .nil),.nil,(.own .own 5 (.int .u8)),p14 fu⟩
theorem g14 (fu:Nat):(e14 fu).Good Tryz.prog := good_fx orders Tryz.func14 fu [(2,(.ty (.int .u8))),(4,(.ty (.int .u8)))] [] rs14 6 (l := []) trivial
def rs5:List RVx := [(.tmp 2)]
def p5 (fu:Nat):(Z0)×Unit→Option (Unit×(List Int)) := fun ⟨⟨a,c,f,h,i,j,k,_⟩,_⟩ =>
Option.bind (p11 fu ((a,c,()),())) fun ⟨_,l⟩ =>
Option.bind (p12 fu (f,())) fun ⟨_,m⟩ =>
bif decide (l.length=l.length) then
 bif decide (m.length=m.length) then
 bif decide (l.length+m.length≤maxLen∧(l.length+m.length) * 1≤140737488355328) then
 Option.bind (p12 fu (h,())) fun ⟨_,n⟩ =>
 bif decide (List.length (l ++ m)=List.length (l ++ m)) then
 bif decide (n.length=n.length) then
 bif decide (List.length (l ++ m)+n.length≤maxLen∧(List.length (l ++ m)+n.length) * 1≤140737488355328) then
 Option.bind (p13 fu (i,())) fun ⟨_,o⟩ =>
 bif decide (List.length ((l ++ m) ++ n)=List.length ((l ++ m) ++ n)) then
 bif decide (o.length=o.length) then
 bif decide (List.length ((l ++ m) ++ n)+o.length≤maxLen∧(List.length ((l ++ m) ++ n)+o.length) * 1≤140737488355328) then
 Option.bind (p12 fu (IntKind.wrap .u64 (j.length:Int),())) fun ⟨_,q⟩ =>
 bif decide (List.length (((l ++ m) ++ n) ++ o)=List.length (((l ++ m) ++ n) ++ o)) then
 bif decide (q.length=q.length) then
 bif decide (List.length (((l ++ m) ++ n) ++ o)+q.length≤maxLen∧(List.length (((l ++ m) ++ n) ++ o)+q.length) * 1≤140737488355328) then
 bif decide (List.length ((((l ++ m) ++ n) ++ o) ++ q)=List.length ((((l ++ m) ++ n) ++ o) ++ q)) then
 loopO (S := ((List Int)×(Int×Unit))×Unit) fu (fun ⟨⟨s,t,_⟩,_⟩ =>
 bif decide (t<(j.length:Int)) then
 bif decide ((0:Int)≤t∧t<(j.length:Int)) then
 bif decide (t.toNat<j.length) then
 Option.bind (p12 fu ((j.getD (t.toNat) (dflt T_api_Producer)).1,())) fun ⟨_,u⟩ =>
 bif decide (s.length=s.length) then
 bif decide (u.length=u.length) then
 bif decide (s.length+u.length≤maxLen∧(s.length+u.length) * 1≤140737488355328) then
 Option.bind (p12 fu (((j.getD (t.toNat) (dflt T_api_Producer)).2).1,())) fun ⟨_,w⟩ =>
 bif decide (List.length (s ++ u)=List.length (s ++ u)) then
 bif decide (w.length=w.length) then
 bif decide (List.length (s ++ u)+w.length≤maxLen∧(List.length (s ++ u)+w.length) * 1≤140737488355328) then
 Option.bind (p14 fu ((((j.getD (t.toNat) (dflt T_api_Producer)).2).2).1,())) fun ⟨_,x⟩ =>
 bif decide (List.length ((s ++ u) ++ w)=List.length ((s ++ u) ++ w)) then
 bif decide (x.length=x.length) then
 bif decide (List.length ((s ++ u) ++ w)+x.length≤maxLen∧(List.length ((s ++ u) ++ w)+x.length) * 1≤140737488355328) then
 Option.bind (p12 fu ((((j.getD (t.toNat) (dflt T_api_Producer)).2).2).2,())) fun ⟨_,y⟩ =>
 bif decide (List.length (((s ++ u) ++ w) ++ x)=List.length (((s ++ u) ++ w) ++ x)) then
 bif decide (y.length=y.length) then
 bif decide (List.length (((s ++ u) ++ w) ++ x)+y.length≤maxLen∧(List.length (((s ++ u) ++ w) ++ x)+y.length) * 1≤140737488355328) then
 bif decide (List.length ((((s ++ u) ++ w) ++ x) ++ y)=List.length ((((s ++ u) ++ w) ++ x) ++ y)) then
 some (.inl ((((((s ++ u) ++ w) ++ x) ++ y),IntKind.wrap .i64 (t+(1:Int)),()),()))
 else none
 else none
 else none
 else none
 else none
 else none
 else none
 else none
 else none
 else none
 else none
 else none
 else none
 else none
 else none
 else
 inrO (Option.bind (p12 fu (IntKind.wrap .u64 (k.length:Int),())) fun ⟨_,z⟩ =>
 bif decide (s.length=s.length) then
 bif decide (z.length=z.length) then
 bif decide (s.length+z.length≤maxLen∧(s.length+z.length) * 1≤140737488355328) then
 bif decide (List.length (s ++ z)=List.length (s ++ z)) then
 loopO (S := ((List Int)×(Int×Unit))×Unit) fu (fun ⟨⟨s,a0,_⟩,_⟩ =>
 bif decide (a0<(k.length:Int)) then
 bif decide ((0:Int)≤a0∧a0<(k.length:Int)) then
 bif decide (a0.toNat<k.length) then
 Option.bind (p15 fu (numsOf ((k.getD (a0.toNat) (dflt T_runtime_errorAddressString)).1),())) fun ⟨_,c0⟩ =>
 bif decide (s.length=s.length) then
 bif decide (c0.length=c0.length) then
 bif decide (s.length+c0.length≤maxLen∧(s.length+c0.length) * 1≤140737488355328) then
 bif decide ((0:Int)≤a0∧a0<(k.length:Int)) then
 bif decide (a0.toNat<k.length) then
 Option.bind (p12 fu ((k.getD (a0.toNat) (dflt T_runtime_errorAddressString)).2,())) fun ⟨_,f0⟩ =>
 bif decide (List.length (s ++ c0)=List.length (s ++ c0)) then
 bif decide (f0.length=f0.length) then
 bif decide (List.length (s ++ c0)+f0.length≤maxLen∧(List.length (s ++ c0)+f0.length) * 1≤140737488355328) then
 bif decide (List.length ((s ++ c0) ++ f0)=List.length ((s ++ c0) ++ f0)) then
 some (.inl ((((s ++ c0) ++ f0),IntKind.wrap .i64 (a0+(1:Int)),()),()))
 else none
 else none
 else none
 else none
 else none
 else none
 else none
 else none
 else none
 else none
 else none
 else
 inrO (bif decide (s.length=s.length) then
 some ((),s)
 else none))
 (((s ++ z),(0:Int),()),())
 else none
 else none
 else none
 else none))
 ((((((l ++ m) ++ n) ++ o) ++ q),(0:Int),()),())
 else none
 else none
 else none
 else none
 else none
 else none
 else none
 else none
 else none
 else none
 else none
 else none
else none
def e5 (fu:Nat):Ent := ⟨5,(.cons Y3 .nil),.nil,(.own .own 5 (.int .u8)),p5 fu⟩
theorem g5 (fu:Nat):(e5 fu).Good Tryz.prog := good_fx orders Tryz.func5 fu [(4,(.ent (e11 fu))),(7,(.ent (e12 fu))),(8,(.ty (.int .u8))),(13,(.ent (e12 fu))),(14,(.ty (.int .u8))),(19,(.ent (e13 fu))),(20,(.ty (.int .u8))),(27,(.ent (e12 fu))),(28,(.ty (.int .u8))),(46,(.ent (e12 fu))),(47,(.ty (.int .u8))),(52,(.ent (e12 fu))),(53,(.ty (.int .u8))),(58,(.ent (e14 fu))),(59,(.ty (.int .u8))),(64,(.ent (e12 fu))),(65,(.ty (.int .u8))),(75,(.ent (e12 fu))),(76,(.ty (.int .u8))),(92,(.ent (e15 fu))),(93,(.ty (.int .u8))),(102,(.ent (e12 fu))),(103,(.ty (.int .u8)))] [(7,⟨[3,4],(.cons (.own .own 5 (.int .u8)) (.cons hI .nil)),[],.nil,[1],[0]⟩),(18,⟨[3,6],(.cons (.own .own 5 (.int .u8)) (.cons hI .nil)),[],.nil,[1],[0]⟩)] rs5 97 (l := [e11 fu,e12 fu,e12 fu,e13 fu,e12 fu,e12 fu,e12 fu,e14 fu,e12 fu,e12 fu,e15 fu,e12 fu]) ⟨g11 fu,g12 fu,g12 fu,g13 fu,g12 fu,g12 fu,g12 fu,g14 fu,g12 fu,g12 fu,g15 fu,g12 fu,trivial⟩
def rs18:List RVx := [(.cell 4 true 2),(.tmp 5)]
def p18 (fu:Nat):(ByteArray×(ByteArray×Unit))×((ByteArray×(ByteArray×Unit))×Unit)→Option (Unit×((ByteArray×(ByteArray×Unit))×(Int×Unit))) := fun ⟨⟨a,c,_⟩,⟨f,h,_⟩,_⟩ =>
loopO (S := (Int×Unit)×Unit) fu (fun ⟨⟨i,_⟩,_⟩ =>
 bif decide (i<(2:Int)) then
 bif decide ((0:Int)≤i∧i<(2:Int)) then
 bif (i==(0:Int)) then
 Option.bind (p41 fu ((a,c,()),())) fun ⟨_,j⟩ =>
 bif (j != (0:Int)) then
 inrO (some ((),(((⟨#[]⟩:ByteArray),(⟨#[]⟩:ByteArray),()),j,())))
 else
 some (.inl ((IntKind.wrap .i64 (i+(1:Int)),()),()))
 else
 bif (i==(1:Int)) then
 Option.bind (p41 fu ((f,h,()),())) fun ⟨_,k⟩ =>
 bif (k != (0:Int)) then
 inrO (some ((),(((⟨#[]⟩:ByteArray),(⟨#[]⟩:ByteArray),()),k,())))
 else
 some (.inl ((IntKind.wrap .i64 (i+(1:Int)),()),()))
 else none
 else none
 else
 inrO (Option.bind (p42 fu ((a,c,()),())) fun ⟨_,⟨l,m,_⟩⟩ =>
 bif !(l==f && (m==false && true)) then
 some ((),(((⟨#[]⟩:ByteArray),(⟨#[]⟩:ByteArray),()),(133:Int),()))
 else
 some ((),((a,h,()),(0:Int),()))))
 (((0:Int),()),())
def e18 (fu:Nat):Ent := ⟨18,(.cons (.agg 2 (.cons hT (.cons hT .nil))) (.cons (.agg 2 (.cons hT (.cons hT .nil))) .nil)),.nil,(.tup 2 (.cons (.agg 2 (.cons hT (.cons hT .nil))) (.cons hI .nil))),p18 fu⟩
theorem g18 (fu:Nat):(e18 fu).Good Tryz.prog := good_fx orders Tryz.func18 fu [(13,(.ent (e41 fu))),(24,(.ent (e42 fu)))] [(3,⟨[12],(.cons hI .nil),[],.nil,[2,3,4,11],[0,16,32]⟩)] rs18 34 (l := [e41 fu,e42 fu]) ⟨g41 fu,g42 fu,trivial⟩
def rs45:List RVx := [(.tmp 2)]
def p45_1 (_:Nat):((List (D_api_Record))×((List Int)×((List (Int×(List Int)))×Unit)))×Unit→Option ((((List (D_api_Record))×((List Int)×((List (Int×(List Int)))×Unit)))×(Unit×(Unit×Unit)))×Bool) := fun ⟨⟨a,c,f,_⟩,_⟩ =>
bif decide (c.length=c.length) then
 some (((a,c,f,()),(),(),()),decide ((a.length:Int)>(0:Int)))
else none
def e45_1 (fu:Nat):Ent := ⟨45,(.cons Y7 .nil),(.cons Y8 (.cons .dead (.cons .dead .nil))),(.hole .bool),p45_1 fu⟩
theorem g45_1 (fu:Nat):(e45_1 fu).Good Tryz.prog := good_fx orders Tryz.func45 fu [] [] rs45 9 (l := []) trivial
def rs46:List RVx := [(.tmp 4)]
def p46_1 (fu:Nat):((List (D_api_Record))×((List Int)×((List (Int×(List Int)))×Unit)))×(((List (D_api_Record))×((List Int)×((List (Int×(List Int)))×Unit)))×Unit)→Option ((((List (D_api_Record))×((List Int)×((List (Int×(List Int)))×Unit)))×(Unit×(Unit×(((List (D_api_Record))×((List Int)×((List (Int×(List Int)))×Unit)))×(Unit×(Unit×Unit))))))×Bool) := fun ⟨⟨a,c,f,_⟩,⟨h,i,j,_⟩,_⟩ =>
bif decide (c.length=c.length) then
 Option.bind (p45_1 fu ((a,c,f,()),())) fun ⟨⟨⟨k,l,m,_⟩,_,_,_⟩,n⟩ =>
 bif !n then
 bif decide (l.length=l.length) then
 bif decide (i.length=i.length) then
 some (((k,l,m,()),(),(),(h,i,j,()),(),(),()),false)
 else none
 else none
 else
 bif decide ((0:Int)≤0∧0<(k.length:Int)) then
 bif decide (0<k.length) then
 bif ((List.length (Option.getD (lookM (.int .u64) j (((((k.getD 0 (dflt T_api_Record)).2).2).2).1)) ([])):Int)==(0:Int)) then
 bif decide (l.length=l.length) then
 bif decide (i.length=i.length) then
 some (((k,l,m,()),(),(),(h,i,j,()),(),(),()),true)
 else none
 else none
 else
 bif decide ((0:Int)≤0∧0<(List.length (Option.getD (lookM (.int .u64) j (((((k.getD 0 (dflt T_api_Record)).2).2).2).1)) ([])):Int)) then
 bif decide (0<List.length (Option.getD (lookM (.int .u64) j (((((k.getD 0 (dflt T_api_Record)).2).2).2).1)) ([]))) then
 bif decide (l.length=l.length) then
 bif decide (i.length=i.length) then
 some (((k,l,m,()),(),(),(h,i,j,()),(),(),()),decide ((List.getD (Option.getD (lookM (.int .u64) j (((((k.getD 0 (dflt T_api_Record)).2).2).2).1)) ([])) 0 (dflt (.int .u64)))≥(((((k.getD 0 (dflt T_api_Record)).2).2).2).2)))
 else none
 else none
 else none
 else none
 else none
 else none
else none
def e46_1 (fu:Nat):Ent := ⟨46,(.cons Y7 (.cons Y7 .nil)),(.cons Y8 (.cons .dead (.cons .dead (.cons Y8 (.cons .dead (.cons .dead .nil)))))),(.hole .bool),p46_1 fu⟩
theorem g46_1 (fu:Nat):(e46_1 fu).Good Tryz.prog := good_fx orders Tryz.func46 fu [(2,(.ent (e45_1 fu)))] [] rs46 34 (l := [e45_1 fu]) ⟨g45_1 fu,trivial⟩
def rs48:List RVx := [(.cell 4 true 5)]
def p48_1 (_:Nat):((List (D_api_Record))×((List Int)×((List (Int×(List Int)))×Unit)))×(Int×Unit)→Option ((((List (D_api_Record))×((List Int)×((List (Int×(List Int)))×Unit)))×(Unit×(Unit×Unit)))×(Int×(ByteArray×((List Int)×(Int×(Int×Unit)))))) := fun ⟨⟨a,c,f,_⟩,h,_⟩ =>
bif decide ((0:Int)≤0∧0<(a.length:Int)) then
 bif decide (0<a.length) then
 bif decide (1≤a.length) then
 bif decide (c.length=c.length) then
 bif decide (c.length+List.length ([h])≤maxLen∧(c.length+List.length ([h])) * 8≤140737488355328) then
 bif decide (1≤List.length (Option.getD (lookM (.int .u64) f (((((a.getD 0 (dflt T_api_Record)).2).2).2).1)) ([]))) then
 bif decide (List.length (c ++ [h])=List.length (c ++ [h])) then
 some (((List.drop 1 a,(c ++ [h]),(setM (.int .u64) f (((((a.getD 0 (dflt T_api_Record)).2).2).2).1) (List.drop 1 (Option.getD (lookM (.int .u64) f (((((a.getD 0 (dflt T_api_Record)).2).2).2).1)) ([])))),()),(),(),()),((a.getD 0 (dflt T_api_Record)).1,((a.getD 0 (dflt T_api_Record)).2).1,(((a.getD 0 (dflt T_api_Record)).2).2).1,((((a.getD 0 (dflt T_api_Record)).2).2).2).1,((((a.getD 0 (dflt T_api_Record)).2).2).2).2,()))
 else none
 else none
 else none
 else none
 else none
 else none
else none
def e48_1 (fu:Nat):Ent := ⟨48,(.cons Y7 (.cons hU .nil)),(.cons Y8 (.cons .dead (.cons .dead .nil))),Y2,p48_1 fu⟩
theorem g48_1 (fu:Nat):(e48_1 fu).Good Tryz.prog := good_fx orders Tryz.func48 fu [(24,(.ty (.int .u64))),(25,(.ty (.int .u64)))] [] rs48 45 (l := []) trivial
def rs20:List RVx := [(.tmp 4),(.tmp 5),(.tmp 6),(.tmp 7)]
def p20 (fu:Nat):(List (D_api_Record))×((List (D_api_Record))×Unit)→Option (Unit×((List (D_api_Record))×((List Int)×((List Int)×(Int×Unit))))) := fun ⟨a,c,_⟩ =>
orK (E := (Bool×Unit)×Unit)
 (Option.bind (p43 fu (a,())) fun ⟨_,f⟩ =>
 bif !f then
 some (.inl ((true,()),()))
 else
 Option.bind (p43 fu (c,())) fun ⟨_,h⟩ =>
 some (.inl ((!h,()),())))
 fun ⟨⟨i,_⟩,_⟩ =>
bif i then
 some ((),([],[],[],(1:Int),()))
else
 bif decide ((IntKind.wrap .i64 ((a.length:Int)+(c.length:Int)))>(4096:Int)) then
 some ((),([],[],[],(143:Int),()))
 else
 Option.bind (pNewSrc fu (a,())) fun ⟨_,⟨j,_,k,_⟩⟩ =>
 Option.bind (pNewSrc fu (c,())) fun ⟨_,⟨l,_,m,_⟩⟩ =>
 loopO (S := ((List (D_api_Record))×Unit)×(((List (D_api_Record))×((List Int)×((List (Int×(List Int)))×Unit)))×(((List (D_api_Record))×((List Int)×((List (Int×(List Int)))×Unit)))×Unit))) fu (fun ⟨⟨n,_⟩,⟨⟨o,q,s,_⟩,⟨t,u,w,_⟩,_⟩⟩ =>
 orK (E := Unit×(((List (D_api_Record))×((List Int)×((List (Int×(List Int)))×Unit)))×(((List (D_api_Record))×((List Int)×((List (Int×(List Int)))×Unit)))×Unit)))
 (bif decide (q.length=q.length) then
 Option.bind (p45_1 fu ((o,q,s,()),())) fun ⟨⟨⟨x,y,z,_⟩,_,_,_⟩,a0⟩ =>
 bif a0 then
 bif decide (y.length=y.length) then
 bif decide (u.length=u.length) then
 some (.inl ((),((x,y,z,()),(t,u,w,()),())))
 else none
 else none
 else
 bif decide (u.length=u.length) then
 Option.bind (p45_1 fu ((t,u,w,()),())) fun ⟨⟨⟨c0,f0,h0,_⟩,_,_,_⟩,i0⟩ =>
 bif i0 then
 bif decide (y.length=y.length) then
 bif decide (f0.length=f0.length) then
 some (.inl ((),((x,y,z,()),(c0,f0,h0,()),())))
 else none
 else none
 else
 inrO (inrO (bif decide (y.length=y.length) then
 bif decide (y.length+List.length ([IntKind.wrap .u64 ((n.length):Int)])≤maxLen∧(y.length+List.length ([IntKind.wrap .u64 ((n.length):Int)])) * 8≤140737488355328) then
 bif decide (f0.length=f0.length) then
 bif decide (f0.length+List.length ([IntKind.wrap .u64 ((n.length):Int)])≤maxLen∧(f0.length+List.length ([IntKind.wrap .u64 ((n.length):Int)])) * 8≤140737488355328) then
 bif decide (n.length=n.length) then
 bif decide (List.length (y ++ [IntKind.wrap .u64 ((n.length):Int)])=List.length (y ++ [IntKind.wrap .u64 ((n.length):Int)])) then
 bif decide (List.length (f0 ++ [IntKind.wrap .u64 ((n.length):Int)])=List.length (f0 ++ [IntKind.wrap .u64 ((n.length):Int)])) then
 some ((),(n,(y ++ [IntKind.wrap .u64 ((n.length):Int)]),(f0 ++ [IntKind.wrap .u64 ((n.length):Int)]),(0:Int),()))
 else none
 else none
 else none
 else none
 else none
 else none
 else none))
 else none
 else none)
 fun ⟨_,⟨⟨o,q,s,_⟩,⟨t,u,w,_⟩,_⟩⟩ =>
 bif decide (q.length=q.length) then
 bif decide (u.length=u.length) then
 Option.bind (p46_1 fu ((o,q,s,()),(t,u,w,()),())) fun ⟨⟨⟨j0,k0,l0,_⟩,_,_,⟨m0,n0,o0,_⟩,_,_,_⟩,q0⟩ =>
 bif q0 then
 bif decide (k0.length=k0.length) then
 Option.bind (p48_1 fu ((j0,k0,l0,()),IntKind.wrap .u64 ((n.length):Int),())) fun ⟨⟨⟨s0,t0,u0,_⟩,_,_,_⟩,⟨w0,x0,y0,z0,a1,_⟩⟩ =>
 bif decide (n.length=n.length) then
 Option.bind (p47_1 fu (n,(w0,x0,y0,z0,a1,()),())) fun ⟨⟨_,_⟩,c1⟩ =>
 bif decide (c1.length=c1.length) then
 bif decide (t0.length=t0.length) then
 bif decide (n0.length=n0.length) then
 some (.inl ((c1,()),((s0,t0,u0,()),(m0,n0,o0,()),())))
 else none
 else none
 else none
 else none
 else none
 else
 bif decide (n0.length=n0.length) then
 bif decide (k0.length=k0.length) then
 Option.bind (p46_1 fu ((m0,n0,o0,()),(j0,k0,l0,()),())) fun ⟨⟨⟨f1,h1,i1,_⟩,_,_,⟨j1,k1,l1,_⟩,_,_,_⟩,m1⟩ =>
 bif m1 then
 bif decide (h1.length=h1.length) then
 Option.bind (p48_1 fu ((f1,h1,i1,()),IntKind.wrap .u64 ((n.length):Int),())) fun ⟨⟨⟨n1,o1,q1,_⟩,_,_,_⟩,⟨s1,t1,u1,w1,x1,_⟩⟩ =>
 bif decide (n.length=n.length) then
 Option.bind (p47_1 fu (n,(s1,t1,u1,w1,x1,()),())) fun ⟨⟨_,_⟩,y1⟩ =>
 bif decide (y1.length=y1.length) then
 bif decide (k1.length=k1.length) then
 bif decide (o1.length=o1.length) then
 some (.inl ((y1,()),((j1,k1,l1,()),(n1,o1,q1,()),())))
 else none
 else none
 else none
 else none
 else none
 else
 inrO (some ((),([],[],[],(145:Int),())))
 else none
 else none
 else none
 else none)
 (([],()),((j,[],k,()),(l,[],m,()),()))
def e20 (fu:Nat):Ent := ⟨20,(.cons (.hole (.sl .any T_api_Record)) (.cons (.hole (.sl .any T_api_Record)) .nil)),.nil,Y9,p20 fu⟩
theorem g20 (fu:Nat):(e20 fu).Good Tryz.prog := good_fx orders Tryz.func20 fu [(5,(.ent (e43 fu))),(9,(.ent (e43 fu))),(28,(.ent (eNewSrc fu))),(30,(.ent (eNewSrc fu))),(34,(.ent (e45_1 fu))),(37,(.ent (e45_1 fu))),(42,(.ent (e46_1 fu))),(48,(.ent (e46_1 fu))),(61,(.ent (e48_1 fu))),(62,(.ent (e47_1 fu))),(74,(.ty (.int .u64))),(75,(.ty (.int .u64))),(81,(.ty (.int .u64))),(82,(.ty (.int .u64)))] [(2,⟨[20],(.cons (.hole .bool) .nil),[],.nil,[0,1],[]⟩),(10,⟨[8],(.cons (.own .own 38 T_api_Record_n) .nil),[(192,90,3),(224,90,3)],(.cons Y8 (.cons Y8 .nil)),[9,10],[]⟩),(11,⟨[],.nil,[(192,90,3),(224,90,3)],(.cons Y8 (.cons Y8 .nil)),[8,9,10],[272]⟩)] rs20 72 (l := [e43 fu,e43 fu,eNewSrc fu,eNewSrc fu,e45_1 fu,e45_1 fu,e46_1 fu,e46_1 fu,e48_1 fu,e47_1 fu]) ⟨g43 fu,g43 fu,gNewSrc fu,gNewSrc fu,g45_1 fu,g45_1 fu,g46_1 fu,g46_1 fu,g48_1 fu,g47_1 fu,trivial⟩
def rs53:List RVx := [(.cell 4 true 4)]
def p53 (_:Nat):(Int×(Int×(Bool×(Int×Unit))))×((Int×(Int×(Bool×(Int×Unit))))×Unit)→Option (Unit×(Int×(Int×(Bool×(Int×Unit))))) := fun ⟨⟨a,c,f,h,_⟩,⟨i,j,k,l,_⟩,_⟩ =>
bif decide (j>c) then
 some ((),(i,j,k,l,()))
else
 bif (j==c) then
 bif k then
 bif !f then
 some ((),(i,j,k,l,()))
 else
 some ((),(a,c,f,h,()))
 else
 some ((),(a,c,f,h,()))
 else
 some ((),(a,c,f,h,()))
def e53 (fu:Nat):Ent := ⟨53,(.cons (.agg 4 (.cons hU (.cons hU (.cons (.hole .bool) (.cons hU .nil))))) (.cons (.agg 4 (.cons hU (.cons hU (.cons (.hole .bool) (.cons hU .nil))))) .nil)),.nil,(.agg 4 (.cons hU (.cons hU (.cons (.hole .bool) (.cons hU .nil))))),p53 fu⟩
theorem g53 (fu:Nat):(e53 fu).Good Tryz.prog := good_fx orders Tryz.func53 fu [] [] rs53 28 (l := []) trivial
def rs51:List RVx := [(.tmp 8)]
def p51 (fu:Nat):(List (D_api_Producer))×((List (D_api_Producer))×((Unit×Unit)×((Unit×Unit)×Unit)))→Option (Unit×(List (D_api_Producer))) := fun ⟨a,c,⟨_,_⟩,⟨_,_⟩,_⟩ =>
orK (E := ((List (D_api_Producer))×((List (D_api_Producer))×((List (D_api_Producer))×Unit)))×Unit)
 (loopO (S := ((List (D_api_Producer))×((List (D_api_Producer))×((List (D_api_Producer))×Unit)))×Unit) fu (fun ⟨⟨f,h,i,_⟩,_⟩ =>
 bif decide ((f.length:Int)>(0:Int)) then
 bif decide ((h.length:Int)>(0:Int)) then
 bif decide ((0:Int)≤0∧0<(f.length:Int)) then
 bif decide (0<f.length) then
 bif decide ((0:Int)≤0∧0<(h.length:Int)) then
 bif decide (0<h.length) then
 Option.bind (p52 fu (((f.getD 0 (dflt T_api_Producer)).1,((f.getD 0 (dflt T_api_Producer)).2).1,(((f.getD 0 (dflt T_api_Producer)).2).2).1,(((f.getD 0 (dflt T_api_Producer)).2).2).2,()),((h.getD 0 (dflt T_api_Producer)).1,((h.getD 0 (dflt T_api_Producer)).2).1,(((h.getD 0 (dflt T_api_Producer)).2).2).1,(((h.getD 0 (dflt T_api_Producer)).2).2).2,()),())) fun ⟨_,j⟩ =>
 bif decide (j<(0:Int)) then
 bif decide ((0:Int)≤0∧0<(f.length:Int)) then
 bif decide (0<f.length) then
 bif decide (i.length=i.length) then
 bif decide (i.length+List.length ([((f.getD 0 (dflt T_api_Producer)).1,((f.getD 0 (dflt T_api_Producer)).2).1,(((f.getD 0 (dflt T_api_Producer)).2).2).1,(((f.getD 0 (dflt T_api_Producer)).2).2).2)])≤maxLen∧(i.length+List.length ([((f.getD 0 (dflt T_api_Producer)).1,((f.getD 0 (dflt T_api_Producer)).2).1,(((f.getD 0 (dflt T_api_Producer)).2).2).1,(((f.getD 0 (dflt T_api_Producer)).2).2).2)])) * 32≤140737488355328) then
 bif decide (1≤f.length) then
 bif decide (List.length (i ++ [((f.getD 0 (dflt T_api_Producer)).1,((f.getD 0 (dflt T_api_Producer)).2).1,(((f.getD 0 (dflt T_api_Producer)).2).2).1,(((f.getD 0 (dflt T_api_Producer)).2).2).2)])=List.length (i ++ [((f.getD 0 (dflt T_api_Producer)).1,((f.getD 0 (dflt T_api_Producer)).2).1,(((f.getD 0 (dflt T_api_Producer)).2).2).1,(((f.getD 0 (dflt T_api_Producer)).2).2).2)])) then
 some (.inl ((List.drop 1 f,h,(i ++ [((f.getD 0 (dflt T_api_Producer)).1,((f.getD 0 (dflt T_api_Producer)).2).1,(((f.getD 0 (dflt T_api_Producer)).2).2).1,(((f.getD 0 (dflt T_api_Producer)).2).2).2)]),()),()))
 else none
 else none
 else none
 else none
 else none
 else none
 else
 bif decide (j>(0:Int)) then
 bif decide ((0:Int)≤0∧0<(h.length:Int)) then
 bif decide (0<h.length) then
 bif decide (i.length=i.length) then
 bif decide (i.length+List.length ([((h.getD 0 (dflt T_api_Producer)).1,((h.getD 0 (dflt T_api_Producer)).2).1,(((h.getD 0 (dflt T_api_Producer)).2).2).1,(((h.getD 0 (dflt T_api_Producer)).2).2).2)])≤maxLen∧(i.length+List.length ([((h.getD 0 (dflt T_api_Producer)).1,((h.getD 0 (dflt T_api_Producer)).2).1,(((h.getD 0 (dflt T_api_Producer)).2).2).1,(((h.getD 0 (dflt T_api_Producer)).2).2).2)])) * 32≤140737488355328) then
 bif decide (1≤h.length) then
 bif decide (List.length (i ++ [((h.getD 0 (dflt T_api_Producer)).1,((h.getD 0 (dflt T_api_Producer)).2).1,(((h.getD 0 (dflt T_api_Producer)).2).2).1,(((h.getD 0 (dflt T_api_Producer)).2).2).2)])=List.length (i ++ [((h.getD 0 (dflt T_api_Producer)).1,((h.getD 0 (dflt T_api_Producer)).2).1,(((h.getD 0 (dflt T_api_Producer)).2).2).1,(((h.getD 0 (dflt T_api_Producer)).2).2).2)])) then
 some (.inl ((f,List.drop 1 h,(i ++ [((h.getD 0 (dflt T_api_Producer)).1,((h.getD 0 (dflt T_api_Producer)).2).1,(((h.getD 0 (dflt T_api_Producer)).2).2).1,(((h.getD 0 (dflt T_api_Producer)).2).2).2)]),()),()))
 else none
 else none
 else none
 else none
 else none
 else none
 else
 bif decide ((0:Int)≤0∧0<(f.length:Int)) then
 bif decide (0<f.length) then
 bif decide ((0:Int)≤0∧0<(h.length:Int)) then
 bif decide (0<h.length) then
 Option.bind (p53 fu (((f.getD 0 (dflt T_api_Producer)).1,((f.getD 0 (dflt T_api_Producer)).2).1,(((f.getD 0 (dflt T_api_Producer)).2).2).1,(((f.getD 0 (dflt T_api_Producer)).2).2).2,()),((h.getD 0 (dflt T_api_Producer)).1,((h.getD 0 (dflt T_api_Producer)).2).1,(((h.getD 0 (dflt T_api_Producer)).2).2).1,(((h.getD 0 (dflt T_api_Producer)).2).2).2,()),())) fun ⟨_,⟨k,l,m,n,_⟩⟩ =>
 bif decide (i.length=i.length) then
 bif decide (i.length+List.length ([(k,l,m,n)])≤maxLen∧(i.length+List.length ([(k,l,m,n)])) * 32≤140737488355328) then
 bif decide (1≤f.length) then
 bif decide (1≤h.length) then
 bif decide (List.length (i ++ [(k,l,m,n)])=List.length (i ++ [(k,l,m,n)])) then
 some (.inl ((List.drop 1 f,List.drop 1 h,(i ++ [(k,l,m,n)]),()),()))
 else none
 else none
 else none
 else none
 else none
 else none
 else none
 else none
 else none
 else none
 else none
 else none
 else none
 else
 inrO (bif decide (i.length=i.length) then
 some (.inl ((f,h,i,()),()))
 else none)
 else
 inrO (bif decide (i.length=i.length) then
 some (.inl ((f,h,i,()),()))
 else none))
 ((a,c,[],()),()))
 fun ⟨⟨f,h,i,_⟩,_⟩ =>
bif decide (i.length=i.length) then
 bif decide (i.length+f.length≤maxLen∧(i.length+f.length) * 32≤140737488355328) then
 bif decide (List.length (i ++ f)=List.length (i ++ f)) then
 bif decide (List.length (i ++ f)+h.length≤maxLen∧(List.length (i ++ f)+h.length) * 32≤140737488355328) then
 bif decide (List.length ((i ++ f) ++ h)=List.length ((i ++ f) ++ h)) then
 some ((),((i ++ f) ++ h))
 else none
 else none
 else none
 else none
else none
def e51 (fu:Nat):Ent := ⟨51,(.cons (.hole (.sl .any T_api_Producer)) (.cons (.hole (.sl .any T_api_Producer)) (.cons (.clo 52 0 .nil 0 .nil) (.cons (.clo 53 0 .nil 0 .nil) .nil)))),.nil,(.own .own 46 T_api_Producer),p51 fu⟩
theorem g51 (fu:Nat):(e51 fu).Good Tryz.prog := good_fx orders Tryz.func51 fu [(17,(.ent (e52 fu))),(26,(.ty T_api_Producer)),(27,(.ty T_api_Producer)),(39,(.ty T_api_Producer)),(40,(.ty T_api_Producer)),(53,(.ent (e53 fu))),(54,(.ty T_api_Producer)),(55,(.ty T_api_Producer)),(65,(.ty T_api_Producer)),(67,(.ty T_api_Producer))] [(2,⟨[0,1,9],(.cons (.hole (.sl .any T_api_Producer)) (.cons (.hole (.sl .any T_api_Producer)) (.cons (.own .own 46 T_api_Producer) .nil))),[],.nil,[],[]⟩),(3,⟨[0,1,9],(.cons (.hole (.sl .any T_api_Producer)) (.cons (.hole (.sl .any T_api_Producer)) (.cons (.own .own 46 T_api_Producer) .nil))),[],.nil,[2,3],[]⟩)] rs51 69 (l := [e52 fu,e53 fu]) ⟨g52 fu,g53 fu,trivial⟩
def rs50:List RVx := [(.tmp 2),(.tmp 3)]
def p50_1 (_:Nat):(List (D_api_Producer))×Unit→Option ((Unit×Unit)×((List (D_api_Producer))×(Int×Unit))) := fun ⟨a,_⟩ =>
bif decide (((a.length):Int)>(256:Int)) then
 some (((),()),([],(153:Int),()))
else
 bif decide (a.length=a.length) then
 some (((),()),(a,(0:Int),()))
 else none
def e50_1 (fu:Nat):Ent := ⟨50,(.cons (.own .own 46 T_api_Producer) .nil),(.cons .dead .nil),(.tup 2 (.cons (.own .own 46 T_api_Producer) (.cons hI .nil))),p50_1 fu⟩
theorem g50_1 (fu:Nat):(e50_1 fu).Good Tryz.prog := good_fx orders Tryz.func50 fu [] [] rs50 8 (l := []) trivial
def rs22:List RVx := [(.tmp 8),(.tmp 9)]
def p22 (fu:Nat):(List (D_api_Producer))×((List (D_api_Producer))×((List Int)×((List Int)×Unit)))→Option (Unit×((List (D_api_Producer))×(Int×Unit))) := fun ⟨a,c,f,h,_⟩ =>
Option.bind (p49 fu (a,())) fun ⟨_,i⟩ =>
bif !i then
 some ((),([],(1:Int),()))
else
 Option.bind (p49 fu (c,())) fun ⟨_,j⟩ =>
 bif !j then
 some ((),([],(1:Int),()))
 else
 Option.bind (p38 fu (a,f,())) fun ⟨_,k⟩ =>
 Option.bind (p38 fu (c,h,())) fun ⟨_,l⟩ =>
 bif decide (k.length=k.length) then
 bif decide (l.length=l.length) then
 Option.bind (p51 fu (k,l,((),()),((),()),())) fun ⟨_,m⟩ =>
 bif decide (m.length=m.length) then
 Option.bind (p50_1 fu (m,())) fun ⟨⟨_,_⟩,⟨n,o,_⟩⟩ =>
 bif decide (n.length=n.length) then
 some ((),(n,o,()))
 else none
 else none
 else none
 else none
def e22 (fu:Nat):Ent := ⟨22,(.cons (.hole (.sl .any T_api_Producer)) (.cons (.hole (.sl .any T_api_Producer)) (.cons (.hole (.sl .any (.int .u64))) (.cons (.hole (.sl .any (.int .u64))) .nil)))),.nil,(.tup 2 (.cons (.own .own 46 T_api_Producer) (.cons hI .nil))),p22 fu⟩
theorem g22 (fu:Nat):(e22 fu).Good Tryz.prog := good_fx orders Tryz.func22 fu [(3,(.ent (e49 fu))),(7,(.ent (e49 fu))),(14,(.ent (e38 fu))),(17,(.ent (e38 fu))),(18,(.ent (e51 fu))),(19,(.ent (e50_1 fu)))] [] rs22 28 (l := [e49 fu,e49 fu,e38 fu,e38 fu,e51 fu,e50_1 fu]) ⟨g49 fu,g49 fu,g38 fu,g38 fu,g51 fu,g50_1 fu,trivial⟩
def rs91:List RVx := [(.tmp 4)]
def p91 (_:Nat):Unit×(Int×Unit)→Option (Unit×(List (D_runtime_errorAddressString))) := fun ⟨_,a,_⟩ =>
bif decide (a<(0:Int)) then
 none
else
 bif decide ((IntKind.wrap .i64 (a-(0:Int)))>(0:Int)) then
 bif decide ((0:Int)<IntKind.wrap .i64 (a-(0:Int))∧(IntKind.wrap .i64 (a-(0:Int)):Int) * 24≤140737488355328∧(IntKind.wrap .i64 (a-(0:Int)):Int)≤9223372036854775807) then
 bif decide (0≤0∧0≤List.length (List.replicate (Int.toNat (IntKind.wrap .i64 (a-(0:Int)))) ((⟨#[]⟩:ByteArray),(0:Int)):List (D_runtime_errorAddressString))) then
 bif decide (0=List.length (List.take 0 (List.replicate (Int.toNat (IntKind.wrap .i64 (a-(0:Int)))) ((⟨#[]⟩:ByteArray),(0:Int)):List (D_runtime_errorAddressString)))) then
 some ((),List.take 0 (List.replicate (Int.toNat (IntKind.wrap .i64 (a-(0:Int)))) ((⟨#[]⟩:ByteArray),(0:Int)):List (D_runtime_errorAddressString)))
 else none
 else none
 else none
 else
 some ((),[])
def e91 (fu:Nat):Ent := ⟨91,(.cons .nils (.cons hI .nil)),.nil,(.own .own 50 T_runtime_errorAddressString),p91 fu⟩
theorem g91 (fu:Nat):(e91 fu).Good Tryz.prog := good_fx orders Tryz.func91 fu [(20,(.ty T_runtime_errorAddressString))] [] rs91 27 (l := []) trivial
def rs55:List RVx := [(.tmp 2)]
def p55 (fu:Nat):(List (List (D_runtime_errorAddressString)))×Unit→Option (Unit×(List (D_runtime_errorAddressString))) := fun ⟨a,_⟩ =>
loopO (S := (Int×(Int×Unit))×Unit) fu (fun ⟨⟨c,f,_⟩,_⟩ =>
 bif decide (f<(a.length:Int)) then
 bif decide ((0:Int)≤f∧f<(a.length:Int)) then
 bif decide (f.toNat<a.length) then
 bif decide ((IntKind.wrap .i64 (c+(List.length (a.getD (f.toNat) (dflt (.sl .any T_runtime_errorAddressString))):Int)))<(0:Int)) then
 none
 else
 some (.inl ((IntKind.wrap .i64 (c+(List.length (a.getD (f.toNat) (dflt (.sl .any T_runtime_errorAddressString))):Int)),IntKind.wrap .i64 (f+(1:Int)),()),()))
 else none
 else none
 else
 inrO (Option.bind (p91 fu ((),c,())) fun ⟨_,h⟩ =>
 bif decide (h.length=h.length) then
 loopO (S := ((List (D_runtime_errorAddressString))×(Int×Unit))×Unit) fu (fun ⟨⟨i,j,_⟩,_⟩ =>
 bif decide (j<(a.length:Int)) then
 bif decide ((0:Int)≤j∧j<(a.length:Int)) then
 bif decide (j.toNat<a.length) then
 bif decide (i.length=i.length) then
 bif decide (i.length+List.length (a.getD (j.toNat) (dflt (.sl .any T_runtime_errorAddressString)))≤maxLen∧(i.length+List.length (a.getD (j.toNat) (dflt (.sl .any T_runtime_errorAddressString)))) * 24≤140737488355328) then
 bif decide (List.length (i ++ (a.getD (j.toNat) (dflt (.sl .any T_runtime_errorAddressString))))=List.length (i ++ (a.getD (j.toNat) (dflt (.sl .any T_runtime_errorAddressString))))) then
 some (.inl (((i ++ (a.getD (j.toNat) (dflt (.sl .any T_runtime_errorAddressString)))),IntKind.wrap .i64 (j+(1:Int)),()),()))
 else none
 else none
 else none
 else none
 else none
 else
 inrO (bif decide (i.length=i.length) then
 some ((),i)
 else none))
 ((h,(0:Int),()),())
 else none))
 (((0:Int),(0:Int),()),())
def e55 (fu:Nat):Ent := ⟨55,(.cons (.hole (.sl .any (.sl .any T_runtime_errorAddressString))) .nil),.nil,(.own .own 50 T_runtime_errorAddressString),p55 fu⟩
theorem g55 (fu:Nat):(e55 fu).Good Tryz.prog := good_fx orders Tryz.func55 fu [(21,(.ent (e91 fu))),(32,(.ty T_runtime_errorAddressString))] [(4,⟨[3,11],(.cons hI (.cons hI .nil)),[],.nil,[0,9,10],[]⟩),(14,⟨[6,27],(.cons (.own .own 50 T_runtime_errorAddressString) (.cons hI .nil)),[],.nil,[25,26],[]⟩)] rs55 36 (l := [e91 fu]) ⟨g91 fu,trivial⟩
def rs56:List RVx := [(.tmp 4),(.tmp 5)]
def p56 (fu:Nat):(List (D_runtime_errorAddressString))×(ByteArray×Unit)→Option (Unit×(Int×(Bool×Unit))) := fun ⟨a,c,_⟩ =>
loopO (S := (Int×Unit)×Unit) fu (fun ⟨⟨f,_⟩,_⟩ =>
 bif decide (f<(a.length:Int)) then
 bif decide ((0:Int)≤f∧f<(a.length:Int)) then
 bif decide (f.toNat<a.length) then
 bif ByteArray.toList ((a.getD (f.toNat) (dflt T_runtime_errorAddressString)).1)==ByteArray.toList c then
 inrO (some ((),((a.getD (f.toNat) (dflt T_runtime_errorAddressString)).2,true,())))
 else
 some (.inl ((IntKind.wrap .i64 (f+(1:Int)),()),()))
 else none
 else none
 else
 inrO (some ((),((0:Int),false,()))))
 (((0:Int),()),())
def e56 (fu:Nat):Ent := ⟨56,(.cons (.hole (.sl .any T_runtime_errorAddressString)) (.cons hT .nil)),.nil,(.tup 2 (.cons hU (.cons (.hole .bool) .nil))),p56 fu⟩
theorem g56 (fu:Nat):(e56 fu).Good Tryz.prog := good_fx orders Tryz.func56 fu [] [(3,⟨[10],(.cons hI .nil),[],.nil,[1,8,9],[]⟩)] rs56 21 (l := []) trivial
def rs95:List RVx := [(.tmp 4)]
def p95 (fu:Nat):ByteArray×(ByteArray×Unit)→Option (Unit×Int) := fun ⟨a,c,_⟩ =>
Option.bind (pCmpS fu (a,c,())) fun ⟨_,f⟩ =>
some ((),f)
def e95 (fu:Nat):Ent := ⟨95,(.cons hT (.cons hT .nil)),.nil,hI,p95 fu⟩
theorem g95 (fu:Nat):(e95 fu).Good Tryz.prog := good_fx orders Tryz.func95 fu [(3,(.ent (eCmpS fu)))] [] rs95 8 (l := [eCmpS fu]) ⟨gCmpS fu,trivial⟩
def rs59:List RVx := [(.tmp 4)]
def p59 (fu:Nat):(ByteArray×(Int×Unit))×((ByteArray×(Int×Unit))×Unit)→Option (Unit×Int) := fun ⟨⟨a,_,_⟩,⟨c,_,_⟩,_⟩ =>
Option.bind (p95 fu (a,c,())) fun ⟨_,f⟩ =>
some ((),f)
def e59 (fu:Nat):Ent := ⟨59,(.cons (.agg 2 (.cons hT (.cons hU .nil))) (.cons (.agg 2 (.cons hT (.cons hU .nil))) .nil)),.nil,hI,p59 fu⟩
theorem g59 (fu:Nat):(e59 fu).Good Tryz.prog := good_fx orders Tryz.func59 fu [(7,(.ent (e95 fu)))] [] rs59 10 (l := [e95 fu]) ⟨g95 fu,trivial⟩
def rs92:List RVx := [(.tmp 6),(.tmp 7)]
def p92 (fu:Nat):(List (D_runtime_errorAddressString))×((ByteArray×(Int×Unit))×((Unit×Unit)×Unit))→Option (Unit×(Int×(Bool×Unit))) := fun ⟨a,⟨c,f,_⟩,⟨_,_⟩,_⟩ =>
loopO (S := (Int×(Int×Unit))×Unit) fu (fun ⟨⟨h,i,_⟩,_⟩ =>
 bif decide (h<i) then
 bif decide ((0:Int)≤IntKind.wrap .i64 (Int.fdiv (IntKind.wrap .u64 (IntKind.wrap .i64 (h+i))) (2 ^ (min (Int.toNat (1:Int)) (IntKind.bits .u64))))∧IntKind.wrap .i64 (Int.fdiv (IntKind.wrap .u64 (IntKind.wrap .i64 (h+i))) (2 ^ (min (Int.toNat (1:Int)) (IntKind.bits .u64))))<(a.length:Int)) then
 bif decide (Int.toNat (IntKind.wrap .i64 (Int.fdiv (IntKind.wrap .u64 (IntKind.wrap .i64 (h+i))) (2 ^ (min (Int.toNat (1:Int)) (IntKind.bits .u64)))))<a.length) then
 Option.bind (p59 fu (((a.getD (Int.toNat (IntKind.wrap .i64 (Int.fdiv (IntKind.wrap .u64 (IntKind.wrap .i64 (h+i))) (2 ^ (min (Int.toNat (1:Int)) (IntKind.bits .u64)))))) (dflt T_runtime_errorAddressString)).1,(a.getD (Int.toNat (IntKind.wrap .i64 (Int.fdiv (IntKind.wrap .u64 (IntKind.wrap .i64 (h+i))) (2 ^ (min (Int.toNat (1:Int)) (IntKind.bits .u64)))))) (dflt T_runtime_errorAddressString)).2,()),(c,f,()),())) fun ⟨_,j⟩ =>
 bif decide (j<(0:Int)) then
 some (.inl ((IntKind.wrap .i64 ((IntKind.wrap .i64 (Int.fdiv (IntKind.wrap .u64 (IntKind.wrap .i64 (h+i))) (2 ^ (min (Int.toNat (1:Int)) (IntKind.bits .u64)))))+(1:Int)),i,()),()))
 else
 some (.inl ((h,IntKind.wrap .i64 (Int.fdiv (IntKind.wrap .u64 (IntKind.wrap .i64 (h+i))) (2 ^ (min (Int.toNat (1:Int)) (IntKind.bits .u64)))),()),()))
 else none
 else none
 else
 inrO (bif decide (h<(a.length:Int)) then
 bif decide ((0:Int)≤h∧h<(a.length:Int)) then
 bif decide (h.toNat<a.length) then
 Option.bind (p59 fu (((a.getD (h.toNat) (dflt T_runtime_errorAddressString)).1,(a.getD (h.toNat) (dflt T_runtime_errorAddressString)).2,()),(c,f,()),())) fun ⟨_,k⟩ =>
 some ((),(h,(k==(0:Int)),()))
 else none
 else none
 else
 some ((),(h,false,()))))
 (((0:Int),(a.length:Int),()),())
def e92 (fu:Nat):Ent := ⟨92,(.cons (.hole (.sl .any T_runtime_errorAddressString)) (.cons (.agg 2 (.cons hT (.cons hU .nil))) (.cons (.clo 59 0 .nil 0 .nil) .nil))),.nil,(.tup 2 (.cons hI (.cons (.hole .bool) .nil))),p92 fu⟩
theorem g92 (fu:Nat):(e92 fu).Good Tryz.prog := good_fx orders Tryz.func92 fu [(25,(.ent (e59 fu))),(43,(.ent (e59 fu)))] [(4,⟨[9,10],(.cons hI (.cons hI .nil)),[],.nil,[0,2,4,8],[0]⟩)] rs92 49 (l := [e59 fu,e59 fu]) ⟨g59 fu,g59 fu,trivial⟩
def rs93:List RVx := [(.tmp 2)]
def p93 (_:Nat):(List (D_runtime_errorAddressString))×Unit→Option (Unit×(List (D_runtime_errorAddressString))) := fun ⟨a,_⟩ =>
bif ((a.length:Int)==(0:Int)) then
 some ((),[])
else
 bif decide ((0:Int)≤(a.length:Int)∧((a.length:Int):Int)≤(a.length:Int)∧((a.length:Int):Int)≤9223372036854775807∧(24:Int) * (a.length:Int)≤140737488355328) then
 bif decide (Int.toNat (a.length:Int)=List.length (List.replicate (Int.toNat (a.length:Int)) ((⟨#[]⟩:ByteArray),(0:Int)):List (D_runtime_errorAddressString))) then
 bif decide (Int.toNat (a.length:Int)=List.length (copyL (List.replicate (Int.toNat (a.length:Int)) ((⟨#[]⟩:ByteArray),(0:Int)):List (D_runtime_errorAddressString)) 0 (Int.toNat (a.length:Int)) a)) then
 some ((),(copyL (List.replicate (Int.toNat (a.length:Int)) ((⟨#[]⟩:ByteArray),(0:Int)):List (D_runtime_errorAddressString)) 0 (Int.toNat (a.length:Int)) a))
 else none
 else none
 else none
def e93 (fu:Nat):Ent := ⟨93,(.cons (.hole (.sl .any T_runtime_errorAddressString)) .nil),.nil,(.own .own 50 T_runtime_errorAddressString),p93 fu⟩
theorem g93 (fu:Nat):(e93 fu).Good Tryz.prog := good_fx orders Tryz.func93 fu [(7,(.ty T_runtime_errorAddressString))] [] rs93 14 (l := []) trivial
def rs58:List RVx := [(.tmp 6)]
def p58 (fu:Nat):(List (D_runtime_errorAddressString))×((ByteArray×(Int×Unit))×((Unit×Unit)×Unit))→Option (Unit×(List (D_runtime_errorAddressString))) := fun ⟨a,⟨c,f,_⟩,⟨_,_⟩,_⟩ =>
Option.bind (p92 fu (a,(c,f,()),((),()),())) fun ⟨_,⟨h,i,_⟩⟩ =>
Option.bind (p93 fu (a,())) fun ⟨_,j⟩ =>
bif i then
 bif decide ((0:Int)≤h∧h<(j.length:Int)) then
 bif decide (h.toNat<j.length) then
 bif decide (j.length=List.length (List.set j (h.toNat) (c,f))) then
 some ((),(List.set j (h.toNat) (c,f)))
 else none
 else none
 else none
else
 bif decide (j.length=j.length) then
 Option.bind (pInsertC fu (j,h,[(c,f)],())) fun ⟨⟨_,_,_⟩,k⟩ =>
 bif decide (k.length=k.length) then
 some ((),k)
 else none
 else none
def e58 (fu:Nat):Ent := ⟨58,(.cons (.hole (.sl .any T_runtime_errorAddressString)) (.cons (.agg 2 (.cons hT (.cons hU .nil))) (.cons (.clo 59 0 .nil 0 .nil) .nil))),.nil,(.own .own 50 T_runtime_errorAddressString),p58 fu⟩
theorem g58 (fu:Nat):(e58 fu).Good Tryz.prog := good_fx orders Tryz.func58 fu [(5,(.ent (e92 fu))),(12,(.ent (e93 fu))),(25,(.ty T_runtime_errorAddressString)),(26,(.ent (eInsertC fu)))] [] rs58 30 (l := [e92 fu,e93 fu,eInsertC fu]) ⟨g92 fu,g93 fu,gInsertC fu,trivial⟩
def rs24:List RVx := [(.tmp 8),(.tmp 9)]
def p24 (fu:Nat):(List (D_runtime_errorAddressString))×((List (D_runtime_errorAddressString))×((List Int)×((List Int)×Unit)))→Option (Unit×((List (D_runtime_errorAddressString))×(Int×Unit))) := fun ⟨a,c,f,h,_⟩ =>
Option.bind (p54 fu (a,())) fun ⟨_,i⟩ =>
bif !i then
 some ((),([],(1:Int),()))
else
 Option.bind (p54 fu (c,())) fun ⟨_,j⟩ =>
 bif !j then
 some ((),([],(1:Int),()))
 else
 bif ((f.length:Int)==(0:Int)) then
 some ((),([],(1:Int),()))
 else
 bif ((h.length:Int)==(0:Int)) then
 some ((),([],(1:Int),()))
 else
 Option.bind (p55 fu ([a,c],())) fun ⟨_,k⟩ =>
 loopO (S := ((List (D_runtime_errorAddressString))×(Int×Unit))×Unit) fu (fun ⟨⟨l,m,_⟩,_⟩ =>
 bif decide (m<((k.length):Int)) then
 bif decide ((0:Int)≤m∧m<(k.length:Int)) then
 bif decide (m.toNat<k.length) then
 Option.bind (p56 fu (a,(k.getD (m.toNat) (dflt T_runtime_errorAddressString)).1,())) fun ⟨_,⟨n,_,_⟩⟩ =>
 Option.bind (p56 fu (c,(k.getD (m.toNat) (dflt T_runtime_errorAddressString)).1,())) fun ⟨_,⟨o,_,_⟩⟩ =>
 Option.bind (p57 fu (f,n,())) fun ⟨_,q⟩ =>
 Option.bind (p57 fu (h,o,())) fun ⟨_,s⟩ =>
 bif decide (l.length=l.length) then
 Option.bind (p58 fu (l,((k.getD (m.toNat) (dflt T_runtime_errorAddressString)).1,(if s<q then s else q),()),((),()),())) fun ⟨_,t⟩ =>
 bif decide (t.length=t.length) then
 some (.inl ((t,IntKind.wrap .i64 (m+(1:Int)),()),()))
 else none
 else none
 else none
 else none
 else
 inrO (bif decide (((l.length):Int)>(64:Int)) then
 some ((),([],(143:Int),()))
 else
 bif decide (l.length=l.length) then
 some ((),(l,(0:Int),()))
 else none))
 (([],(0:Int),()),())
def e24 (fu:Nat):Ent := ⟨24,(.cons (.hole (.sl .any T_runtime_errorAddressString)) (.cons (.hole (.sl .any T_runtime_errorAddressString)) (.cons (.hole (.sl .any (.int .u64))) (.cons (.hole (.sl .any (.int .u64))) .nil)))),.nil,(.tup 2 (.cons (.own .own 50 T_runtime_errorAddressString) (.cons hI .nil))),p24 fu⟩
theorem g24 (fu:Nat):(e24 fu).Good Tryz.prog := good_fx orders Tryz.func24 fu [(3,(.ent (e54 fu))),(7,(.ent (e54 fu))),(25,(.ty (.sl .any T_runtime_errorAddressString))),(26,(.ent (e55 fu))),(37,(.ent (e56 fu))),(46,(.ent (e56 fu))),(54,(.ent (e57 fu))),(57,(.ent (e57 fu))),(65,(.ent (e58 fu)))] [(7,⟨[10,41],(.cons (.own .own 50 T_runtime_errorAddressString) (.cons hI .nil)),[],.nil,[0,1,2,3,39,40],[384]⟩)] rs24 77 (l := [e54 fu,e54 fu,e55 fu,e56 fu,e56 fu,e57 fu,e57 fu,e58 fu]) ⟨g54 fu,g54 fu,g55 fu,g56 fu,g56 fu,g57 fu,g57 fu,g58 fu,trivial⟩
def rs17:List RVx := []
def p17_5 (fu:Nat):(Z0)×((Z0)×((Z0)×((Int×Unit)×Unit)))→Option (((Z0)×((Z0)×((Z0)×(Unit×(Unit×(Unit×((Int×Unit)×Unit)))))))×Unit) := fun ⟨⟨a,c,f,h,i,j,k,_⟩,⟨l,m,n,o,q,s,t,_⟩,⟨_,_,u,w,x,y,z,_⟩,⟨_,_⟩,_⟩ =>
Option.bind (p18 fu ((a,c,()),(l,m,()),())) fun ⟨_,⟨⟨a0,c0,_⟩,f0,_⟩⟩ =>
bif decide (x.length=x.length) then
 bif decide (y.length=y.length) then
 bif decide (z.length=z.length) then
 some (((a,c,f,h,i,j,k,()),(l,m,n,o,q,s,t,()),(a0,c0,u,w,x,y,z,()),(),(),(),(f0,()),()),())
 else none
 else none
else none
def e17_5 (fu:Nat):Ent := ⟨17,(.cons Y6 (.cons Y6 (.cons Y10 (.cons (.box 33 1 (.cons hI .nil)) .nil)))),(.cons Y3 (.cons Y3 (.cons Y1 (.cons .dead (.cons .dead (.cons .dead (.cons (.agg 1 (.cons hI .nil)) .nil))))))),(.tup 0 .nil),p17_5 fu⟩
theorem g17_5 (fu:Nat):(e17_5 fu).Good Tryz.prog := good_fx orders Tryz.func17 fu [(4,(.ent (e18 fu)))] [] rs17 13 (l := [e18 fu]) ⟨g18 fu,trivial⟩
def rs19:List RVx := []
def p19_5 (fu:Nat):(Z0)×((Z0)×((Z0)×(((List Int)×Unit)×(((List Int)×Unit)×((Int×Unit)×Unit)))))→Option (((Z0)×((Z0)×((Z0)×(Unit×(Unit×(Unit×(((List Int)×Unit)×(Unit×(((List Int)×Unit)×(Unit×((Int×Unit)×Unit)))))))))))×Unit) := fun ⟨⟨a,c,f,h,i,j,k,_⟩,⟨l,m,n,o,q,s,t,_⟩,⟨u,w,x,y,_,z,a0,_⟩,⟨_,_⟩,⟨_,_⟩,⟨_,_⟩,_⟩ =>
Option.bind (p20 fu (i,q,())) fun ⟨_,⟨c0,f0,h0,i0,_⟩⟩ =>
bif decide (c0.length=c0.length) then
 bif decide (z.length=z.length) then
 bif decide (a0.length=a0.length) then
 bif decide (f0.length=f0.length) then
 bif decide (h0.length=h0.length) then
 some (((a,c,f,h,i,j,k,()),(l,m,n,o,q,s,t,()),(u,w,x,y,c0,z,a0,()),(),(),(),(f0,()),(),(h0,()),(),(i0,()),()),())
 else none
 else none
 else none
 else none
else none
def e19_5 (fu:Nat):Ent := ⟨19,(.cons Y6 (.cons Y6 (.cons Y10 (.cons (.box 52 1 (.cons (.own .own 24 (.int .u64)) .nil)) (.cons (.box 52 1 (.cons (.own .own 24 (.int .u64)) .nil)) (.cons (.box 33 1 (.cons hI .nil)) .nil)))))),(.cons Y3 (.cons Y3 (.cons Y1 (.cons .dead (.cons .dead (.cons .dead (.cons (.agg 1 (.cons (.own .own 24 (.int .u64)) .nil)) (.cons .dead (.cons (.agg 1 (.cons (.own .own 24 (.int .u64)) .nil)) (.cons .dead (.cons (.agg 1 (.cons hI .nil)) .nil))))))))))),(.tup 0 .nil),p19_5 fu⟩
theorem g19_5 (fu:Nat):(e19_5 fu).Good Tryz.prog := good_fx orders Tryz.func19 fu [(4,(.ent (e20 fu)))] [] rs19 17 (l := [e20 fu]) ⟨g20 fu,trivial⟩
def rs21:List RVx := []
def p21_9 (fu:Nat):(Z0)×((Z0)×(((List Int)×Unit)×(((List Int)×Unit)×((Z0)×((Int×Unit)×Unit)))))→Option (((Z0)×((Z0)×(((List Int)×Unit)×(Unit×(((List Int)×Unit)×(Unit×((Z0)×(Unit×(Unit×(Unit×((Int×Unit)×Unit)))))))))))×Unit) := fun ⟨⟨a,c,f,h,i,j,k,_⟩,⟨l,m,n,o,q,s,t,_⟩,⟨u,_⟩,⟨w,_⟩,⟨x,y,z,a0,c0,_,f0,_⟩,⟨_,_⟩,_⟩ =>
bif decide (u.length=u.length) then
 bif decide (w.length=w.length) then
 Option.bind (p22 fu (j,s,u,w,())) fun ⟨_,⟨h0,i0,_⟩⟩ =>
 bif decide (u.length=u.length) then
 bif decide (w.length=w.length) then
 bif decide (c0.length=c0.length) then
 bif decide (h0.length=h0.length) then
 bif decide (f0.length=f0.length) then
 some (((a,c,f,h,i,j,k,()),(l,m,n,o,q,s,t,()),(u,()),(),(w,()),(),(x,y,z,a0,c0,h0,f0,()),(),(),(),(i0,()),()),())
 else none
 else none
 else none
 else none
 else none
 else none
else none
def e21_9 (fu:Nat):Ent := ⟨21,(.cons Y6 (.cons Y6 (.cons (.box 52 1 (.cons (.own .own 24 (.int .u64)) .nil)) (.cons (.box 52 1 (.cons (.own .own 24 (.int .u64)) .nil)) (.cons Y10 (.cons (.box 33 1 (.cons hI .nil)) .nil)))))),(.cons Y3 (.cons Y3 (.cons (.agg 1 (.cons (.own .own 24 (.int .u64)) .nil)) (.cons .dead (.cons (.agg 1 (.cons (.own .own 24 (.int .u64)) .nil)) (.cons .dead (.cons Y1 (.cons .dead (.cons .dead (.cons .dead (.cons (.agg 1 (.cons hI .nil)) .nil))))))))))),(.tup 0 .nil),p21_9 fu⟩
theorem g21_9 (fu:Nat):(e21_9 fu).Good Tryz.prog := good_fx orders Tryz.func21 fu [(6,(.ent (e22 fu)))] [] rs21 17 (l := [e22 fu]) ⟨g22 fu,trivial⟩
def rs23:List RVx := []
def p23_9 (fu:Nat):(Z0)×((Z0)×(((List Int)×Unit)×(((List Int)×Unit)×((Z0)×((Int×Unit)×Unit)))))→Option (((Z0)×((Z0)×(((List Int)×Unit)×(Unit×(((List Int)×Unit)×(Unit×((Z0)×(Unit×(Unit×(Unit×((Int×Unit)×Unit)))))))))))×Unit) := fun ⟨⟨a,c,f,h,i,j,k,_⟩,⟨l,m,n,o,q,s,t,_⟩,⟨u,_⟩,⟨w,_⟩,⟨x,y,z,a0,c0,f0,_,_⟩,⟨_,_⟩,_⟩ =>
bif decide (u.length=u.length) then
 bif decide (w.length=w.length) then
 Option.bind (p24 fu (k,t,u,w,())) fun ⟨_,⟨h0,i0,_⟩⟩ =>
 bif decide (u.length=u.length) then
 bif decide (w.length=w.length) then
 bif decide (c0.length=c0.length) then
 bif decide (f0.length=f0.length) then
 bif decide (h0.length=h0.length) then
 some (((a,c,f,h,i,j,k,()),(l,m,n,o,q,s,t,()),(u,()),(),(w,()),(),(x,y,z,a0,c0,f0,h0,()),(),(),(),(i0,()),()),())
 else none
 else none
 else none
 else none
 else none
 else none
else none
def e23_9 (fu:Nat):Ent := ⟨23,(.cons Y6 (.cons Y6 (.cons (.box 52 1 (.cons (.own .own 24 (.int .u64)) .nil)) (.cons (.box 52 1 (.cons (.own .own 24 (.int .u64)) .nil)) (.cons Y10 (.cons (.box 33 1 (.cons hI .nil)) .nil)))))),(.cons Y3 (.cons Y3 (.cons (.agg 1 (.cons (.own .own 24 (.int .u64)) .nil)) (.cons .dead (.cons (.agg 1 (.cons (.own .own 24 (.int .u64)) .nil)) (.cons .dead (.cons Y1 (.cons .dead (.cons .dead (.cons .dead (.cons (.agg 1 (.cons hI .nil)) .nil))))))))))),(.tup 0 .nil),p23_9 fu⟩
theorem g23_9 (fu:Nat):(e23_9 fu).Good Tryz.prog := good_fx orders Tryz.func23 fu [(6,(.ent (e24 fu)))] [] rs23 17 (l := [e24 fu]) ⟨g24 fu,trivial⟩
def rs6:List RVx := [(.cell 4 true 7),(.tmp 5)]
def p6 (fu:Nat):(Z0)×((Z0)×Unit)→Option (Unit×((Z0)×(Int×Unit))) := fun ⟨⟨a,c,f,h,i,j,k,_⟩,⟨l,m,n,o,q,s,t,_⟩,_⟩ =>
Option.bind (p16 fu ([((a,c),f,h,i,j,k),((l,m),n,o,q,s,t)],())) fun ⟨_,u⟩ =>
bif (u != (0:Int)) then
 some ((),(((⟨#[]⟩:ByteArray),(⟨#[]⟩:ByteArray),(0:Int),(0:Int),[],[],[],()),u,()))
else
 loopO (S := (Int×Unit)×((Z0)×((Z0)×((Z0)×(((List Int)×Unit)×(((List Int)×Unit)×((Int×Unit)×Unit))))))) fu (fun ⟨⟨w,_⟩,⟨⟨x,y,z,a0,c0,f0,h0,_⟩,⟨i0,j0,k0,l0,m0,n0,o0,_⟩,⟨q0,s0,t0,u0,w0,x0,y0,_⟩,⟨z0,_⟩,⟨a1,_⟩,⟨c1,_⟩,_⟩⟩ =>
 bif decide (w<(4:Int)) then
 bif decide ((0:Int)≤w∧w<(4:Int)) then
 bif (w==(0:Int)) then
 bif decide (w0.length=w0.length) then
 bif decide (x0.length=x0.length) then
 bif decide (y0.length=y0.length) then
 Option.bind (p17_5 fu ((x,y,z,a0,c0,f0,h0,()),(i0,j0,k0,l0,m0,n0,o0,()),(q0,s0,t0,u0,w0,x0,y0,()),(c1,()),())) fun ⟨⟨⟨f1,h1,i1,j1,k1,l1,m1,_⟩,⟨n1,o1,q1,s1,t1,u1,w1,_⟩,⟨x1,y1,z1,a2,c2,f2,h2,_⟩,_,_,_,⟨i2,_⟩,_⟩,_⟩ =>
 bif (i2 != (0:Int)) then
 inrO (some ((),(((⟨#[]⟩:ByteArray),(⟨#[]⟩:ByteArray),(0:Int),(0:Int),[],[],[],()),i2,())))
 else
 bif decide (c2.length=c2.length) then
 bif decide (f2.length=f2.length) then
 bif decide (h2.length=h2.length) then
 bif decide (z0.length=z0.length) then
 bif decide (a1.length=a1.length) then
 some (.inl ((IntKind.wrap .i64 (w+(1:Int)),()),((f1,h1,i1,j1,k1,l1,m1,()),(n1,o1,q1,s1,t1,u1,w1,()),(x1,y1,z1,a2,c2,f2,h2,()),(z0,()),(a1,()),(i2,()),())))
 else none
 else none
 else none
 else none
 else none
 else none
 else none
 else none
 else
 bif (w==(1:Int)) then
 bif decide (w0.length=w0.length) then
 bif decide (x0.length=x0.length) then
 bif decide (y0.length=y0.length) then
 bif decide (z0.length=z0.length) then
 bif decide (a1.length=a1.length) then
 Option.bind (p19_5 fu ((x,y,z,a0,c0,f0,h0,()),(i0,j0,k0,l0,m0,n0,o0,()),(q0,s0,t0,u0,w0,x0,y0,()),(z0,()),(a1,()),(c1,()),())) fun ⟨⟨⟨j2,k2,l2,m2,n2,o2,q2,_⟩,⟨s2,t2,u2,w2,x2,y2,z2,_⟩,⟨a3,c3,f3,h3,i3,j3,k3,_⟩,_,_,_,⟨l3,_⟩,_,⟨m3,_⟩,_,⟨n3,_⟩,_⟩,_⟩ =>
 bif (n3 != (0:Int)) then
 inrO (some ((),(((⟨#[]⟩:ByteArray),(⟨#[]⟩:ByteArray),(0:Int),(0:Int),[],[],[],()),n3,())))
 else
 bif decide (i3.length=i3.length) then
 bif decide (j3.length=j3.length) then
 bif decide (k3.length=k3.length) then
 bif decide (l3.length=l3.length) then
 bif decide (m3.length=m3.length) then
 some (.inl ((IntKind.wrap .i64 (w+(1:Int)),()),((j2,k2,l2,m2,n2,o2,q2,()),(s2,t2,u2,w2,x2,y2,z2,()),(a3,c3,f3,h3,i3,j3,k3,()),(l3,()),(m3,()),(n3,()),())))
 else none
 else none
 else none
 else none
 else none
 else none
 else none
 else none
 else none
 else none
 else
 bif (w==(2:Int)) then
 bif decide (z0.length=z0.length) then
 bif decide (a1.length=a1.length) then
 bif decide (w0.length=w0.length) then
 bif decide (x0.length=x0.length) then
 bif decide (y0.length=y0.length) then
 Option.bind (p21_9 fu ((x,y,z,a0,c0,f0,h0,()),(i0,j0,k0,l0,m0,n0,o0,()),(z0,()),(a1,()),(q0,s0,t0,u0,w0,x0,y0,()),(c1,()),())) fun ⟨⟨⟨o3,q3,s3,t3,u3,w3,x3,_⟩,⟨y3,z3,a4,c4,f4,h4,i4,_⟩,⟨j4,_⟩,_,⟨k4,_⟩,_,⟨l4,m4,n4,o4,q4,s4,t4,_⟩,_,_,_,⟨u4,_⟩,_⟩,_⟩ =>
 bif (u4 != (0:Int)) then
 inrO (some ((),(((⟨#[]⟩:ByteArray),(⟨#[]⟩:ByteArray),(0:Int),(0:Int),[],[],[],()),u4,())))
 else
 bif decide (q4.length=q4.length) then
 bif decide (s4.length=s4.length) then
 bif decide (t4.length=t4.length) then
 bif decide (j4.length=j4.length) then
 bif decide (k4.length=k4.length) then
 some (.inl ((IntKind.wrap .i64 (w+(1:Int)),()),((o3,q3,s3,t3,u3,w3,x3,()),(y3,z3,a4,c4,f4,h4,i4,()),(l4,m4,n4,o4,q4,s4,t4,()),(j4,()),(k4,()),(u4,()),())))
 else none
 else none
 else none
 else none
 else none
 else none
 else none
 else none
 else none
 else none
 else
 bif (w==(3:Int)) then
 bif decide (z0.length=z0.length) then
 bif decide (a1.length=a1.length) then
 bif decide (w0.length=w0.length) then
 bif decide (x0.length=x0.length) then
 bif decide (y0.length=y0.length) then
 Option.bind (p23_9 fu ((x,y,z,a0,c0,f0,h0,()),(i0,j0,k0,l0,m0,n0,o0,()),(z0,()),(a1,()),(q0,s0,t0,u0,w0,x0,y0,()),(c1,()),())) fun ⟨⟨⟨w4,x4,y4,z4,a5,c5,f5,_⟩,⟨h5,i5,j5,k5,l5,m5,n5,_⟩,⟨o5,_⟩,_,⟨q5,_⟩,_,⟨s5,t5,u5,w5,x5,y5,z5,_⟩,_,_,_,⟨a6,_⟩,_⟩,_⟩ =>
 bif (a6 != (0:Int)) then
 inrO (some ((),(((⟨#[]⟩:ByteArray),(⟨#[]⟩:ByteArray),(0:Int),(0:Int),[],[],[],()),a6,())))
 else
 bif decide (x5.length=x5.length) then
 bif decide (y5.length=y5.length) then
 bif decide (z5.length=z5.length) then
 bif decide (o5.length=o5.length) then
 bif decide (q5.length=q5.length) then
 some (.inl ((IntKind.wrap .i64 (w+(1:Int)),()),((w4,x4,y4,z4,a5,c5,f5,()),(h5,i5,j5,k5,l5,m5,n5,()),(s5,t5,u5,w5,x5,y5,z5,()),(o5,()),(q5,()),(a6,()),())))
 else none
 else none
 else none
 else none
 else none
 else none
 else none
 else none
 else none
 else none
 else none
 else none
 else
 inrO (bif decide (w0.length=w0.length) then
 bif decide (x0.length=x0.length) then
 bif decide (y0.length=y0.length) then
 Option.bind (p26 fu ((q0,s0,t0,u0,w0,x0,y0,()),())) fun ⟨_,c6⟩ =>
 Option.bind (pIsN fu (c6,(165:Int),())) fun ⟨_,f6⟩ =>
 bif f6 then
 some ((),(((⟨#[]⟩:ByteArray),(⟨#[]⟩:ByteArray),(0:Int),(0:Int),[],[],[],()),(172:Int),()))
 else
 bif decide (w0.length=w0.length) then
 bif decide (x0.length=x0.length) then
 bif decide (y0.length=y0.length) then
 some ((),((q0,s0,t0,u0,w0,x0,y0,()),(0:Int),()))
 else none
 else none
 else none
 else none
 else none
 else none))
 (((0:Int),()),((a,c,f,h,i,j,k,()),(l,m,n,o,q,s,t,()),((⟨#[]⟩:ByteArray),(⟨#[]⟩:ByteArray),IntKind.wrap .u64 ((if n>f then n else f)+(1:Int)),(0:Int),[],[],[],()),([],()),([],()),((0:Int),()),()))
def e6 (fu:Nat):Ent := ⟨6,(.cons Y3 (.cons Y3 .nil)),.nil,(.tup 2 (.cons Y1 (.cons hI .nil))),p6 fu⟩
theorem g6 (fu:Nat):(e6 fu).Good Tryz.prog := good_fx orders Tryz.func6 fu [(6,(.ty T_api_Part)),(7,(.ent (e16 fu))),(39,(.either (.ent (e17_5 fu)) (.either (.ent (e19_5 fu)) (.either (.ent (e21_9 fu)) (.ent (e23_9 fu)))))),(49,(.ent (e26 fu))),(52,(.ent (eIsN fu)))] [(10,⟨[34],(.cons hI .nil),[(0,29,7),(16,29,7),(288,29,7),(320,52,1),(336,52,1),(352,33,1)],(.cons Y3 (.cons Y3 (.cons Y1 (.cons (.agg 1 (.cons (.own .own 24 (.int .u64)) .nil)) (.cons (.agg 1 (.cons (.own .own 24 (.int .u64)) .nil)) (.cons (.agg 1 (.cons hI .nil)) .nil)))))),[4,7,10,32,33],[32,432]⟩)] rs6 52 (l := [e16 fu,e17_5 fu,e19_5 fu,e21_9 fu,e23_9 fu,e26 fu,eIsN fu]) ⟨g16 fu,g17_5 fu,g19_5 fu,g21_9 fu,g23_9 fu,g26 fu,gIsN fu,trivial⟩
def rs65:List RVx := [(.tmp 2)]
def p65 (fu:Nat):(List (D_api_Record))×Unit→Option (Unit×Bool) := fun ⟨a,_⟩ =>
bif decide ((a.length:Int)>(4096:Int)) then
 some ((),false)
else
 loopO (S := (Int×Unit)×Unit) fu (fun ⟨⟨c,_⟩,_⟩ =>
 bif decide (c<(a.length:Int)) then
 bif decide ((0:Int)≤c∧c<(a.length:Int)) then
 bif decide (c.toNat<a.length) then
 bif (((a.getD (c.toNat) (dflt T_api_Record)).1) != (IntKind.wrap .u64 c)) then
 inrO (some ((),false))
 else
 bif decide ((0:Int)≤c∧c<(a.length:Int)) then
 bif decide (c.toNat<a.length) then
 bif decide ((ByteArray.size (((a.getD (c.toNat) (dflt T_api_Record)).2).1):Int)>(32:Int)) then
 inrO (some ((),false))
 else
 bif decide ((0:Int)≤c∧c<(a.length:Int)) then
 bif decide (c.toNat<a.length) then
 bif decide ((List.length ((((a.getD (c.toNat) (dflt T_api_Record)).2).2).1):Int)>(256:Int)) then
 inrO (some ((),false))
 else
 some (.inl ((IntKind.wrap .i64 (c+(1:Int)),()),()))
 else none
 else none
 else none
 else none
 else none
 else none
 else
 inrO (some ((),true)))
 (((0:Int),()),())
def e65 (fu:Nat):Ent := ⟨65,(.cons (.hole (.sl .any T_api_Record)) .nil),.nil,(.hole .bool),p65 fu⟩
theorem g65 (fu:Nat):(e65 fu).Good Tryz.prog := good_fx orders Tryz.func65 fu [] [(6,⟨[3],(.cons hI .nil),[],.nil,[0],[]⟩)] rs65 39 (l := []) trivial
def rs66:List RVx := [(.tmp 2)]
def p66 (fu:Nat):(List (D_api_Producer))×Unit→Option (Unit×Bool) := fun ⟨a,_⟩ =>
bif decide ((a.length:Int)>(256:Int)) then
 some ((),false)
else
 loopO (S := (Int×Unit)×Unit) fu (fun ⟨⟨c,_⟩,_⟩ =>
 bif decide (c<(a.length:Int)) then
 bif decide ((0:Int)≤c∧c<(a.length:Int)) then
 bif decide (c.toNat<a.length) then
 bif (((a.getD (c.toNat) (dflt T_api_Producer)).1)==(0:Int)) then
 inrO (some ((),false))
 else
 bif decide ((0:Int)≤c∧c<(a.length:Int)) then
 bif decide (c.toNat<a.length) then
 bif decide ((((a.getD (c.toNat) (dflt T_api_Producer)).2).1)<(1:Int)) then
 inrO (some ((),false))
 else
 bif decide ((0:Int)≤c∧c<(a.length:Int)) then
 bif decide (c.toNat<a.length) then
 bif decide ((((a.getD (c.toNat) (dflt T_api_Producer)).2).1)>(9223372036854775807:Int)) then
 inrO (some ((),false))
 else
 bif decide ((0:Int)≤c∧c<(a.length:Int)) then
 bif decide (c.toNat<a.length) then
 bif !((((a.getD (c.toNat) (dflt T_api_Producer)).2).2).1) then
 bif decide ((0:Int)≤c∧c<(a.length:Int)) then
 bif decide (c.toNat<a.length) then
 bif (((((a.getD (c.toNat) (dflt T_api_Producer)).2).2).2) != (0:Int)) then
 inrO (some ((),false))
 else
 bif decide (c>(0:Int)) then
 bif decide ((0:Int)≤IntKind.wrap .i64 (c-(1:Int))∧IntKind.wrap .i64 (c-(1:Int))<(a.length:Int)) then
 bif decide (Int.toNat (IntKind.wrap .i64 (c-(1:Int)))<a.length) then
 bif decide ((0:Int)≤c∧c<(a.length:Int)) then
 bif decide (c.toNat<a.length) then
 bif decide (((a.getD (Int.toNat (IntKind.wrap .i64 (c-(1:Int)))) (dflt T_api_Producer)).1)≥((a.getD (c.toNat) (dflt T_api_Producer)).1)) then
 inrO (some ((),false))
 else
 some (.inl ((IntKind.wrap .i64 (c+(1:Int)),()),()))
 else none
 else none
 else none
 else none
 else
 some (.inl ((IntKind.wrap .i64 (c+(1:Int)),()),()))
 else none
 else none
 else
 bif decide (c>(0:Int)) then
 bif decide ((0:Int)≤IntKind.wrap .i64 (c-(1:Int))∧IntKind.wrap .i64 (c-(1:Int))<(a.length:Int)) then
 bif decide (Int.toNat (IntKind.wrap .i64 (c-(1:Int)))<a.length) then
 bif decide ((0:Int)≤c∧c<(a.length:Int)) then
 bif decide (c.toNat<a.length) then
 bif decide (((a.getD (Int.toNat (IntKind.wrap .i64 (c-(1:Int)))) (dflt T_api_Producer)).1)≥((a.getD (c.toNat) (dflt T_api_Producer)).1)) then
 inrO (some ((),false))
 else
 some (.inl ((IntKind.wrap .i64 (c+(1:Int)),()),()))
 else none
 else none
 else none
 else none
 else
 some (.inl ((IntKind.wrap .i64 (c+(1:Int)),()),()))
 else none
 else none
 else none
 else none
 else none
 else none
 else none
 else none
 else
 inrO (some ((),true)))
 (((0:Int),()),())
def e66 (fu:Nat):Ent := ⟨66,(.cons (.hole (.sl .any T_api_Producer)) .nil),.nil,(.hole .bool),p66 fu⟩
theorem g66 (fu:Nat):(e66 fu).Good Tryz.prog := good_fx orders Tryz.func66 fu [] [(6,⟨[3],(.cons hI .nil),[],.nil,[0],[]⟩)] rs66 69 (l := []) trivial
def rs98:List RVx := [(.tmp 2)]
def p98 (fu:Nat):ByteArray×Unit→Option (Unit×Bool) := fun ⟨a,_⟩ =>
bif decide ((ByteArray.size a:Int)<(1:Int)) then
 some ((),false)
else
 bif decide ((ByteArray.size a:Int)>(32:Int)) then
 some ((),false)
 else
 loopO (S := (Int×Unit)×Unit) fu (fun ⟨⟨c,_⟩,_⟩ =>
 bif decide (c<(ByteArray.size a:Int)) then
 bif decide ((0:Int)≤c∧c<(ByteArray.size a:Int)) then
 bif decide ((bAt a (c.toNat))<(97:Int)) then
 bif decide ((bAt a (c.toNat))<(48:Int)) then
 bif ((bAt a (c.toNat)) != (45:Int)) then
 bif ((bAt a (c.toNat)) != (95:Int)) then
 bif ((bAt a (c.toNat)) != (46:Int)) then
 inrO (some ((),false))
 else
 some (.inl ((IntKind.wrap .i64 (c+(1:Int)),()),()))
 else
 some (.inl ((IntKind.wrap .i64 (c+(1:Int)),()),()))
 else
 some (.inl ((IntKind.wrap .i64 (c+(1:Int)),()),()))
 else
 bif decide ((bAt a (c.toNat))>(57:Int)) then
 bif ((bAt a (c.toNat)) != (45:Int)) then
 bif ((bAt a (c.toNat)) != (95:Int)) then
 bif ((bAt a (c.toNat)) != (46:Int)) then
 inrO (some ((),false))
 else
 some (.inl ((IntKind.wrap .i64 (c+(1:Int)),()),()))
 else
 some (.inl ((IntKind.wrap .i64 (c+(1:Int)),()),()))
 else
 some (.inl ((IntKind.wrap .i64 (c+(1:Int)),()),()))
 else
 some (.inl ((IntKind.wrap .i64 (c+(1:Int)),()),()))
 else
 bif decide ((bAt a (c.toNat))>(122:Int)) then
 bif decide ((bAt a (c.toNat))<(48:Int)) then
 bif ((bAt a (c.toNat)) != (45:Int)) then
 bif ((bAt a (c.toNat)) != (95:Int)) then
 bif ((bAt a (c.toNat)) != (46:Int)) then
 inrO (some ((),false))
 else
 some (.inl ((IntKind.wrap .i64 (c+(1:Int)),()),()))
 else
 some (.inl ((IntKind.wrap .i64 (c+(1:Int)),()),()))
 else
 some (.inl ((IntKind.wrap .i64 (c+(1:Int)),()),()))
 else
 bif decide ((bAt a (c.toNat))>(57:Int)) then
 bif ((bAt a (c.toNat)) != (45:Int)) then
 bif ((bAt a (c.toNat)) != (95:Int)) then
 bif ((bAt a (c.toNat)) != (46:Int)) then
 inrO (some ((),false))
 else
 some (.inl ((IntKind.wrap .i64 (c+(1:Int)),()),()))
 else
 some (.inl ((IntKind.wrap .i64 (c+(1:Int)),()),()))
 else
 some (.inl ((IntKind.wrap .i64 (c+(1:Int)),()),()))
 else
 some (.inl ((IntKind.wrap .i64 (c+(1:Int)),()),()))
 else
 some (.inl ((IntKind.wrap .i64 (c+(1:Int)),()),()))
 else none
 else
 inrO (some ((),true)))
 (((0:Int),()),())
def e98 (fu:Nat):Ent := ⟨98,(.cons hT .nil),.nil,(.hole .bool),p98 fu⟩
theorem g98 (fu:Nat):(e98 fu).Good Tryz.prog := good_fx orders Tryz.func98 fu [] [(6,⟨[3],(.cons hI .nil),[],.nil,[0],[]⟩)] rs98 48 (l := []) trivial
def rs67:List RVx := [(.tmp 2)]
def p67 (fu:Nat):(List (D_runtime_errorAddressString))×Unit→Option (Unit×Bool) := fun ⟨a,_⟩ =>
bif decide ((a.length:Int)>(64:Int)) then
 some ((),false)
else
 loopO (S := (Int×Unit)×Unit) fu (fun ⟨⟨c,_⟩,_⟩ =>
 bif decide (c<(a.length:Int)) then
 bif decide ((0:Int)≤c∧c<(a.length:Int)) then
 bif decide (c.toNat<a.length) then
 Option.bind (p98 fu ((a.getD (c.toNat) (dflt T_runtime_errorAddressString)).1,())) fun ⟨_,f⟩ =>
 bif !f then
 inrO (some ((),false))
 else
 bif decide (c>(0:Int)) then
 bif decide ((0:Int)≤IntKind.wrap .i64 (c-(1:Int))∧IntKind.wrap .i64 (c-(1:Int))<(a.length:Int)) then
 bif decide (Int.toNat (IntKind.wrap .i64 (c-(1:Int)))<a.length) then
 bif decide ((0:Int)≤c∧c<(a.length:Int)) then
 bif decide (c.toNat<a.length) then
 bif !Op.bytesLess (ByteArray.toList ((a.getD (Int.toNat (IntKind.wrap .i64 (c-(1:Int)))) (dflt T_runtime_errorAddressString)).1)) (ByteArray.toList ((a.getD (c.toNat) (dflt T_runtime_errorAddressString)).1)) then
 inrO (some ((),false))
 else
 some (.inl ((IntKind.wrap .i64 (c+(1:Int)),()),()))
 else none
 else none
 else none
 else none
 else
 some (.inl ((IntKind.wrap .i64 (c+(1:Int)),()),()))
 else none
 else none
 else
 inrO (some ((),true)))
 (((0:Int),()),())
def e67 (fu:Nat):Ent := ⟨67,(.cons (.hole (.sl .any T_runtime_errorAddressString)) .nil),.nil,(.hole .bool),p67 fu⟩
theorem g67 (fu:Nat):(e67 fu).Good Tryz.prog := good_fx orders Tryz.func67 fu [(15,(.ent (e98 fu)))] [(6,⟨[3],(.cons hI .nil),[],.nil,[0],[]⟩)] rs67 40 (l := [e98 fu]) ⟨g98 fu,trivial⟩
def rs68:List RVx := [(.tmp 2)]
def p68 (_:Nat):(ByteArray×(ByteArray×Unit))×Unit→Option (Unit×Int) := fun ⟨⟨a,c,_⟩,_⟩ =>
bif decide ((ByteArray.size a:Int)>(32:Int)) then
 some ((),(131:Int))
else
 bif decide ((ByteArray.size c:Int)>(32:Int)) then
 some ((),(131:Int))
 else
 bif !(ByteArray.toList c==ByteArray.toList (⟨#[]⟩:ByteArray)) then
 bif (Op.bytesLess (ByteArray.toList c) (ByteArray.toList a)||ByteArray.toList c==ByteArray.toList a) then
 some ((),(132:Int))
 else
 some ((),(0:Int))
 else
 some ((),(0:Int))
def e68 (fu:Nat):Ent := ⟨68,(.cons (.agg 2 (.cons hT (.cons hT .nil))) .nil),.nil,hI,p68 fu⟩
theorem g68 (fu:Nat):(e68 fu).Good Tryz.prog := good_fx orders Tryz.func68 fu [] [] rs68 23 (l := []) trivial
def rs69:List RVx := [(.tmp 4)]
def p69 (fu:Nat):(ByteArray×(ByteArray×Unit))×(ByteArray×Unit)→Option (Unit×Bool) := fun ⟨⟨a,c,_⟩,f,_⟩ =>
Option.bind (p68 fu ((a,c,()),())) fun ⟨_,h⟩ =>
bif (h==(0:Int)) then
 bif decide ((ByteArray.size f:Int)≤(32:Int)) then
 bif !Op.bytesLess (ByteArray.toList f) (ByteArray.toList a) then
 bif ByteArray.toList c==ByteArray.toList (⟨#[]⟩:ByteArray) then
 some ((),true)
 else
 some ((),Op.bytesLess (ByteArray.toList f) (ByteArray.toList c))
 else
 some ((),false)
 else
 some ((),false)
else
 some ((),false)
def e69 (fu:Nat):Ent := ⟨69,(.cons (.agg 2 (.cons hT (.cons hT .nil))) (.cons hT .nil)),.nil,(.hole .bool),p69 fu⟩
theorem g69 (fu:Nat):(e69 fu).Good Tryz.prog := good_fx orders Tryz.func69 fu [(3,(.ent (e68 fu)))] [] rs69 30 (l := [e68 fu]) ⟨g68 fu,trivial⟩
def rs70:List RVx := [(.tmp 4)]
def p70 (fu:Nat):(List (D_api_Producer))×(Int×Unit)→Option (Unit×Int) := fun ⟨a,c,_⟩ =>
loopO (S := (Int×Unit)×Unit) fu (fun ⟨⟨f,_⟩,_⟩ =>
 bif decide (f<(a.length:Int)) then
 bif decide ((0:Int)≤f∧f<(a.length:Int)) then
 bif decide (f.toNat<a.length) then
 bif (((a.getD (f.toNat) (dflt T_api_Producer)).1)==c) then
 inrO (some ((),f))
 else
 some (.inl ((IntKind.wrap .i64 (f+(1:Int)),()),()))
 else none
 else none
 else
 inrO (some ((),((-1):Int))))
 (((0:Int),()),())
def e70 (fu:Nat):Ent := ⟨70,(.cons (.hole (.sl .any T_api_Producer)) (.cons hU .nil)),.nil,hI,p70 fu⟩
theorem g70 (fu:Nat):(e70 fu).Good Tryz.prog := good_fx orders Tryz.func70 fu [] [(3,⟨[5],(.cons hI .nil),[],.nil,[0,1],[]⟩)] rs70 20 (l := []) trivial
def rs27:List RVx := [(.tmp 2)]
def p27 (fu:Nat):(Z0)×Unit→Option (Unit×Int) := fun ⟨⟨a,c,f,_,h,i,j,_⟩,_⟩ =>
Option.bind (p65 fu (h,())) fun ⟨_,k⟩ =>
Option.bind (p66 fu (i,())) fun ⟨_,l⟩ =>
Option.bind (p67 fu (j,())) fun ⟨_,m⟩ =>
Option.bind (p68 fu ((a,c,()),())) fun ⟨_,n⟩ =>
bif (n != (0:Int)) then
 some ((),(165:Int))
else
 bif (f==(0:Int)) then
 some ((),(165:Int))
 else
 bif !k then
 some ((),(165:Int))
 else
 bif !l then
 some ((),(165:Int))
 else
 bif !m then
 some ((),(165:Int))
 else
 bif decide ((0:Int)≤(i.length:Int)∧((i.length:Int):Int)≤(i.length:Int)∧((i.length:Int):Int)≤9223372036854775807∧(8:Int) * (i.length:Int)≤140737488355328) then
 bif decide (Int.toNat (i.length:Int)=List.length (List.replicate (Int.toNat (i.length:Int)) (0:Int):List Int)) then
 loopO (S := ((List Int)×(Int×Unit))×Unit) fu (fun ⟨⟨o,q,_⟩,_⟩ =>
 bif decide (q<(h.length:Int)) then
 bif decide ((0:Int)≤q∧q<(h.length:Int)) then
 bif decide (q.toNat<h.length) then
 Option.bind (p69 fu ((a,c,()),((h.getD (q.toNat) (dflt T_api_Record)).2).1,())) fun ⟨_,s⟩ =>
 Option.bind (p70 fu (i,((((h.getD (q.toNat) (dflt T_api_Record)).2).2).2).1,())) fun ⟨_,t⟩ =>
 bif !s then
 inrO (some ((),(165:Int)))
 else
 bif decide (t<(0:Int)) then
 inrO (some ((),(165:Int)))
 else
 bif decide ((0:Int)≤t∧t<(o.length:Int)) then
 bif decide (t.toNat<o.length) then
 bif decide ((((((h.getD (q.toNat) (dflt T_api_Record)).2).2).2).2)≤(o.getD (t.toNat) (dflt (.int .u64)))) then
 inrO (some ((),(165:Int)))
 else
 bif decide ((0:Int)≤t∧t<(i.length:Int)) then
 bif decide (t.toNat<i.length) then
 bif decide ((((((h.getD (q.toNat) (dflt T_api_Record)).2).2).2).2)>(((i.getD (t.toNat) (dflt T_api_Producer)).2).1)) then
 inrO (some ((),(165:Int)))
 else
 bif decide ((0:Int)≤t∧t<(o.length:Int)) then
 bif decide (t.toNat<o.length) then
 bif decide (o.length=List.length (List.set o (t.toNat) (((((h.getD (q.toNat) (dflt T_api_Record)).2).2).2).2))) then
 some (.inl (((List.set o (t.toNat) (((((h.getD (q.toNat) (dflt T_api_Record)).2).2).2).2)),IntKind.wrap .i64 (q+(1:Int)),()),()))
 else none
 else none
 else none
 else none
 else none
 else none
 else none
 else none
 else none
 else
 inrO (loopO (S := (Int×Unit)×Unit) fu (fun ⟨⟨u,_⟩,_⟩ =>
 bif decide (u<(i.length:Int)) then
 bif decide ((0:Int)≤u∧u<(i.length:Int)) then
 bif decide (u.toNat<i.length) then
 bif !((((i.getD (u.toNat) (dflt T_api_Producer)).2).2).1) then
 some (.inl ((IntKind.wrap .i64 (u+(1:Int)),()),()))
 else
 bif decide (((((i.getD (u.toNat) (dflt T_api_Producer)).2).2).2)≥(IntKind.wrap .u64 (h.length:Int))) then
 inrO (some ((),(165:Int)))
 else
 bif decide ((0:Int)≤IntKind.wrap .i64 ((((i.getD (u.toNat) (dflt T_api_Producer)).2).2).2)∧IntKind.wrap .i64 ((((i.getD (u.toNat) (dflt T_api_Producer)).2).2).2)<(h.length:Int)) then
 bif decide (Int.toNat (IntKind.wrap .i64 ((((i.getD (u.toNat) (dflt T_api_Producer)).2).2).2))<h.length) then
 bif ((((((h.getD (Int.toNat (IntKind.wrap .i64 ((((i.getD (u.toNat) (dflt T_api_Producer)).2).2).2))) (dflt T_api_Record)).2).2).2).1) != ((i.getD (u.toNat) (dflt T_api_Producer)).1)) then
 inrO (some ((),(165:Int)))
 else
 bif decide ((0:Int)≤IntKind.wrap .i64 ((((i.getD (u.toNat) (dflt T_api_Producer)).2).2).2)∧IntKind.wrap .i64 ((((i.getD (u.toNat) (dflt T_api_Producer)).2).2).2)<(h.length:Int)) then
 bif decide (Int.toNat (IntKind.wrap .i64 ((((i.getD (u.toNat) (dflt T_api_Producer)).2).2).2))<h.length) then
 bif ((((((h.getD (Int.toNat (IntKind.wrap .i64 ((((i.getD (u.toNat) (dflt T_api_Producer)).2).2).2))) (dflt T_api_Record)).2).2).2).2) != (((i.getD (u.toNat) (dflt T_api_Producer)).2).1)) then
 inrO (some ((),(165:Int)))
 else
 some (.inl ((IntKind.wrap .i64 (u+(1:Int)),()),()))
 else none
 else none
 else none
 else none
 else none
 else none
 else
 inrO (loopO (S := (Int×Unit)×Unit) fu (fun ⟨⟨w,_⟩,_⟩ =>
 bif decide (w<(j.length:Int)) then
 bif decide ((0:Int)≤w∧w<(j.length:Int)) then
 bif decide (w.toNat<j.length) then
 bif decide (((j.getD (w.toNat) (dflt T_runtime_errorAddressString)).2)>(IntKind.wrap .u64 (h.length:Int))) then
 inrO (some ((),(165:Int)))
 else
 some (.inl ((IntKind.wrap .i64 (w+(1:Int)),()),()))
 else none
 else none
 else
 inrO (some ((),(0:Int))))
 (((0:Int),()),())))
 (((0:Int),()),())))
 (((List.replicate (Int.toNat (i.length:Int)) (0:Int):List Int),(0:Int),()),())
 else none
 else none
def e27 (fu:Nat):Ent := ⟨27,(.cons Y3 .nil),.nil,hI,p27 fu⟩
theorem g27 (fu:Nat):(e27 fu).Good Tryz.prog := good_fx orders Tryz.func27 fu [(4,(.ent (e65 fu))),(8,(.ent (e66 fu))),(12,(.ent (e67 fu))),(16,(.ent (e68 fu))),(39,(.ty (.int .u64))),(58,(.ent (e69 fu))),(64,(.ent (e70 fu)))] [(10,⟨[6,7],(.cons (.own .own 24 (.int .u64)) (.cons hI .nil)),[],.nil,[1],[0]⟩),(22,⟨[11],(.cons hI .nil),[],.nil,[1],[0]⟩),(33,⟨[13],(.cons hI .nil),[],.nil,[1],[0]⟩)] rs27 167 (l := [e65 fu,e66 fu,e67 fu,e68 fu,e69 fu,e70 fu]) ⟨g65 fu,g66 fu,g67 fu,g68 fu,g69 fu,g70 fu,trivial⟩
def rs28:List RVx := [(.cell 4 true 2),(.tmp 5)]
def p28 (fu:Nat):(ByteArray×(ByteArray×Unit))×((ByteArray×(ByteArray×Unit))×Unit)→Option (Unit×((ByteArray×(ByteArray×Unit))×(Int×Unit))) := fun ⟨⟨a,c,_⟩,⟨f,h,_⟩,_⟩ =>
Option.bind (p68 fu ((a,c,()),())) fun ⟨_,i⟩ =>
orK (E := (Int×Unit)×Unit)
 (bif (i==(0:Int)) then
 Option.bind (p68 fu ((f,h,()),())) fun ⟨_,j⟩ =>
 some (.inl ((j,()),()))
 else
 some (.inl ((i,()),())))
 fun ⟨⟨k,_⟩,_⟩ =>
bif (k != (0:Int)) then
 some ((),(((⟨#[]⟩:ByteArray),(⟨#[]⟩:ByteArray),()),k,()))
else
 orK (E := (Bool×Unit)×Unit)
 (bif ByteArray.toList c==ByteArray.toList (⟨#[]⟩:ByteArray) then
 some (.inl ((true,()),()))
 else
 some (.inl ((!(ByteArray.toList c==ByteArray.toList f),()),())))
 fun ⟨⟨l,_⟩,_⟩ =>
 bif l then
 some ((),(((⟨#[]⟩:ByteArray),(⟨#[]⟩:ByteArray),()),(133:Int),()))
 else
 some ((),((a,h,()),(0:Int),()))
def e28 (fu:Nat):Ent := ⟨28,(.cons (.agg 2 (.cons hT (.cons hT .nil))) (.cons (.agg 2 (.cons hT (.cons hT .nil))) .nil)),.nil,(.tup 2 (.cons (.agg 2 (.cons hT (.cons hT .nil))) (.cons hI .nil))),p28 fu⟩
theorem g28 (fu:Nat):(e28 fu).Good Tryz.prog := good_fx orders Tryz.func28 fu [(5,(.ent (e68 fu))),(10,(.ent (e68 fu)))] [(2,⟨[6],(.cons hI .nil),[],.nil,[2,3,4],[0,16,32]⟩),(8,⟨[26],(.cons (.hole .bool) .nil),[],.nil,[2,3,4],[0,16,32]⟩)] rs28 33 (l := [e68 fu,e68 fu]) ⟨g68 fu,g68 fu,trivial⟩
def rs71:List RVx := [(.tmp 4)]
def p71 (fu:Nat):(List (D_api_Record))×((Int×(ByteArray×((List Int)×(Int×(Int×Unit)))))×Unit)→Option (Unit×Bool) := fun ⟨a,⟨_,_,_,c,f,_⟩,_⟩ =>
loopO (S := (Int×Unit)×Unit) fu (fun ⟨⟨h,_⟩,_⟩ =>
 bif decide (h<(a.length:Int)) then
 bif decide ((0:Int)≤h∧h<(a.length:Int)) then
 bif decide (h.toNat<a.length) then
 bif ((((((a.getD (h.toNat) (dflt T_api_Record)).2).2).2).1)==c) then
 bif decide ((0:Int)≤h∧h<(a.length:Int)) then
 bif decide (h.toNat<a.length) then
 bif decide ((((((a.getD (h.toNat) (dflt T_api_Record)).2).2).2).2)<f) then
 inrO (some ((),true))
 else
 some (.inl ((IntKind.wrap .i64 (h+(1:Int)),()),()))
 else none
 else none
 else
 some (.inl ((IntKind.wrap .i64 (h+(1:Int)),()),()))
 else none
 else none
 else
 inrO (some ((),false)))
 (((0:Int),()),())
def e71 (fu:Nat):Ent := ⟨71,(.cons (.hole (.sl .any T_api_Record)) (.cons Y2 .nil)),.nil,(.hole .bool),p71 fu⟩
theorem g71 (fu:Nat):(e71 fu).Good Tryz.prog := good_fx orders Tryz.func71 fu [] [(3,⟨[5],(.cons hI .nil),[],.nil,[0,3],[0]⟩)] rs71 30 (l := []) trivial
def rs72:List RVx := [(.cell 4 true 5)]
def p72 (_:Nat):(Int×(ByteArray×((List Int)×(Int×(Int×Unit)))))×(Int×Unit)→Option (Unit×(Int×(ByteArray×((List Int)×(Int×(Int×Unit)))))) := fun ⟨⟨_,a,c,f,h,_⟩,i,_⟩ =>
bif decide (0=List.length ([]:List Int)) then
 bif decide (List.length ([]:List Int)+c.length≤maxLen∧(List.length ([]:List Int)+c.length) * 1≤140737488355328) then
 bif decide (List.length (([]:List Int) ++ c)=List.length (([]:List Int) ++ c)) then
 some ((),(IntKind.wrap .u64 i,a,(([]:List Int) ++ c),f,h,()))
 else none
 else none
else none
def e72 (fu:Nat):Ent := ⟨72,(.cons Y2 (.cons hI .nil)),.nil,Y5,p72 fu⟩
theorem g72 (fu:Nat):(e72 fu).Good Tryz.prog := good_fx orders Tryz.func72 fu [(6,(.ty (.int .u8))),(9,(.ty (.int .u8)))] [] rs72 14 (l := []) trivial
def rs29:List RVx := [(.tmp 4),(.tmp 5),(.tmp 6),(.tmp 7)]
def p29 (fu:Nat):(List (D_api_Record))×((List (D_api_Record))×Unit)→Option (Unit×((List (D_api_Record))×((List Int)×((List Int)×(Int×Unit))))) := fun ⟨a,c,_⟩ =>
Option.bind (p65 fu (a,())) fun ⟨_,f⟩ =>
Option.bind (p65 fu (c,())) fun ⟨_,h⟩ =>
orK (E := (Bool×Unit)×Unit)
 (bif !f then
 some (.inl ((true,()),()))
 else
 some (.inl ((!h,()),())))
 fun ⟨⟨i,_⟩,_⟩ =>
bif i then
 some ((),([],[],[],(1:Int),()))
else
 bif decide ((IntKind.wrap .i64 ((a.length:Int)+(c.length:Int)))>(4096:Int)) then
 some ((),([],[],[],(143:Int),()))
 else
 loopO (S := ((List (D_api_Record))×((List (D_api_Record))×((List (D_api_Record))×((List Int)×((List Int)×Unit)))))×Unit) fu (fun ⟨⟨j,k,l,m,n,_⟩,_⟩ =>
 bif decide ((IntKind.wrap .i64 ((j.length:Int)+(k.length:Int)))>(0:Int)) then
 orK (E := (Bool×Unit)×Unit)
 (bif decide ((j.length:Int)>(0:Int)) then
 bif decide ((0:Int)≤0∧0<(j.length:Int)) then
 bif decide (0<j.length) then
 Option.bind (p71 fu (k,((j.getD 0 (dflt T_api_Record)).1,((j.getD 0 (dflt T_api_Record)).2).1,(((j.getD 0 (dflt T_api_Record)).2).2).1,((((j.getD 0 (dflt T_api_Record)).2).2).2).1,((((j.getD 0 (dflt T_api_Record)).2).2).2).2,()),())) fun ⟨_,o⟩ =>
 some (.inl ((!o,()),()))
 else none
 else none
 else
 some (.inl ((false,()),())))
 fun ⟨⟨q,_⟩,_⟩ =>
 orK (E := (Bool×Unit)×Unit)
 (orK (E := (Bool×Unit)×Unit)
 (bif !q then
 some (.inl ((decide ((k.length:Int)>(0:Int)),()),()))
 else
 some (.inl ((false,()),())))
 fun ⟨⟨s,_⟩,_⟩ =>
 bif s then
 bif decide ((0:Int)≤0∧0<(k.length:Int)) then
 bif decide (0<k.length) then
 Option.bind (p71 fu (j,((k.getD 0 (dflt T_api_Record)).1,((k.getD 0 (dflt T_api_Record)).2).1,(((k.getD 0 (dflt T_api_Record)).2).2).1,((((k.getD 0 (dflt T_api_Record)).2).2).2).1,((((k.getD 0 (dflt T_api_Record)).2).2).2).2,()),())) fun ⟨_,t⟩ =>
 some (.inl ((!t,()),()))
 else none
 else none
 else
 some (.inl ((false,()),())))
 fun ⟨⟨u,_⟩,_⟩ =>
 bif q then
 bif decide (m.length=m.length) then
 bif decide (m.length+List.length ([IntKind.wrap .u64 ((l.length):Int)])≤maxLen∧(m.length+List.length ([IntKind.wrap .u64 ((l.length):Int)])) * 8≤140737488355328) then
 bif decide ((0:Int)≤0∧0<(j.length:Int)) then
 bif decide (0<j.length) then
 Option.bind (p72 fu (((j.getD 0 (dflt T_api_Record)).1,((j.getD 0 (dflt T_api_Record)).2).1,(((j.getD 0 (dflt T_api_Record)).2).2).1,((((j.getD 0 (dflt T_api_Record)).2).2).2).1,((((j.getD 0 (dflt T_api_Record)).2).2).2).2,()),((l.length):Int),())) fun ⟨_,⟨w,x,y,z,a0,_⟩⟩ =>
 bif decide (y.length=y.length) then
 bif decide (l.length=l.length) then
 bif decide (l.length+List.length ([(w,x,y,z,a0)])≤maxLen∧(l.length+List.length ([(w,x,y,z,a0)])) * 64≤140737488355328) then
 bif decide (1≤j.length) then
 bif decide (List.length (l ++ [(w,x,y,z,a0)])=List.length (l ++ [(w,x,y,z,a0)])) then
 bif decide (List.length (m ++ [IntKind.wrap .u64 ((l.length):Int)])=List.length (m ++ [IntKind.wrap .u64 ((l.length):Int)])) then
 bif decide (n.length=n.length) then
 some (.inl ((List.drop 1 j,k,(l ++ [(w,x,y,z,a0)]),(m ++ [IntKind.wrap .u64 ((l.length):Int)]),n,()),()))
 else none
 else none
 else none
 else none
 else none
 else none
 else none
 else none
 else none
 else none
 else none
 else
 bif u then
 bif decide (n.length=n.length) then
 bif decide (n.length+List.length ([IntKind.wrap .u64 ((l.length):Int)])≤maxLen∧(n.length+List.length ([IntKind.wrap .u64 ((l.length):Int)])) * 8≤140737488355328) then
 bif decide ((0:Int)≤0∧0<(k.length:Int)) then
 bif decide (0<k.length) then
 Option.bind (p72 fu (((k.getD 0 (dflt T_api_Record)).1,((k.getD 0 (dflt T_api_Record)).2).1,(((k.getD 0 (dflt T_api_Record)).2).2).1,((((k.getD 0 (dflt T_api_Record)).2).2).2).1,((((k.getD 0 (dflt T_api_Record)).2).2).2).2,()),((l.length):Int),())) fun ⟨_,⟨c0,f0,h0,i0,j0,_⟩⟩ =>
 bif decide (h0.length=h0.length) then
 bif decide (l.length=l.length) then
 bif decide (l.length+List.length ([(c0,f0,h0,i0,j0)])≤maxLen∧(l.length+List.length ([(c0,f0,h0,i0,j0)])) * 64≤140737488355328) then
 bif decide (1≤k.length) then
 bif decide (List.length (l ++ [(c0,f0,h0,i0,j0)])=List.length (l ++ [(c0,f0,h0,i0,j0)])) then
 bif decide (m.length=m.length) then
 bif decide (List.length (n ++ [IntKind.wrap .u64 ((l.length):Int)])=List.length (n ++ [IntKind.wrap .u64 ((l.length):Int)])) then
 some (.inl ((j,List.drop 1 k,(l ++ [(c0,f0,h0,i0,j0)]),m,(n ++ [IntKind.wrap .u64 ((l.length):Int)]),()),()))
 else none
 else none
 else none
 else none
 else none
 else none
 else none
 else none
 else none
 else none
 else none
 else
 inrO (some ((),([],[],[],(145:Int),())))
 else
 inrO (bif decide (m.length=m.length) then
 bif decide (m.length+List.length ([IntKind.wrap .u64 ((l.length):Int)])≤maxLen∧(m.length+List.length ([IntKind.wrap .u64 ((l.length):Int)])) * 8≤140737488355328) then
 bif decide (n.length=n.length) then
 bif decide (n.length+List.length ([IntKind.wrap .u64 ((l.length):Int)])≤maxLen∧(n.length+List.length ([IntKind.wrap .u64 ((l.length):Int)])) * 8≤140737488355328) then
 bif decide (l.length=l.length) then
 bif decide (List.length (m ++ [IntKind.wrap .u64 ((l.length):Int)])=List.length (m ++ [IntKind.wrap .u64 ((l.length):Int)])) then
 bif decide (List.length (n ++ [IntKind.wrap .u64 ((l.length):Int)])=List.length (n ++ [IntKind.wrap .u64 ((l.length):Int)])) then
 some ((),(l,(m ++ [IntKind.wrap .u64 ((l.length):Int)]),(n ++ [IntKind.wrap .u64 ((l.length):Int)]),(0:Int),()))
 else none
 else none
 else none
 else none
 else none
 else none
 else none))
 ((a,c,[],[],[],()),())
def e29 (fu:Nat):Ent := ⟨29,(.cons (.hole (.sl .any T_api_Record)) (.cons (.hole (.sl .any T_api_Record)) .nil)),.nil,Y9,p29 fu⟩
theorem g29 (fu:Nat):(e29 fu).Good Tryz.prog := good_fx orders Tryz.func29 fu [(5,(.ent (e65 fu))),(8,(.ent (e65 fu))),(48,(.ent (e71 fu))),(64,(.ent (e71 fu))),(75,(.ty (.int .u64))),(76,(.ty (.int .u64))),(84,(.ent (e72 fu))),(85,(.ty T_api_Record_n)),(86,(.ty T_api_Record_n)),(97,(.ty (.int .u64))),(98,(.ty (.int .u64))),(106,(.ent (e72 fu))),(107,(.ty T_api_Record_n)),(108,(.ty T_api_Record_n)),(124,(.ty (.int .u64))),(125,(.ty (.int .u64))),(128,(.ty (.int .u64))),(129,(.ty (.int .u64)))] [(4,⟨[27],(.cons (.hole .bool) .nil),[],.nil,[0,1],[]⟩),(13,⟨[0,1,10,11,12],(.cons (.hole (.sl .any T_api_Record)) (.cons (.hole (.sl .any T_api_Record)) (.cons (.own .own 38 T_api_Record_n) (.cons (.own .own 24 (.int .u64)) (.cons (.own .own 24 (.int .u64)) .nil))))),[],.nil,[],[]⟩),(18,⟨[13],(.cons (.hole .bool) .nil),[],.nil,[0,1,10,11,12,14],[304,305,306]⟩),(21,⟨[14],(.cons (.hole .bool) .nil),[],.nil,[0,1,10,11,12,13],[304,305,306]⟩),(22,⟨[56],(.cons (.hole .bool) .nil),[],.nil,[0,1,10,11,12,13,14],[304,305,306]⟩)] rs29 114 (l := [e65 fu,e65 fu,e71 fu,e71 fu,e72 fu,e72 fu]) ⟨g65 fu,g65 fu,g71 fu,g71 fu,g72 fu,g72 fu,trivial⟩
def rs99:List RVx := [(.cell 4 true 4)]
def p99 (_:Nat):(Int×(Int×(Bool×(Int×Unit))))×((List Int)×Unit)→Option (Unit×(Int×(Int×(Bool×(Int×Unit))))) := fun ⟨⟨a,c,f,h,_⟩,i,_⟩ =>
orK (E := (Bool×Unit)×Unit)
 (bif f then
 bif decide ((i.length:Int)>(0:Int)) then
 bif decide (h<(IntKind.wrap .u64 (IntKind.wrap .i64 ((i.length:Int)-(1:Int))))) then
 bif decide ((0:Int)≤IntKind.wrap .i64 ((IntKind.wrap .i64 h)+(1:Int))∧IntKind.wrap .i64 ((IntKind.wrap .i64 h)+(1:Int))<(i.length:Int)) then
 bif decide (Int.toNat (IntKind.wrap .i64 ((IntKind.wrap .i64 h)+(1:Int)))<i.length) then
 bif decide ((0:Int)≤IntKind.wrap .i64 h∧IntKind.wrap .i64 h<(i.length:Int)) then
 bif decide (Int.toNat (IntKind.wrap .i64 h)<i.length) then
 some (.inl ((decide ((i.getD (Int.toNat (IntKind.wrap .i64 ((IntKind.wrap .i64 h)+(1:Int)))) (dflt (.int .u64)))>(i.getD (Int.toNat (IntKind.wrap .i64 h)) (dflt (.int .u64)))),()),()))
 else none
 else none
 else none
 else none
 else
 some (.inl ((false,()),()))
 else
 some (.inl ((false,()),()))
 else
 some (.inl ((false,()),())))
 fun ⟨⟨j,_⟩,_⟩ =>
bif j then
 bif decide ((0:Int)≤IntKind.wrap .i64 h∧IntKind.wrap .i64 h<(i.length:Int)) then
 bif decide (Int.toNat (IntKind.wrap .i64 h)<i.length) then
 some ((),(a,c,true,(i.getD (Int.toNat (IntKind.wrap .i64 h)) (dflt (.int .u64))),()))
 else none
 else none
else
 some ((),(a,c,false,(0:Int),()))
def e99 (fu:Nat):Ent := ⟨99,(.cons (.agg 4 (.cons hU (.cons hU (.cons (.hole .bool) (.cons hU .nil))))) (.cons (.hole (.sl .any (.int .u64))) .nil)),.nil,(.agg 4 (.cons hU (.cons hU (.cons (.hole .bool) (.cons hU .nil))))),p99 fu⟩
theorem g99 (fu:Nat):(e99 fu).Good Tryz.prog := good_fx orders Tryz.func99 fu [] [(3,⟨[42],(.cons (.hole .bool) .nil),[],.nil,[1,2,4,5],[0,16,112]⟩)] rs99 52 (l := []) trivial
def rs73:List RVx := [(.tmp 4)]
def p73 (fu:Nat):(List (D_api_Producer))×((List Int)×Unit)→Option (Unit×(List (D_api_Producer))) := fun ⟨a,c,_⟩ =>
loopO (S := ((List (D_api_Producer))×(Int×Unit))×Unit) fu (fun ⟨⟨f,h,_⟩,_⟩ =>
 bif decide (h<(a.length:Int)) then
 bif decide ((0:Int)≤h∧h<(a.length:Int)) then
 bif decide (h.toNat<a.length) then
 Option.bind (p99 fu (((a.getD (h.toNat) (dflt T_api_Producer)).1,((a.getD (h.toNat) (dflt T_api_Producer)).2).1,(((a.getD (h.toNat) (dflt T_api_Producer)).2).2).1,(((a.getD (h.toNat) (dflt T_api_Producer)).2).2).2,()),c,())) fun ⟨_,⟨i,j,k,l,_⟩⟩ =>
 bif decide (f.length=f.length) then
 bif decide (f.length+List.length ([(i,j,k,l)])≤maxLen∧(f.length+List.length ([(i,j,k,l)])) * 32≤140737488355328) then
 bif decide (List.length (f ++ [(i,j,k,l)])=List.length (f ++ [(i,j,k,l)])) then
 some (.inl (((f ++ [(i,j,k,l)]),IntKind.wrap .i64 (h+(1:Int)),()),()))
 else none
 else none
 else none
 else none
 else none
 else
 inrO (bif decide (f.length=f.length) then
 some ((),f)
 else none))
 (([],(0:Int),()),())
def e73 (fu:Nat):Ent := ⟨73,(.cons (.hole (.sl .any T_api_Producer)) (.cons (.hole (.sl .any (.int .u64))) .nil)),.nil,(.own .own 46 T_api_Producer),p73 fu⟩
theorem g73 (fu:Nat):(e73 fu).Good Tryz.prog := good_fx orders Tryz.func73 fu [(13,(.ent (e99 fu))),(14,(.ty T_api_Producer)),(15,(.ty T_api_Producer))] [(4,⟨[5,6],(.cons (.own .own 46 T_api_Producer) (.cons hI .nil)),[],.nil,[0,1],[]⟩)] rs73 23 (l := [e99 fu]) ⟨g99 fu,trivial⟩
def rs74:List RVx := [(.tmp 4)]
def p74 (fu:Nat):(List (D_api_Producer))×(Int×Unit)→Option (Unit×Int) := fun ⟨a,c,_⟩ =>
loopO (S := (Int×Unit)×Unit) fu (fun ⟨⟨f,_⟩,_⟩ =>
 bif decide (f<(a.length:Int)) then
 bif decide ((0:Int)≤f∧f<(a.length:Int)) then
 bif decide (f.toNat<a.length) then
 bif (((a.getD (f.toNat) (dflt T_api_Producer)).1)==c) then
 inrO (some ((),f))
 else
 some (.inl ((IntKind.wrap .i64 (f+(1:Int)),()),()))
 else none
 else none
 else
 inrO (some ((),((-1):Int))))
 (((0:Int),()),())
def e74 (fu:Nat):Ent := ⟨74,(.cons (.hole (.sl .any T_api_Producer)) (.cons hU .nil)),.nil,hI,p74 fu⟩
theorem g74 (fu:Nat):(e74 fu).Good Tryz.prog := good_fx orders Tryz.func74 fu [] [(3,⟨[5],(.cons hI .nil),[],.nil,[0,1],[]⟩)] rs74 20 (l := []) trivial
def rs75:List RVx := [(.tmp 4)]
def p75 (fu:Nat):(List (D_api_Producer))×((Int×(Int×(Bool×(Int×Unit))))×Unit)→Option (Unit×(List (D_api_Producer))) := fun ⟨a,⟨c,f,h,i,_⟩,_⟩ =>
loopO (S := ((List (D_api_Producer))×(Bool×(Int×Unit)))×Unit) fu (fun ⟨⟨j,k,l,_⟩,_⟩ =>
 bif decide (l<(a.length:Int)) then
 orK (E := ((List (D_api_Producer))×(Bool×Unit))×Unit)
 (orK (E := (Bool×Unit)×Unit)
 (bif decide ((0:Int)≤l∧l<(a.length:Int)) then
 bif decide (l.toNat<a.length) then
 bif decide (((a.getD (l.toNat) (dflt T_api_Producer)).1)≥c) then
 some (.inl ((!k,()),()))
 else
 some (.inl ((false,()),()))
 else none
 else none)
 fun ⟨⟨m,_⟩,_⟩ =>
 bif m then
 bif decide (j.length=j.length) then
 bif decide (j.length+List.length ([(c,f,h,i)])≤maxLen∧(j.length+List.length ([(c,f,h,i)])) * 32≤140737488355328) then
 bif decide (List.length (j ++ [(c,f,h,i)])=List.length (j ++ [(c,f,h,i)])) then
 some (.inl (((j ++ [(c,f,h,i)]),true,()),()))
 else none
 else none
 else none
 else
 bif decide (j.length=j.length) then
 some (.inl ((j,k,()),()))
 else none)
 fun ⟨⟨j,k,_⟩,_⟩ =>
 bif decide ((0:Int)≤l∧l<(a.length:Int)) then
 bif decide (l.toNat<a.length) then
 bif (((a.getD (l.toNat) (dflt T_api_Producer)).1) != c) then
 bif decide ((0:Int)≤l∧l<(a.length:Int)) then
 bif decide (l.toNat<a.length) then
 bif decide (j.length=j.length) then
 bif decide (j.length+List.length ([((a.getD (l.toNat) (dflt T_api_Producer)).1,((a.getD (l.toNat) (dflt T_api_Producer)).2).1,(((a.getD (l.toNat) (dflt T_api_Producer)).2).2).1,(((a.getD (l.toNat) (dflt T_api_Producer)).2).2).2)])≤maxLen∧(j.length+List.length ([((a.getD (l.toNat) (dflt T_api_Producer)).1,((a.getD (l.toNat) (dflt T_api_Producer)).2).1,(((a.getD (l.toNat) (dflt T_api_Producer)).2).2).1,(((a.getD (l.toNat) (dflt T_api_Producer)).2).2).2)])) * 32≤140737488355328) then
 bif decide (List.length (j ++ [((a.getD (l.toNat) (dflt T_api_Producer)).1,((a.getD (l.toNat) (dflt T_api_Producer)).2).1,(((a.getD (l.toNat) (dflt T_api_Producer)).2).2).1,(((a.getD (l.toNat) (dflt T_api_Producer)).2).2).2)])=List.length (j ++ [((a.getD (l.toNat) (dflt T_api_Producer)).1,((a.getD (l.toNat) (dflt T_api_Producer)).2).1,(((a.getD (l.toNat) (dflt T_api_Producer)).2).2).1,(((a.getD (l.toNat) (dflt T_api_Producer)).2).2).2)])) then
 some (.inl (((j ++ [((a.getD (l.toNat) (dflt T_api_Producer)).1,((a.getD (l.toNat) (dflt T_api_Producer)).2).1,(((a.getD (l.toNat) (dflt T_api_Producer)).2).2).1,(((a.getD (l.toNat) (dflt T_api_Producer)).2).2).2)]),k,IntKind.wrap .i64 (l+(1:Int)),()),()))
 else none
 else none
 else none
 else none
 else none
 else
 bif decide (j.length=j.length) then
 some (.inl ((j,k,IntKind.wrap .i64 (l+(1:Int)),()),()))
 else none
 else none
 else none
 else
 inrO (bif !k then
 bif decide (j.length=j.length) then
 bif decide (j.length+List.length ([(c,f,h,i)])≤maxLen∧(j.length+List.length ([(c,f,h,i)])) * 32≤140737488355328) then
 bif decide (List.length (j ++ [(c,f,h,i)])=List.length (j ++ [(c,f,h,i)])) then
 some ((),(j ++ [(c,f,h,i)]))
 else none
 else none
 else none
 else
 bif decide (j.length=j.length) then
 some ((),j)
 else none))
 (([],false,(0:Int),()),())
def e75 (fu:Nat):Ent := ⟨75,(.cons (.hole (.sl .any T_api_Producer)) (.cons (.agg 4 (.cons hU (.cons hU (.cons (.hole .bool) (.cons hU .nil))))) .nil)),.nil,(.own .own 46 T_api_Producer),p75 fu⟩
theorem g75 (fu:Nat):(e75 fu).Good Tryz.prog := good_fx orders Tryz.func75 fu [(23,(.ty T_api_Producer)),(24,(.ty T_api_Producer)),(40,(.ty T_api_Producer)),(41,(.ty T_api_Producer)),(50,(.ty T_api_Producer)),(51,(.ty T_api_Producer))] [(5,⟨[5,6,7],(.cons (.own .own 46 T_api_Producer) (.cons (.hole .bool) (.cons hI .nil))),[],.nil,[0,3],[0]⟩),(9,⟨[5,6],(.cons (.own .own 46 T_api_Producer) (.cons (.hole .bool) .nil)),[],.nil,[0,3,7],[0]⟩),(10,⟨[25],(.cons (.hole .bool) .nil),[],.nil,[0,3,5,6,7],[0,80]⟩)] rs75 52 (l := []) trivial
def rs30:List RVx := [(.tmp 8),(.tmp 9)]
def p30 (fu:Nat):(List (D_api_Producer))×((List (D_api_Producer))×((List Int)×((List Int)×Unit)))→Option (Unit×((List (D_api_Producer))×(Int×Unit))) := fun ⟨a,c,f,h,_⟩ =>
Option.bind (p66 fu (a,())) fun ⟨_,i⟩ =>
Option.bind (p66 fu (c,())) fun ⟨_,j⟩ =>
bif !i then
 some ((),([],(1:Int),()))
else
 bif !j then
 some ((),([],(1:Int),()))
 else
 Option.bind (p73 fu (a,f,())) fun ⟨_,k⟩ =>
 Option.bind (p73 fu (c,h,())) fun ⟨_,l⟩ =>
 bif decide (k.length=k.length) then
 loopO (S := ((List (D_api_Producer))×(Int×Unit))×Unit) fu (fun ⟨⟨m,n,_⟩,_⟩ =>
 bif decide (n<((l.length):Int)) then
 bif decide ((0:Int)≤n∧n<(l.length:Int)) then
 bif decide (n.toNat<l.length) then
 bif decide (m.length=m.length) then
 Option.bind (p74 fu (m,(l.getD (n.toNat) (dflt T_api_Producer)).1,())) fun ⟨_,o⟩ =>
 orK (E := (Bool×Unit)×Unit)
 (bif decide (o<(0:Int)) then
 some (.inl ((true,()),()))
 else
 bif decide ((0:Int)≤n∧n<(l.length:Int)) then
 bif decide (n.toNat<l.length) then
 bif decide ((0:Int)≤o∧o<(m.length:Int)) then
 bif decide (o.toNat<m.length) then
 bif decide ((((l.getD (n.toNat) (dflt T_api_Producer)).2).1)>(((m.getD (o.toNat) (dflt T_api_Producer)).2).1)) then
 some (.inl ((true,()),()))
 else
 bif decide ((0:Int)≤n∧n<(l.length:Int)) then
 bif decide (n.toNat<l.length) then
 bif decide ((0:Int)≤o∧o<(m.length:Int)) then
 bif decide (o.toNat<m.length) then
 bif ((((l.getD (n.toNat) (dflt T_api_Producer)).2).1)==(((m.getD (o.toNat) (dflt T_api_Producer)).2).1)) then
 bif decide ((0:Int)≤n∧n<(l.length:Int)) then
 bif decide (n.toNat<l.length) then
 bif (((l.getD (n.toNat) (dflt T_api_Producer)).2).2).1 then
 bif decide ((0:Int)≤o∧o<(m.length:Int)) then
 bif decide (o.toNat<m.length) then
 some (.inl ((!((((m.getD (o.toNat) (dflt T_api_Producer)).2).2).1),()),()))
 else none
 else none
 else
 some (.inl ((false,()),()))
 else none
 else none
 else
 some (.inl ((false,()),()))
 else none
 else none
 else none
 else none
 else none
 else none
 else none
 else none)
 fun ⟨⟨q,_⟩,_⟩ =>
 bif q then
 bif decide ((0:Int)≤n∧n<(l.length:Int)) then
 bif decide (n.toNat<l.length) then
 bif decide (m.length=m.length) then
 Option.bind (p75 fu (m,((l.getD (n.toNat) (dflt T_api_Producer)).1,((l.getD (n.toNat) (dflt T_api_Producer)).2).1,(((l.getD (n.toNat) (dflt T_api_Producer)).2).2).1,(((l.getD (n.toNat) (dflt T_api_Producer)).2).2).2,()),())) fun ⟨_,s⟩ =>
 bif decide (s.length=s.length) then
 some (.inl ((s,IntKind.wrap .i64 (n+(1:Int)),()),()))
 else none
 else none
 else none
 else none
 else
 bif decide (m.length=m.length) then
 some (.inl ((m,IntKind.wrap .i64 (n+(1:Int)),()),()))
 else none
 else none
 else none
 else none
 else
 inrO (bif decide (((m.length):Int)>(256:Int)) then
 some ((),([],(153:Int),()))
 else
 bif decide (m.length=m.length) then
 some ((),(m,(0:Int),()))
 else none))
 ((k,(0:Int),()),())
 else none
def e30 (fu:Nat):Ent := ⟨30,(.cons (.hole (.sl .any T_api_Producer)) (.cons (.hole (.sl .any T_api_Producer)) (.cons (.hole (.sl .any (.int .u64))) (.cons (.hole (.sl .any (.int .u64))) .nil)))),.nil,(.tup 2 (.cons (.own .own 46 T_api_Producer) (.cons hI .nil))),p30 fu⟩
theorem g30 (fu:Nat):(e30 fu).Good Tryz.prog := good_fx orders Tryz.func30 fu [(3,(.ent (e66 fu))),(6,(.ent (e66 fu))),(18,(.ent (e73 fu))),(22,(.ent (e73 fu))),(35,(.ent (e74 fu))),(85,(.ent (e75 fu)))] [(10,⟨[12,14],(.cons (.own .own 46 T_api_Producer) (.cons hI .nil)),[],.nil,[13],[320]⟩),(15,⟨[87],(.cons (.hole .bool) .nil),[],.nil,[12,13,14],[320,368]⟩)] rs30 98 (l := [e66 fu,e66 fu,e73 fu,e73 fu,e74 fu,e75 fu]) ⟨g66 fu,g66 fu,g73 fu,g73 fu,g74 fu,g75 fu,trivial⟩
def rs76:List RVx := [(.tmp 4),(.tmp 5)]
def p76 (fu:Nat):(List (D_runtime_errorAddressString))×(ByteArray×Unit)→Option (Unit×(Int×(Bool×Unit))) := fun ⟨a,c,_⟩ =>
loopO (S := (Int×Unit)×Unit) fu (fun ⟨⟨f,_⟩,_⟩ =>
 bif decide (f<(a.length:Int)) then
 bif decide ((0:Int)≤f∧f<(a.length:Int)) then
 bif decide (f.toNat<a.length) then
 bif ByteArray.toList ((a.getD (f.toNat) (dflt T_runtime_errorAddressString)).1)==ByteArray.toList c then
 bif decide ((0:Int)≤f∧f<(a.length:Int)) then
 bif decide (f.toNat<a.length) then
 inrO (some ((),((a.getD (f.toNat) (dflt T_runtime_errorAddressString)).2,true,())))
 else none
 else none
 else
 some (.inl ((IntKind.wrap .i64 (f+(1:Int)),()),()))
 else none
 else none
 else
 inrO (some ((),((0:Int),false,()))))
 (((0:Int),()),())
def e76 (fu:Nat):Ent := ⟨76,(.cons (.hole (.sl .any T_runtime_errorAddressString)) (.cons hT .nil)),.nil,(.tup 2 (.cons hU (.cons (.hole .bool) .nil))),p76 fu⟩
theorem g76 (fu:Nat):(e76 fu).Good Tryz.prog := good_fx orders Tryz.func76 fu [] [(3,⟨[6],(.cons hI .nil),[],.nil,[0,1],[]⟩)] rs76 25 (l := []) trivial
def rs78:List RVx := [(.tmp 4)]
def p78 (_:Nat):(List Int)×(Int×Unit)→Option (Unit×Int) := fun ⟨a,c,_⟩ =>
bif decide (c≥(IntKind.wrap .u64 (a.length:Int))) then
 bif decide ((0:Int)≤IntKind.wrap .i64 ((a.length:Int)-(1:Int))∧IntKind.wrap .i64 ((a.length:Int)-(1:Int))<(a.length:Int)) then
 bif decide (Int.toNat (IntKind.wrap .i64 ((a.length:Int)-(1:Int)))<a.length) then
 some ((),(a.getD (Int.toNat (IntKind.wrap .i64 ((a.length:Int)-(1:Int)))) (dflt (.int .u64))))
 else none
 else none
else
 bif decide ((0:Int)≤IntKind.wrap .i64 c∧IntKind.wrap .i64 c<(a.length:Int)) then
 bif decide (Int.toNat (IntKind.wrap .i64 c)<a.length) then
 some ((),(a.getD (Int.toNat (IntKind.wrap .i64 c)) (dflt (.int .u64))))
 else none
 else none
def e78 (fu:Nat):Ent := ⟨78,(.cons (.hole (.sl .any (.int .u64))) (.cons hU .nil)),.nil,hU,p78 fu⟩
theorem g78 (fu:Nat):(e78 fu).Good Tryz.prog := good_fx orders Tryz.func78 fu [] [] rs78 21 (l := []) trivial
def rs77:List RVx := [(.tmp 4)]
def p77 (fu:Nat):(List (D_runtime_errorAddressString))×((ByteArray×(Int×Unit))×Unit)→Option (Unit×(List (D_runtime_errorAddressString))) := fun ⟨a,⟨c,f,_⟩,_⟩ =>
loopO (S := ((List (D_runtime_errorAddressString))×(Bool×(Int×Unit)))×Unit) fu (fun ⟨⟨h,i,j,_⟩,_⟩ =>
 bif decide (j<(a.length:Int)) then
 orK (E := ((List (D_runtime_errorAddressString))×(Bool×Unit))×Unit)
 (orK (E := (Bool×Unit)×Unit)
 (bif decide ((0:Int)≤j∧j<(a.length:Int)) then
 bif decide (j.toNat<a.length) then
 bif !Op.bytesLess (ByteArray.toList ((a.getD (j.toNat) (dflt T_runtime_errorAddressString)).1)) (ByteArray.toList c) then
 some (.inl ((!i,()),()))
 else
 some (.inl ((false,()),()))
 else none
 else none)
 fun ⟨⟨k,_⟩,_⟩ =>
 bif k then
 bif decide (h.length=h.length) then
 bif decide (h.length+List.length ([(c,f)])≤maxLen∧(h.length+List.length ([(c,f)])) * 24≤140737488355328) then
 bif decide (List.length (h ++ [(c,f)])=List.length (h ++ [(c,f)])) then
 some (.inl (((h ++ [(c,f)]),true,()),()))
 else none
 else none
 else none
 else
 bif decide (h.length=h.length) then
 some (.inl ((h,i,()),()))
 else none)
 fun ⟨⟨h,i,_⟩,_⟩ =>
 bif decide ((0:Int)≤j∧j<(a.length:Int)) then
 bif decide (j.toNat<a.length) then
 bif !(ByteArray.toList ((a.getD (j.toNat) (dflt T_runtime_errorAddressString)).1)==ByteArray.toList c) then
 bif decide ((0:Int)≤j∧j<(a.length:Int)) then
 bif decide (j.toNat<a.length) then
 bif decide (h.length=h.length) then
 bif decide (h.length+List.length ([((a.getD (j.toNat) (dflt T_runtime_errorAddressString)).1,(a.getD (j.toNat) (dflt T_runtime_errorAddressString)).2)])≤maxLen∧(h.length+List.length ([((a.getD (j.toNat) (dflt T_runtime_errorAddressString)).1,(a.getD (j.toNat) (dflt T_runtime_errorAddressString)).2)])) * 24≤140737488355328) then
 bif decide (List.length (h ++ [((a.getD (j.toNat) (dflt T_runtime_errorAddressString)).1,(a.getD (j.toNat) (dflt T_runtime_errorAddressString)).2)])=List.length (h ++ [((a.getD (j.toNat) (dflt T_runtime_errorAddressString)).1,(a.getD (j.toNat) (dflt T_runtime_errorAddressString)).2)])) then
 some (.inl (((h ++ [((a.getD (j.toNat) (dflt T_runtime_errorAddressString)).1,(a.getD (j.toNat) (dflt T_runtime_errorAddressString)).2)]),i,IntKind.wrap .i64 (j+(1:Int)),()),()))
 else none
 else none
 else none
 else none
 else none
 else
 bif decide (h.length=h.length) then
 some (.inl ((h,i,IntKind.wrap .i64 (j+(1:Int)),()),()))
 else none
 else none
 else none
 else
 inrO (bif !i then
 bif decide (h.length=h.length) then
 bif decide (h.length+List.length ([(c,f)])≤maxLen∧(h.length+List.length ([(c,f)])) * 24≤140737488355328) then
 bif decide (List.length (h ++ [(c,f)])=List.length (h ++ [(c,f)])) then
 some ((),(h ++ [(c,f)]))
 else none
 else none
 else none
 else
 bif decide (h.length=h.length) then
 some ((),h)
 else none))
 (([],false,(0:Int),()),())
def e77 (fu:Nat):Ent := ⟨77,(.cons (.hole (.sl .any T_runtime_errorAddressString)) (.cons (.agg 2 (.cons hT (.cons hU .nil))) .nil)),.nil,(.own .own 50 T_runtime_errorAddressString),p77 fu⟩
theorem g77 (fu:Nat):(e77 fu).Good Tryz.prog := good_fx orders Tryz.func77 fu [(23,(.ty T_runtime_errorAddressString)),(24,(.ty T_runtime_errorAddressString)),(40,(.ty T_runtime_errorAddressString)),(41,(.ty T_runtime_errorAddressString)),(50,(.ty T_runtime_errorAddressString)),(51,(.ty T_runtime_errorAddressString))] [(5,⟨[5,6,7],(.cons (.own .own 50 T_runtime_errorAddressString) (.cons (.hole .bool) (.cons hI .nil))),[],.nil,[0,3],[0]⟩),(9,⟨[5,6],(.cons (.own .own 50 T_runtime_errorAddressString) (.cons (.hole .bool) .nil)),[],.nil,[0,3,7],[0]⟩),(10,⟨[25],(.cons (.hole .bool) .nil),[],.nil,[0,3,5,6,7],[0,80]⟩)] rs77 52 (l := []) trivial
def rs31:List RVx := [(.tmp 8),(.tmp 9)]
def p31 (fu:Nat):(List (D_runtime_errorAddressString))×((List (D_runtime_errorAddressString))×((List Int)×((List Int)×Unit)))→Option (Unit×((List (D_runtime_errorAddressString))×(Int×Unit))) := fun ⟨a,c,f,h,_⟩ =>
Option.bind (p67 fu (a,())) fun ⟨_,i⟩ =>
Option.bind (p67 fu (c,())) fun ⟨_,j⟩ =>
bif !i then
 some ((),([],(1:Int),()))
else
 bif !j then
 some ((),([],(1:Int),()))
 else
 bif ((f.length:Int)==(0:Int)) then
 some ((),([],(1:Int),()))
 else
 bif ((h.length:Int)==(0:Int)) then
 some ((),([],(1:Int),()))
 else
 bif decide (0=List.length ([]:List (D_runtime_errorAddressString))) then
 bif decide (List.length ([]:List (D_runtime_errorAddressString))+a.length≤maxLen∧(List.length ([]:List (D_runtime_errorAddressString))+a.length) * 24≤140737488355328) then
 bif decide (List.length (([]:List (D_runtime_errorAddressString)) ++ a)=List.length (([]:List (D_runtime_errorAddressString)) ++ a)) then
 bif decide (List.length (([]:List (D_runtime_errorAddressString)) ++ a)+c.length≤maxLen∧(List.length (([]:List (D_runtime_errorAddressString)) ++ a)+c.length) * 24≤140737488355328) then
 loopO (S := ((List (D_runtime_errorAddressString))×(Int×Unit))×Unit) fu (fun ⟨⟨k,l,_⟩,_⟩ =>
 bif decide (l<((List.length ((([]:List (D_runtime_errorAddressString)) ++ a) ++ c)):Int)) then
 bif decide ((0:Int)≤l∧l<(List.length ((([]:List (D_runtime_errorAddressString)) ++ a) ++ c):Int)) then
 bif decide (l.toNat<List.length ((([]:List (D_runtime_errorAddressString)) ++ a) ++ c)) then
 Option.bind (p76 fu (a,(List.getD ((([]:List (D_runtime_errorAddressString)) ++ a) ++ c) (l.toNat) (dflt T_runtime_errorAddressString)).1,())) fun ⟨_,⟨m,_,_⟩⟩ =>
 bif decide ((0:Int)≤l∧l<(List.length ((([]:List (D_runtime_errorAddressString)) ++ a) ++ c):Int)) then
 bif decide (l.toNat<List.length ((([]:List (D_runtime_errorAddressString)) ++ a) ++ c)) then
 Option.bind (p76 fu (c,(List.getD ((([]:List (D_runtime_errorAddressString)) ++ a) ++ c) (l.toNat) (dflt T_runtime_errorAddressString)).1,())) fun ⟨_,⟨n,_,_⟩⟩ =>
 bif decide ((0:Int)≤l∧l<(List.length ((([]:List (D_runtime_errorAddressString)) ++ a) ++ c):Int)) then
 bif decide (l.toNat<List.length ((([]:List (D_runtime_errorAddressString)) ++ a) ++ c)) then
 Option.bind (p78 fu (f,m,())) fun ⟨_,o⟩ =>
 Option.bind (p78 fu (h,n,())) fun ⟨_,q⟩ =>
 bif decide (k.length=k.length) then
 Option.bind (p77 fu (k,((List.getD ((([]:List (D_runtime_errorAddressString)) ++ a) ++ c) (l.toNat) (dflt T_runtime_errorAddressString)).1,(if q<o then q else o),()),())) fun ⟨_,s⟩ =>
 bif decide (s.length=s.length) then
 some (.inl ((s,IntKind.wrap .i64 (l+(1:Int)),()),()))
 else none
 else none
 else none
 else none
 else none
 else none
 else none
 else none
 else
 inrO (bif decide (((k.length):Int)>(64:Int)) then
 some ((),([],(143:Int),()))
 else
 bif decide (k.length=k.length) then
 some ((),(k,(0:Int),()))
 else none))
 (([],(0:Int),()),())
 else none
 else none
 else none
 else none
def e31 (fu:Nat):Ent := ⟨31,(.cons (.hole (.sl .any T_runtime_errorAddressString)) (.cons (.hole (.sl .any T_runtime_errorAddressString)) (.cons (.hole (.sl .any (.int .u64))) (.cons (.hole (.sl .any (.int .u64))) .nil)))),.nil,(.tup 2 (.cons (.own .own 50 T_runtime_errorAddressString) (.cons hI .nil))),p31 fu⟩
theorem g31 (fu:Nat):(e31 fu).Good Tryz.prog := good_fx orders Tryz.func31 fu [(3,(.ent (e67 fu))),(6,(.ent (e67 fu))),(27,(.ty T_runtime_errorAddressString)),(29,(.ty T_runtime_errorAddressString)),(31,(.ty T_runtime_errorAddressString)),(44,(.ent (e76 fu))),(56,(.ent (e76 fu))),(70,(.ent (e78 fu))),(73,(.ent (e78 fu))),(76,(.ent (e77 fu)))] [(10,⟨[12,14],(.cons (.own .own 50 T_runtime_errorAddressString) (.cons hI .nil)),[],.nil,[0,1,2,3,13],[400]⟩)] rs31 89 (l := [e67 fu,e67 fu,e76 fu,e76 fu,e78 fu,e78 fu,e77 fu]) ⟨g67 fu,g67 fu,g76 fu,g76 fu,g78 fu,g78 fu,g77 fu,trivial⟩
def rs7:List RVx := [(.cell 4 true 7),(.tmp 5)]
def p7 (fu:Nat):(Z0)×((Z0)×Unit)→Option (Unit×((Z0)×(Int×Unit))) := fun ⟨⟨a,c,f,h,i,j,k,_⟩,⟨l,m,n,o,q,s,t,_⟩,_⟩ =>
orK (E := (Bool×Unit)×Unit)
 (Option.bind (p27 fu ((a,c,f,h,i,j,k,()),())) fun ⟨_,u⟩ =>
 bif (u != (0:Int)) then
 some (.inl ((true,()),()))
 else
 Option.bind (p27 fu ((l,m,n,o,q,s,t,()),())) fun ⟨_,w⟩ =>
 bif (w != (0:Int)) then
 some (.inl ((true,()),()))
 else
 some (.inl ((((IntKind.wrap .u64 ((if n>f then n else f)+(1:Int)))==(0:Int)),()),())))
 fun ⟨⟨x,_⟩,_⟩ =>
bif x then
 some ((),(((⟨#[]⟩:ByteArray),(⟨#[]⟩:ByteArray),(0:Int),(0:Int),[],[],[],()),(172:Int),()))
else
 orK (E := (Bool×Unit)×Unit)
 (bif (h==(0:Int)) then
 some (.inl ((true,()),()))
 else
 some (.inl (((o==(0:Int)),()),())))
 fun ⟨⟨y,_⟩,_⟩ =>
 bif y then
 some ((),(((⟨#[]⟩:ByteArray),(⟨#[]⟩:ByteArray),(0:Int),(0:Int),[],[],[],()),(171:Int),()))
 else
 Option.bind (p28 fu ((a,c,()),(l,m,()),())) fun ⟨_,⟨⟨z,a0,_⟩,c0,_⟩⟩ =>
 bif (c0 != (0:Int)) then
 some ((),(((⟨#[]⟩:ByteArray),(⟨#[]⟩:ByteArray),(0:Int),(0:Int),[],[],[],()),c0,()))
 else
 Option.bind (p29 fu (i,q,())) fun ⟨_,⟨f0,h0,i0,j0,_⟩⟩ =>
 bif (j0 != (0:Int)) then
 some ((),(((⟨#[]⟩:ByteArray),(⟨#[]⟩:ByteArray),(0:Int),(0:Int),[],[],[],()),j0,()))
 else
 bif decide (h0.length=h0.length) then
 bif decide (i0.length=i0.length) then
 Option.bind (p30 fu (j,s,h0,i0,())) fun ⟨_,⟨k0,l0,_⟩⟩ =>
 bif (l0 != (0:Int)) then
 some ((),(((⟨#[]⟩:ByteArray),(⟨#[]⟩:ByteArray),(0:Int),(0:Int),[],[],[],()),l0,()))
 else
 bif decide (h0.length=h0.length) then
 bif decide (i0.length=i0.length) then
 Option.bind (p31 fu (k,t,h0,i0,())) fun ⟨_,⟨m0,n0,_⟩⟩ =>
 bif (n0 != (0:Int)) then
 some ((),(((⟨#[]⟩:ByteArray),(⟨#[]⟩:ByteArray),(0:Int),(0:Int),[],[],[],()),n0,()))
 else
 bif decide (f0.length=f0.length) then
 bif decide (k0.length=k0.length) then
 bif decide (m0.length=m0.length) then
 Option.bind (p27 fu ((z,a0,IntKind.wrap .u64 ((if n>f then n else f)+(1:Int)),(0:Int),f0,k0,m0,()),())) fun ⟨_,o0⟩ =>
 bif (o0 != (0:Int)) then
 some ((),(((⟨#[]⟩:ByteArray),(⟨#[]⟩:ByteArray),(0:Int),(0:Int),[],[],[],()),(172:Int),()))
 else
 bif decide (f0.length=f0.length) then
 bif decide (k0.length=k0.length) then
 bif decide (m0.length=m0.length) then
 some ((),((z,a0,IntKind.wrap .u64 ((if n>f then n else f)+(1:Int)),(0:Int),f0,k0,m0,()),(0:Int),()))
 else none
 else none
 else none
 else none
 else none
 else none
 else none
 else none
 else none
 else none
def e7 (fu:Nat):Ent := ⟨7,(.cons Y3 (.cons Y3 .nil)),.nil,(.tup 2 (.cons Y1 (.cons hI .nil))),p7 fu⟩
theorem g7 (fu:Nat):(e7 fu).Good Tryz.prog := good_fx orders Tryz.func7 fu [(12,(.ent (e27 fu))),(16,(.ent (e27 fu))),(41,(.ent (e28 fu))),(58,(.ent (e29 fu))),(80,(.ent (e30 fu))),(98,(.ent (e31 fu))),(119,(.ent (e27 fu)))] [(3,⟨[32],(.cons (.hole .bool) .nil),[],.nil,[2,3,4,6],[0,16,32]⟩),(6,⟨[41],(.cons (.hole .bool) .nil),[],.nil,[2,3,4,6],[0,16,32]⟩)] rs7 108 (l := [e27 fu,e27 fu,e28 fu,e29 fu,e30 fu,e31 fu,e27 fu]) ⟨g27 fu,g27 fu,g28 fu,g29 fu,g30 fu,g31 fu,g27 fu,trivial⟩
def rs32:List RVx := [(.tmp 4)]
def p32 (fu:Nat):(List (D_api_Record))×((List (D_api_Record))×Unit)→Option (Unit×Bool) := fun ⟨a,c,_⟩ =>
bif ((a.length:Int) != (c.length:Int)) then
 some ((),false)
else
 loopO (S := (Int×Unit)×Unit) fu (fun ⟨⟨f,_⟩,_⟩ =>
 bif decide (f<(a.length:Int)) then
 bif decide ((0:Int)≤f∧f<(a.length:Int)) then
 bif decide (f.toNat<a.length) then
 bif decide ((0:Int)≤f∧f<(c.length:Int)) then
 bif decide (f.toNat<c.length) then
 bif (((a.getD (f.toNat) (dflt T_api_Record)).1) != ((c.getD (f.toNat) (dflt T_api_Record)).1)) then
 inrO (some ((),false))
 else
 bif decide ((0:Int)≤f∧f<(a.length:Int)) then
 bif decide (f.toNat<a.length) then
 bif decide ((0:Int)≤f∧f<(c.length:Int)) then
 bif decide (f.toNat<c.length) then
 bif !(ByteArray.toList (((a.getD (f.toNat) (dflt T_api_Record)).2).1)==ByteArray.toList (((c.getD (f.toNat) (dflt T_api_Record)).2).1)) then
 inrO (some ((),false))
 else
 bif decide ((0:Int)≤f∧f<(a.length:Int)) then
 bif decide (f.toNat<a.length) then
 bif decide ((0:Int)≤f∧f<(c.length:Int)) then
 bif decide (f.toNat<c.length) then
 bif !(ByteArray.toList (strOfNums ((((a.getD (f.toNat) (dflt T_api_Record)).2).2).1))==ByteArray.toList (strOfNums ((((c.getD (f.toNat) (dflt T_api_Record)).2).2).1))) then
 inrO (some ((),false))
 else
 bif decide ((0:Int)≤f∧f<(a.length:Int)) then
 bif decide (f.toNat<a.length) then
 bif decide ((0:Int)≤f∧f<(c.length:Int)) then
 bif decide (f.toNat<c.length) then
 bif ((((((a.getD (f.toNat) (dflt T_api_Record)).2).2).2).1) != (((((c.getD (f.toNat) (dflt T_api_Record)).2).2).2).1)) then
 inrO (some ((),false))
 else
 bif decide ((0:Int)≤f∧f<(a.length:Int)) then
 bif decide (f.toNat<a.length) then
 bif decide ((0:Int)≤f∧f<(c.length:Int)) then
 bif decide (f.toNat<c.length) then
 bif ((((((a.getD (f.toNat) (dflt T_api_Record)).2).2).2).2) != (((((c.getD (f.toNat) (dflt T_api_Record)).2).2).2).2)) then
 inrO (some ((),false))
 else
 some (.inl ((IntKind.wrap .i64 (f+(1:Int)),()),()))
 else none
 else none
 else none
 else none
 else none
 else none
 else none
 else none
 else none
 else none
 else none
 else none
 else none
 else none
 else none
 else none
 else none
 else none
 else none
 else none
 else
 inrO (some ((),true)))
 (((0:Int),()),())
def e32 (fu:Nat):Ent := ⟨32,(.cons (.hole (.sl .any T_api_Record)) (.cons (.hole (.sl .any T_api_Record)) .nil)),.nil,(.hole .bool),p32 fu⟩
theorem g32 (fu:Nat):(e32 fu).Good Tryz.prog := good_fx orders Tryz.func32 fu [] [(6,⟨[5],(.cons hI .nil),[],.nil,[0,1],[]⟩)] rs32 82 (l := []) trivial
def rs33:List RVx := [(.tmp 4)]
def p33 (fu:Nat):(List (D_api_Producer))×((List (D_api_Producer))×Unit)→Option (Unit×Bool) := fun ⟨a,c,_⟩ =>
bif ((a.length:Int) != (c.length:Int)) then
 some ((),false)
else
 loopO (S := (Int×Unit)×Unit) fu (fun ⟨⟨f,_⟩,_⟩ =>
 bif decide (f<(a.length:Int)) then
 bif decide ((0:Int)≤f∧f<(a.length:Int)) then
 bif decide (f.toNat<a.length) then
 bif decide ((0:Int)≤f∧f<(c.length:Int)) then
 bif decide (f.toNat<c.length) then
 bif !(((a.getD (f.toNat) (dflt T_api_Producer)).1)==((c.getD (f.toNat) (dflt T_api_Producer)).1) && ((((a.getD (f.toNat) (dflt T_api_Producer)).2).1)==(((c.getD (f.toNat) (dflt T_api_Producer)).2).1) && (((((a.getD (f.toNat) (dflt T_api_Producer)).2).2).1)==((((c.getD (f.toNat) (dflt T_api_Producer)).2).2).1) && (((((a.getD (f.toNat) (dflt T_api_Producer)).2).2).2)==((((c.getD (f.toNat) (dflt T_api_Producer)).2).2).2) && true)))) then
 inrO (some ((),false))
 else
 some (.inl ((IntKind.wrap .i64 (f+(1:Int)),()),()))
 else none
 else none
 else none
 else none
 else
 inrO (some ((),true)))
 (((0:Int),()),())
def e33 (fu:Nat):Ent := ⟨33,(.cons (.hole (.sl .any T_api_Producer)) (.cons (.hole (.sl .any T_api_Producer)) .nil)),.nil,(.hole .bool),p33 fu⟩
theorem g33 (fu:Nat):(e33 fu).Good Tryz.prog := good_fx orders Tryz.func33 fu [] [(6,⟨[5],(.cons hI .nil),[],.nil,[0,1],[]⟩)] rs33 26 (l := []) trivial
def rs34:List RVx := [(.tmp 4)]
def p34 (fu:Nat):(List (D_runtime_errorAddressString))×((List (D_runtime_errorAddressString))×Unit)→Option (Unit×Bool) := fun ⟨a,c,_⟩ =>
bif ((a.length:Int) != (c.length:Int)) then
 some ((),false)
else
 loopO (S := (Int×Unit)×Unit) fu (fun ⟨⟨f,_⟩,_⟩ =>
 bif decide (f<(a.length:Int)) then
 bif decide ((0:Int)≤f∧f<(a.length:Int)) then
 bif decide (f.toNat<a.length) then
 bif decide ((0:Int)≤f∧f<(c.length:Int)) then
 bif decide (f.toNat<c.length) then
 bif !(((a.getD (f.toNat) (dflt T_runtime_errorAddressString)).1)==((c.getD (f.toNat) (dflt T_runtime_errorAddressString)).1) && (((a.getD (f.toNat) (dflt T_runtime_errorAddressString)).2)==((c.getD (f.toNat) (dflt T_runtime_errorAddressString)).2) && true)) then
 inrO (some ((),false))
 else
 some (.inl ((IntKind.wrap .i64 (f+(1:Int)),()),()))
 else none
 else none
 else none
 else none
 else
 inrO (some ((),true)))
 (((0:Int),()),())
def e34 (fu:Nat):Ent := ⟨34,(.cons (.hole (.sl .any T_runtime_errorAddressString)) (.cons (.hole (.sl .any T_runtime_errorAddressString)) .nil)),.nil,(.hole .bool),p34 fu⟩
theorem g34 (fu:Nat):(e34 fu).Good Tryz.prog := good_fx orders Tryz.func34 fu [] [(6,⟨[5],(.cons hI .nil),[],.nil,[0,1],[]⟩)] rs34 26 (l := []) trivial
def rs8:List RVx := [(.tmp 4)]
def p8 (fu:Nat):(Z0)×((Z0)×Unit)→Option (Unit×Bool) := fun ⟨⟨a,c,f,h,i,j,k,_⟩,⟨l,m,n,o,q,s,t,_⟩,_⟩ =>
Option.bind (p32 fu (i,q,())) fun ⟨_,u⟩ =>
Option.bind (p33 fu (j,s,())) fun ⟨_,w⟩ =>
Option.bind (p34 fu (k,t,())) fun ⟨_,x⟩ =>
bif u then
 bif w then
 bif x then
 bif (a==l && (c==m && true)) then
 bif (f==n) then
 some ((),(h==o))
 else
 some ((),false)
 else
 some ((),false)
 else
 some ((),false)
 else
 some ((),false)
else
 some ((),false)
def e8 (fu:Nat):Ent := ⟨8,(.cons Y3 (.cons Y3 .nil)),.nil,(.hole .bool),p8 fu⟩
theorem g8 (fu:Nat):(e8 fu).Good Tryz.prog := good_fx orders Tryz.func8 fu [(7,(.ent (e32 fu))),(13,(.ent (e33 fu))),(19,(.ent (e34 fu)))] [] rs8 51 (l := [e32 fu,e33 fu,e34 fu]) ⟨g32 fu,g33 fu,g34 fu,trivial⟩
def rs3:List RVx := [(.tmp 4)]
def p3 (fu:Nat):(Z0)×((Z0)×Unit)→Option (Unit×Bool) := fun ⟨⟨a,c,f,h,i,j,k,_⟩,⟨l,m,n,o,q,s,t,_⟩,_⟩ =>
Option.bind (p4 fu ()) fun ⟨_,u⟩ =>
orK (E := (ByteArray×Unit)×Unit)
 (Option.bind (p5 fu ((a,c,f,h,i,j,k,()),())) fun ⟨_,w⟩ =>
 bif decide (w.length=w.length) then
 Option.bind (p5 fu ((l,m,n,o,q,s,t,()),())) fun ⟨_,x⟩ =>
 bif decide (x.length=x.length) then
 bif decide (ByteArray.size (strOfNums w)+ByteArray.size (strOfNums x)≤9223372036854775807) then
 some (.inl (((strOfNums w) ++ (strOfNums x),()),()))
 else none
 else none
 else none)
 fun ⟨⟨y,_⟩,_⟩ =>
Option.bind (p6 fu ((a,c,f,h,i,j,k,()),(l,m,n,o,q,s,t,()),())) fun ⟨_,⟨⟨z,a0,c0,f0,h0,i0,j0,_⟩,k0,_⟩⟩ =>
Option.bind (p7 fu ((a,c,f,h,i,j,k,()),(l,m,n,o,q,s,t,()),())) fun ⟨_,⟨⟨l0,m0,n0,o0,q0,s0,t0,_⟩,u0,_⟩⟩ =>
orK (E := (Bool×Unit)×((Z0)×Unit))
 (bif decide (h0.length=h0.length) then
 bif decide (i0.length=i0.length) then
 bif decide (j0.length=j0.length) then
 bif decide (q0.length=q0.length) then
 bif decide (s0.length=s0.length) then
 bif decide (t0.length=t0.length) then
 Option.bind (p8 fu ((z,a0,c0,f0,h0,i0,j0,()),(l0,m0,n0,o0,q0,s0,t0,()),())) fun ⟨_,w0⟩ =>
 bif decide (h0.length=h0.length) then
 bif decide (i0.length=i0.length) then
 bif decide (j0.length=j0.length) then
 some (.inl ((w0,()),((z,a0,c0,f0,h0,i0,j0,()),())))
 else none
 else none
 else none
 else none
 else none
 else none
 else none
 else none
 else none)
 fun ⟨⟨x0,_⟩,⟨⟨_,_,_,_,y0,_,_,_⟩,_⟩⟩ =>
loopO (S := (Int×Unit)×Unit) fu (fun ⟨⟨z0,_⟩,_⟩ =>
 bif decide (z0<(y0.length:Int)) then
 loopO (S := (Int×Unit)×Unit) fu (fun ⟨⟨a1,_⟩,_⟩ =>
 bif decide ((0:Int)≤z0∧z0<(y0.length:Int)) then
 bif decide (z0.toNat<y0.length) then
 bif decide (a1<(List.length ((((y0.getD (z0.toNat) (dflt T_api_Record)).2).2).1):Int)) then
 bif decide ((0:Int)≤z0∧z0<(y0.length:Int)) then
 bif decide (z0.toNat<y0.length) then
 bif decide ((0:Int)≤a1∧a1<(List.length ((((y0.getD (z0.toNat) (dflt T_api_Record)).2).2).1):Int)) then
 bif decide (a1.toNat<List.length ((((y0.getD (z0.toNat) (dflt T_api_Record)).2).2).1)) then
 bif decide ((0:Int)≤a1∧a1<(List.length ((((y0.getD (z0.toNat) (dflt T_api_Record)).2).2).1):Int)) then
 some (.inl ((IntKind.wrap .i64 (a1+(1:Int)),()),()))
 else none
 else none
 else none
 else none
 else none
 else
 inrO (some (.inl ((IntKind.wrap .i64 (z0+(1:Int)),()),())))
 else none
 else none)
 (((0:Int),()),())
 else
 inrO (bif u then
 bif x0 then
 bif (k0==u0) then
 Option.bind (p5 fu ((a,c,f,h,i,j,k,()),())) fun ⟨_,c1⟩ =>
 bif decide (c1.length=c1.length) then
 Option.bind (p5 fu ((l,m,n,o,q,s,t,()),())) fun ⟨_,f1⟩ =>
 bif decide (f1.length=f1.length) then
 bif decide (ByteArray.size (strOfNums c1)+ByteArray.size (strOfNums f1)≤9223372036854775807) then
 some ((),ByteArray.toList ((strOfNums c1) ++ (strOfNums f1))==ByteArray.toList y)
 else none
 else none
 else none
 else
 some ((),false)
 else
 some ((),false)
 else
 some ((),false)))
 (((0:Int),()),())
def e3 (fu:Nat):Ent := ⟨3,(.cons Y3 (.cons Y3 .nil)),.nil,(.hole .bool),p3 fu⟩
theorem g3 (fu:Nat):(e3 fu).Good Tryz.prog := good_fz orders Tryz.func3 fu [(3,(.ent (e4 fu))),(6,(.ent (e5 fu))),(9,(.ent (e5 fu))),(15,(.ent (e6 fu))),(24,(.ent (e7 fu))),(33,(.ent (e8 fu))),(80,(.ent (e5 fu))),(83,(.ent (e5 fu)))] [(2,⟨[6],(.cons hT .nil),[],.nil,[2,3,5],[0,16]⟩),(5,⟨[11],(.cons (.hole .bool) .nil),[(176,29,7)],(.cons Y11 .nil),[2,3,5,6,7,8,10],[0,16]⟩),(8,⟨[12],(.cons hI .nil),[],.nil,[2,3,5,6,7,8,10,11],[0,16,176]⟩),(13,⟨[13],(.cons hI .nil),[],.nil,[2,3,5,6,7,8,10,11,12],[0,16,176]⟩)] [(2,.zone)] rs3 86 (l := [e4 fu,e5 fu,e5 fu,e6 fu,e7 fu,e8 fu,e5 fu,e5 fu]) ⟨g4 fu,g5 fu,g5 fu,g6 fu,g7 fu,g8 fu,g5 fu,g5 fu,trivial⟩ (ls := []) trivial
end Go.Proofs.YtmjmhobeiamgiaaGreat
