/-
  The functions, typed.
-/
import Derived.Test.YtdkdhcakoccpfaaGreatDoorErsE
import Derived.Test.YtdkdhcakoccpfaaGreatDoorInC
import Derived.Test.YtdkdhcakoccpfaaGreatDoorCpE
import Derived.Test.YtdkdhcakoccpfaaGreatDoorDaN
import Derived.Test.YtdkdhcakoccpfaaGreatDoorRows
namespace Go.Proofs.YtdkdhcakoccpfaaGreatDoor
set_option maxRecDepth 1000000
open Go.RowKit
abbrev hI:Sh := .hole (.int .i64)
abbrev hU:Sh := .hole (.int .u64)
abbrev hT:Sh := .hole .str
abbrev lD (d c s:Nat):RO×Hint := (⟨some d,none,.load false c (.tmp s)⟩,.none)
abbrev fD (d c s:Nat):RO×Hint := (⟨some d,none,.faddr c (.tmp s)⟩,.none)
abbrev nD (d s:Nat):RO×Hint := (⟨some d,none,.pure .nilc [.tmp s]⟩,.none)
abbrev zR0:Bool×(Int×Int×Unit)×Unit := (false,(0,0,()),())
abbrev T_runtime_errorAddressString:Tp := (.pair .str (.int .u64))
abbrev D_runtime_errorAddressString := ByteArray×Int
abbrev T_runtime_errorAddressString_h:Tp := (.pair (.hv .str) (.hv (.int .u64)))
abbrev T_api_Producer:Tp := (.pair (.int .u64) (.pair (.int .u64) (.pair .bool (.int .u64))))
abbrev D_api_Producer := Int×(Int×(Bool×Int))
abbrev T_api_Producer_h:Tp := (.pair (.hv (.int .u64)) (.pair (.hv (.int .u64)) (.pair .bool (.hv (.int .u64)))))
abbrev T_api_Record:Tp := (.pair (.int .u64) (.pair .str (.pair (.sl .any (.int .u8)) (.pair (.int .u64) (.int .u64)))))
abbrev D_api_Record := Int×(ByteArray×((List Int)×(Int×Int)))
abbrev T_api_Record_n:Tp := (.pair (.int .u64) (.pair .str (.pair (.sl .new (.int .u8)) (.pair (.int .u64) (.int .u64)))))
abbrev T_api_Record_s:Tp := (.pair (.int .u64) (.pair .str (.pair (.sl .saf (.int .u8)) (.pair (.int .u64) (.int .u64)))))
abbrev T_api_Record_h:Tp := (.pair (.hv (.int .u64)) (.pair (.hv .str) (.pair (.sl .new (.hv (.int .u8))) (.pair (.hv (.int .u64)) (.hv (.int .u64))))))
abbrev T_api_PartCommand:Tp := (.pair (.int .i64) (.pair (.int .u64) (.pair (.int .u64) (.pair (.int .u64) (.pair .str (.pair (.sl .any (.int .u8)) (.pair (.int .u64) (.pair (.int .i64) T_runtime_errorAddressString))))))))
abbrev D_api_PartCommand := Int×(Int×(Int×(Int×(ByteArray×((List Int)×(Int×(Int×(D_runtime_errorAddressString))))))))
theorem Q0c:Tryz.prog.follows .mixedOrders=true := by kernel_rfl
abbrev Z0:Type := ByteArray×(ByteArray×(Int×(Int×((List (D_api_Record))×((List (D_api_Producer))×((List (D_runtime_errorAddressString))×(Int×(Int×(Int×(Int×(ByteArray×((List Int)×(Int×(Int×(ByteArray×(Int×(Int×(Int×(Bool×(Unit×Unit))))))))))))))))))))
abbrev Z1:Type := Bool×(Unit×(Bool×(Unit×(ByteArray×(Int×Unit)))))
abbrev Z2:Type := ByteArray×(ByteArray×(Int×(Int×((List (D_api_Record))×((List (D_api_Producer))×((List (D_runtime_errorAddressString))×(Int×(Int×(Int×(Int×(ByteArray×((List Int)×(Int×(Int×(ByteArray×(Int×(Int×(Int×(Bool×((List (D_api_Record))×Unit))))))))))))))))))))
abbrev Z3:Type := ByteArray×(ByteArray×(Int×(Int×((List (D_api_Record))×((List (D_api_Producer))×(Unit×Unit))))))
abbrev Z4:Type := ByteArray×(ByteArray×(Int×(Int×((List (D_api_Record))×((List (D_api_Producer))×((List (D_runtime_errorAddressString))×Unit))))))
abbrev Y5:Sh := (.agg 5 (.cons hU (.cons hT (.cons (.hole (.sl .any (.int .u8))) (.cons hU (.cons hU .nil))))))
abbrev Y6:Sh := (.agg 7 (.cons hT (.cons hT (.cons hU (.cons hU (.cons (.hole (.sl .any T_api_Record)) (.cons (.hole (.sl .any T_api_Producer)) (.cons (.hole (.sl .any T_runtime_errorAddressString)) .nil))))))))
abbrev Y7:Sh := (.agg 7 (.cons hT (.cons hT (.cons hU (.cons hU (.cons (.hole (.sl .new T_api_Record_n)) (.cons (.hole (.sl .new T_api_Producer)) (.cons (.hole (.sl .new T_runtime_errorAddressString)) .nil))))))))
abbrev Y8:Sh := (.agg 10 (.cons hI (.cons hU (.cons hU (.cons hU (.cons hT (.cons (.hole (.sl .any (.int .u8))) (.cons hU (.cons hI (.cons hT (.cons hU .nil)))))))))))
abbrev Y9:Sh := (.agg 5 (.cons hU (.cons hT (.cons (.hole (.sl .new (.int .u8))) (.cons hU (.cons hU .nil))))))
abbrev Y10:Sh := (.agg 7 (.cons hT (.cons hT (.cons hU (.cons hU (.cons (.own .own 49 T_api_Record_n) (.cons (.own .own 62 T_api_Producer) (.cons (.own .own 64 T_runtime_errorAddressString) .nil))))))))
abbrev Z11:Type := Int×(Int×(Int×(Int×(ByteArray×((List Int)×(Int×(Int×(ByteArray×(Int×Unit)))))))))
abbrev Y12:Sh := (.box 82 21 (.cons hT (.cons hT (.cons hU (.cons hU (.cons (.own .own 49 T_api_Record_n) (.cons (.own .own 62 T_api_Producer) (.cons (.own .own 64 T_runtime_errorAddressString) (.cons hI (.cons hU (.cons hU (.cons hU (.cons hT (.cons (.hole (.sl .any (.int .u8))) (.cons hU (.cons hI (.cons hT (.cons hU (.cons hI (.cons hU (.cons (.hole .bool) (.cons .nils .nil))))))))))))))))))))))
abbrev Y13:Sh := (.agg 21 (.cons hT (.cons hT (.cons hU (.cons hU (.cons (.own .own 49 T_api_Record_n) (.cons (.own .own 62 T_api_Producer) (.cons (.own .own 64 T_runtime_errorAddressString) (.cons hI (.cons hU (.cons hU (.cons hU (.cons hT (.cons (.hole (.sl .any (.int .u8))) (.cons hU (.cons hI (.cons hT (.cons hU (.cons hI (.cons hU (.cons (.hole .bool) (.cons .nils .nil))))))))))))))))))))))
abbrev Y14:Sh := (.agg 5 (.cons hU (.cons hT (.cons (.own .own 5 (.int .u8)) (.cons hU (.cons hU .nil))))))
abbrev Y15:Sh := (.agg 21 (.cons hT (.cons hT (.cons hU (.cons hU (.cons (.hole (.sl .new T_api_Record_n)) (.cons (.own .own 62 T_api_Producer) (.cons (.own .own 64 T_runtime_errorAddressString) (.cons hI (.cons hU (.cons hU (.cons hU (.cons hT (.cons (.hole (.sl .any (.int .u8))) (.cons hU (.cons hI (.cons hT (.cons hU (.cons hI (.cons hU (.cons (.hole .bool) (.cons .nils .nil))))))))))))))))))))))
abbrev Y16:Sh := (.agg 21 (.cons hT (.cons hT (.cons hU (.cons hU (.cons (.hole (.sl .new T_api_Record_n)) (.cons (.own .own 62 T_api_Producer) (.cons (.own .own 64 T_runtime_errorAddressString) (.cons hI (.cons hU (.cons hU (.cons hU (.cons hT (.cons (.hole (.sl .any (.int .u8))) (.cons hU (.cons hI (.cons hT (.cons hU (.cons hI (.cons hU (.cons (.hole .bool) (.cons (.own .own 49 T_api_Record_n) .nil))))))))))))))))))))))
abbrev Y17:Sh := (.agg 7 (.cons hT (.cons hT (.cons hU (.cons hU (.cons (.hole (.sl .new T_api_Record_n)) (.cons (.own .own 62 T_api_Producer) (.cons (.own .own 64 T_runtime_errorAddressString) .nil))))))))
abbrev Y18:Sh := (.agg 4 (.cons hI (.cons hU (.cons (.hole .bool) (.cons (.own .own 49 T_api_Record_n) .nil)))))
abbrev Y19:Sh := (.box 67 4 (.cons (.hole (.sl .any (.int .u8))) (.cons hI (.cons hI (.cons hI .nil)))))
abbrev Y20:Sh := (.agg 4 (.cons (.hole (.sl .any (.int .u8))) (.cons hI (.cons hI (.cons hI .nil)))))
abbrev Y21:Sh := (.agg 7 (.cons hT (.cons hT (.cons hU (.cons hU (.cons (.own .own 49 T_api_Record_n) (.cons (.own .own 62 T_api_Producer) (.cons .nils .nil))))))))
abbrev Y22:Sh := (.agg 4 (.cons hI (.cons hU (.cons (.hole .bool) (.cons (.hole (.sl .new T_api_Record_n)) .nil)))))
abbrev Y23:Sh := (.agg 5 (.cons hU (.cons hT (.cons (.hole (.sl .saf (.int .u8))) (.cons hU (.cons hU .nil))))))
abbrev Y24:Sh := (.agg 7 (.cons hT (.cons hT (.cons hU (.cons hU (.cons (.hole (.sl .saf T_api_Record_s)) (.cons (.hole (.sl .saf T_api_Producer)) (.cons (.hole (.sl .saf T_runtime_errorAddressString)) .nil))))))))
abbrev Y25:Sh := (.agg 10 (.cons hI (.cons hU (.cons hU (.cons hU (.cons hT (.cons (.hole (.sl .saf (.int .u8))) (.cons hU (.cons hI (.cons hT (.cons hU .nil)))))))))))
abbrev Y26:Sh := (.agg 4 (.cons hI (.cons hU (.cons (.hole .bool) (.cons (.hole (.sl .new T_api_Record)) .nil)))))
abbrev Y27:Sh := (.agg 4 (.cons hI (.cons hU (.cons (.hole .bool) (.cons (.hole (.sl .any T_api_Record)) .nil)))))
abbrev Y28:Sh := (.agg 7 (.cons hT (.cons hT (.cons hU (.cons hU (.cons (.hole (.sl .new T_api_Record_h)) (.cons (.hole (.sl .new T_api_Producer_h)) (.cons (.hole (.sl .new T_runtime_errorAddressString_h)) .nil))))))))
abbrev Y29:Sh := (.box 29 7 (.cons hT (.cons hT (.cons hU (.cons hU (.cons (.hole (.sl .new T_api_Record_n)) (.cons (.hole (.sl .new T_api_Producer)) (.cons (.hole (.sl .new T_runtime_errorAddressString)) .nil))))))))
abbrev Y30:Sh := (.box 39 4 (.cons hI (.cons hU (.cons (.hole .bool) (.cons (.own .own 49 T_api_Record_n) .nil)))))
abbrev Y31:Sh := (.agg 4 (.cons hI (.cons hU (.cons (.hole .bool) (.cons (.own .own 49 (.pair (.int .u64) (.pair .str (.pair (.op (.sl .mid (.int .u8))) (.pair (.int .u64) (.int .u64)))))) .nil)))))
def rs55:List RVx := [(.tmp 2)]
def p55 (_:Nat):ByteArray×Unit→Option (Unit×Bool) := fun ⟨a,_⟩ =>
some ((),decide ((ByteArray.size a:Int)≤(32:Int)))
def e55 (fu:Nat):Ent := ⟨55,(.cons hT .nil),.nil,(.hole .bool),p55 fu⟩
theorem g55 (fu:Nat):(e55 fu).Good Tryz.prog := Q0d Q0c Tryz.func55 fu [] [] rs55 6 (l := []) trivial
def rs56:List RVx := [(.cell 2 true 2)]
def p56 (_:Nat):(ByteArray×(ByteArray×Unit))×Unit→Option (Unit×(ByteArray×(Bool×Unit))) := fun ⟨⟨_,a,_⟩,_⟩ =>
some ((),(a,ByteArray.toList a==ByteArray.toList (⟨#[]⟩:ByteArray),()))
def e56 (fu:Nat):Ent := ⟨56,(.cons (.agg 2 (.cons hT (.cons hT .nil))) .nil),.nil,(.agg 2 (.cons hT (.cons (.hole .bool) .nil))),p56 fu⟩
theorem g56 (fu:Nat):(e56 fu).Good Tryz.prog := Q0d Q0c Tryz.func56 fu [] [] rs56 9 (l := []) trivial
def rs57:List RVx := [(.tmp 4)]
def p57 (_:Nat):(ByteArray×(Bool×Unit))×(ByteArray×Unit)→Option (Unit×Bool) := fun ⟨⟨a,c,_⟩,f,_⟩ =>
bif c then
 some ((),true)
else
 some ((),!(Op.bytesLess (ByteArray.toList a) (ByteArray.toList f)||ByteArray.toList a==ByteArray.toList f))
def e57 (fu:Nat):Ent := ⟨57,(.cons (.agg 2 (.cons hT (.cons (.hole .bool) .nil))) (.cons hT .nil)),.nil,(.hole .bool),p57 fu⟩
theorem g57 (fu:Nat):(e57 fu).Good Tryz.prog := Q0d Q0c Tryz.func57 fu [] [] rs57 13 (l := []) trivial
def rs17:List RVx := [(.tmp 2)]
def p17 (fu:Nat):(ByteArray×(ByteArray×Unit))×Unit→Option (Unit×Int) := fun ⟨⟨a,c,_⟩,_⟩ =>
Option.bind (p55 fu (a,())) fun ⟨_,f⟩ =>
bif !f then
 some ((),(131:Int))
else
 Option.bind (p55 fu (c,())) fun ⟨_,h⟩ =>
 bif !h then
 some ((),(131:Int))
 else
 Option.bind (p56 fu ((a,c,()),())) fun ⟨_,⟨i,j,_⟩⟩ =>
 Option.bind (p57 fu ((i,j,()),a,())) fun ⟨_,k⟩ =>
 bif !k then
 some ((),(132:Int))
 else
 some ((),(0:Int))
def e17 (fu:Nat):Ent := ⟨17,(.cons (.agg 2 (.cons hT (.cons hT .nil))) .nil),.nil,hI,p17 fu⟩
theorem g17 (fu:Nat):(e17 fu).Good Tryz.prog := Q0d Q0c Tryz.func17 fu [(4,(.ent (e55 fu))),(9,(.ent (e55 fu))),(14,(.ent (e56 fu))),(17,(.ent (e57 fu)))] [] rs17 19 (l := [e55 fu,e55 fu,e56 fu,e57 fu]) ⟨g55 fu,g55 fu,g56 fu,g57 fu,trivial⟩
def rs58:List RVx := [(.tmp 2)]
def p58 (_:Nat):(Int×(ByteArray×((List Int)×(Int×(Int×Unit)))))×Unit→Option (Unit×Int) := fun ⟨⟨_,a,c,_,_,_⟩,_⟩ =>
bif decide ((ByteArray.size a:Int)>(32:Int)) then
 some ((),(131:Int))
else
 bif decide ((c.length:Int)>(256:Int)) then
 some ((),(144:Int))
 else
 some ((),(0:Int))
def e58 (fu:Nat):Ent := ⟨58,(.cons Y5 .nil),.nil,hI,p58 fu⟩
theorem g58 (fu:Nat):(e58 fu).Good Tryz.prog := Q0d Q0c Tryz.func58 fu [] [] rs58 13 (l := []) trivial
def rs18:List RVx := [(.tmp 2)]
def p18 (fu:Nat):(List (D_api_Record))×Unit→Option (Unit×Bool) := fun ⟨a,_⟩ =>
loopO (S := (Int×Unit)×Unit) fu (fun ⟨⟨c,_⟩,_⟩ =>
 bif decide (c<(a.length:Int)) then
 bif decide ((0:Int)≤c∧c<(a.length:Int)) then
 bif decide (c.toNat<a.length) then
 bif (((a.getD (c.toNat) (dflt T_api_Record)).1) != (IntKind.wrap .u64 c)) then
 inrO (some ((),false))
 else
 Option.bind (p58 fu (((a.getD (c.toNat) (dflt T_api_Record)).1,((a.getD (c.toNat) (dflt T_api_Record)).2).1,(((a.getD (c.toNat) (dflt T_api_Record)).2).2).1,((((a.getD (c.toNat) (dflt T_api_Record)).2).2).2).1,((((a.getD (c.toNat) (dflt T_api_Record)).2).2).2).2,()),())) fun ⟨_,f⟩ =>
 bif (f != (0:Int)) then
 inrO (some ((),false))
 else
 some (.inl ((IntKind.wrap .i64 (c+(1:Int)),()),()))
 else none
 else none
 else
 inrO (some ((),decide ((a.length:Int)≤(4096:Int)))))
 (((0:Int),()),())
def e18 (fu:Nat):Ent := ⟨18,(.cons (.hole (.sl .any T_api_Record)) .nil),.nil,(.hole .bool),p18 fu⟩
theorem g18 (fu:Nat):(e18 fu).Good Tryz.prog := Q0d Q0c Tryz.func18 fu [(18,(.ent (e58 fu)))] [(3,⟨[7],(.cons hI .nil),[],.nil,[0,5,6],[]⟩)] rs18 26 (l := [e58 fu]) ⟨g58 fu,trivial⟩
def rs91:List RVx := [(.tmp 2)]
def p91 (_:Nat):Int×Unit→Option (Unit×Bool) := fun ⟨a,_⟩ =>
some ((),(a != a))
def e91 (fu:Nat):Ent := ⟨91,(.cons hU .nil),.nil,(.hole .bool),p91 fu⟩
theorem g91 (fu:Nat):(e91 fu).Good Tryz.prog := Q0d Q0c Tryz.func91 fu [] [] rs91 6 (l := []) trivial
def rs64:List RVx := [(.tmp 4)]
def p64 (fu:Nat):Int×(Int×Unit)→Option (Unit×Int) := fun ⟨a,c,_⟩ =>
Option.bind (p91 fu (a,())) fun ⟨_,f⟩ =>
Option.bind (p91 fu (c,())) fun ⟨_,h⟩ =>
bif f then
 bif h then
 some ((),(0:Int))
 else
 some ((),((-1):Int))
else
 bif h then
 some ((),(1:Int))
 else
 bif decide (a<c) then
 some ((),((-1):Int))
 else
 bif decide (a>c) then
 some ((),(1:Int))
 else
 some ((),(0:Int))
def e64 (fu:Nat):Ent := ⟨64,(.cons hU (.cons hU .nil)),.nil,hI,p64 fu⟩
theorem g64 (fu:Nat):(e64 fu).Good Tryz.prog := Q0d Q0c Tryz.func64 fu [(2,(.ent (e91 fu))),(5,(.ent (e91 fu)))] [] rs64 20 (l := [e91 fu,e91 fu]) ⟨g91 fu,g91 fu,trivial⟩
def rs59:List RVx := [(.tmp 4)]
def p59 (fu:Nat):(Int×(Int×(Bool×(Int×Unit))))×((Int×(Int×(Bool×(Int×Unit))))×Unit)→Option (Unit×Int) := fun ⟨⟨a,_,_,_,_⟩,⟨c,_,_,_,_⟩,_⟩ =>
Option.bind (p64 fu (a,c,())) fun ⟨_,f⟩ =>
some ((),f)
def e59 (fu:Nat):Ent := ⟨59,(.cons (.agg 4 (.cons hU (.cons hU (.cons (.hole .bool) (.cons hU .nil))))) (.cons (.agg 4 (.cons hU (.cons hU (.cons (.hole .bool) (.cons hU .nil))))) .nil)),.nil,hI,p59 fu⟩
theorem g59 (fu:Nat):(e59 fu).Good Tryz.prog := Q0d Q0c Tryz.func59 fu [(7,(.ent (e64 fu)))] [] rs59 10 (l := [e64 fu]) ⟨g64 fu,trivial⟩
def rs60:List RVx := [(.tmp 2)]
def p60 (_:Nat):Int×Unit→Option (Unit×Bool) := fun ⟨a,_⟩ =>
bif decide (a≥(1:Int)) then
 some ((),decide (a≤(9223372036854775807:Int)))
else
 some ((),false)
def e60 (fu:Nat):Ent := ⟨60,(.cons hU .nil),.nil,(.hole .bool),p60 fu⟩
theorem g60 (fu:Nat):(e60 fu).Good Tryz.prog := Q0d Q0c Tryz.func60 fu [] [] rs60 9 (l := []) trivial
def rs19:List RVx := [(.tmp 2)]
def p19 (fu:Nat):(List (D_api_Producer))×Unit→Option (Unit×Bool) := fun ⟨a,_⟩ =>
loopO (S := (Int×Unit)×Unit) fu (fun ⟨⟨c,_⟩,_⟩ =>
 bif decide (c<(a.length:Int)) then
 bif decide ((0:Int)≤c∧c<(a.length:Int)) then
 bif decide (c.toNat<a.length) then
 orK (E := (Bool×Unit)×Unit)
 (bif (c==(0:Int)) then
 some (.inl ((true,()),()))
 else
 bif decide ((0:Int)≤IntKind.wrap .i64 (c-(1:Int))∧IntKind.wrap .i64 (c-(1:Int))<(a.length:Int)) then
 bif decide (Int.toNat (IntKind.wrap .i64 (c-(1:Int)))<a.length) then
 Option.bind (p59 fu (((a.getD (Int.toNat (IntKind.wrap .i64 (c-(1:Int)))) (dflt T_api_Producer)).1,((a.getD (Int.toNat (IntKind.wrap .i64 (c-(1:Int)))) (dflt T_api_Producer)).2).1,(((a.getD (Int.toNat (IntKind.wrap .i64 (c-(1:Int)))) (dflt T_api_Producer)).2).2).1,(((a.getD (Int.toNat (IntKind.wrap .i64 (c-(1:Int)))) (dflt T_api_Producer)).2).2).2,()),((a.getD (c.toNat) (dflt T_api_Producer)).1,((a.getD (c.toNat) (dflt T_api_Producer)).2).1,(((a.getD (c.toNat) (dflt T_api_Producer)).2).2).1,(((a.getD (c.toNat) (dflt T_api_Producer)).2).2).2,()),())) fun ⟨_,f⟩ =>
 some (.inl ((decide (f<(0:Int)),()),()))
 else none
 else none)
 fun ⟨⟨h,_⟩,_⟩ =>
 bif (((a.getD (c.toNat) (dflt T_api_Producer)).1)==(0:Int)) then
 inrO (some ((),false))
 else
 Option.bind (p60 fu (((a.getD (c.toNat) (dflt T_api_Producer)).2).1,())) fun ⟨_,i⟩ =>
 bif !i then
 inrO (some ((),false))
 else
 bif !h then
 inrO (some ((),false))
 else
 bif !((((a.getD (c.toNat) (dflt T_api_Producer)).2).2).1) then
 bif (((((a.getD (c.toNat) (dflt T_api_Producer)).2).2).2) != (0:Int)) then
 inrO (some ((),false))
 else
 some (.inl ((IntKind.wrap .i64 (c+(1:Int)),()),()))
 else
 some (.inl ((IntKind.wrap .i64 (c+(1:Int)),()),()))
 else none
 else none
 else
 inrO (some ((),decide ((a.length:Int)≤(256:Int)))))
 (((0:Int),()),())
def e19 (fu:Nat):Ent := ⟨19,(.cons (.hole (.sl .any T_api_Producer)) .nil),.nil,(.hole .bool),p19 fu⟩
theorem g19 (fu:Nat):(e19 fu).Good Tryz.prog := Q0d Q0c Tryz.func19 fu [(20,(.ent (e59 fu))),(30,(.ent (e60 fu)))] [(3,⟨[8],(.cons hI .nil),[],.nil,[0,6,7],[]⟩),(8,⟨[5],(.cons (.hole .bool) .nil),[],.nil,[0,4,6,7,8],[128]⟩)] rs19 52 (l := [e59 fu,e60 fu]) ⟨g59 fu,g60 fu,trivial⟩
def rs61:List RVx := [(.tmp 2)]
def p61 (fu:Nat):ByteArray×Unit→Option (Unit×Bool) := fun ⟨a,_⟩ =>
loopO (S := (Int×Unit)×Unit) fu (fun ⟨⟨c,_⟩,_⟩ =>
 bif decide (c<(List.length (numsOf a):Int)) then
 bif decide ((0:Int)≤c∧c<(List.length (numsOf a):Int)) then
 bif decide (c.toNat<List.length (numsOf a)) then
 bif decide ((List.getD (numsOf a) (c.toNat) (dflt (.int .u8)))<(97:Int)) then
 bif decide ((List.getD (numsOf a) (c.toNat) (dflt (.int .u8)))<(48:Int)) then
 bif ((List.getD (numsOf a) (c.toNat) (dflt (.int .u8))) != (45:Int)) then
 bif ((List.getD (numsOf a) (c.toNat) (dflt (.int .u8))) != (95:Int)) then
 bif ((List.getD (numsOf a) (c.toNat) (dflt (.int .u8))) != (46:Int)) then
 inrO (some ((),false))
 else
 some (.inl ((IntKind.wrap .i64 (c+(1:Int)),()),()))
 else
 some (.inl ((IntKind.wrap .i64 (c+(1:Int)),()),()))
 else
 some (.inl ((IntKind.wrap .i64 (c+(1:Int)),()),()))
 else
 bif decide ((List.getD (numsOf a) (c.toNat) (dflt (.int .u8)))>(57:Int)) then
 bif ((List.getD (numsOf a) (c.toNat) (dflt (.int .u8))) != (45:Int)) then
 bif ((List.getD (numsOf a) (c.toNat) (dflt (.int .u8))) != (95:Int)) then
 bif ((List.getD (numsOf a) (c.toNat) (dflt (.int .u8))) != (46:Int)) then
 inrO (some ((),false))
 else
 some (.inl ((IntKind.wrap .i64 (c+(1:Int)),()),()))
 else
 some (.inl ((IntKind.wrap .i64 (c+(1:Int)),()),()))
 else
 some (.inl ((IntKind.wrap .i64 (c+(1:Int)),()),()))
 else
 some (.inl ((IntKind.wrap .i64 (c+(1:Int)),()),()))
 else
 bif decide ((List.getD (numsOf a) (c.toNat) (dflt (.int .u8)))>(122:Int)) then
 bif decide ((List.getD (numsOf a) (c.toNat) (dflt (.int .u8)))<(48:Int)) then
 bif ((List.getD (numsOf a) (c.toNat) (dflt (.int .u8))) != (45:Int)) then
 bif ((List.getD (numsOf a) (c.toNat) (dflt (.int .u8))) != (95:Int)) then
 bif ((List.getD (numsOf a) (c.toNat) (dflt (.int .u8))) != (46:Int)) then
 inrO (some ((),false))
 else
 some (.inl ((IntKind.wrap .i64 (c+(1:Int)),()),()))
 else
 some (.inl ((IntKind.wrap .i64 (c+(1:Int)),()),()))
 else
 some (.inl ((IntKind.wrap .i64 (c+(1:Int)),()),()))
 else
 bif decide ((List.getD (numsOf a) (c.toNat) (dflt (.int .u8)))>(57:Int)) then
 bif ((List.getD (numsOf a) (c.toNat) (dflt (.int .u8))) != (45:Int)) then
 bif ((List.getD (numsOf a) (c.toNat) (dflt (.int .u8))) != (95:Int)) then
 bif ((List.getD (numsOf a) (c.toNat) (dflt (.int .u8))) != (46:Int)) then
 inrO (some ((),false))
 else
 some (.inl ((IntKind.wrap .i64 (c+(1:Int)),()),()))
 else
 some (.inl ((IntKind.wrap .i64 (c+(1:Int)),()),()))
 else
 some (.inl ((IntKind.wrap .i64 (c+(1:Int)),()),()))
 else
 some (.inl ((IntKind.wrap .i64 (c+(1:Int)),()),()))
 else
 some (.inl ((IntKind.wrap .i64 (c+(1:Int)),()),()))
 else none
 else none
 else
 inrO (bif decide ((ByteArray.size a:Int)≥(1:Int)) then
 some ((),decide ((ByteArray.size a:Int)≤(32:Int)))
 else
 some ((),false)))
 (((0:Int),()),())
def e61 (fu:Nat):Ent := ⟨61,(.cons hT .nil),.nil,(.hole .bool),p61 fu⟩
theorem g61 (fu:Nat):(e61 fu).Good Tryz.prog := Q0d Q0c Tryz.func61 fu [] [(3,⟨[8],(.cons hI .nil),[],.nil,[0,6,7],[]⟩)] rs61 47 (l := []) trivial
def rs20:List RVx := [(.tmp 2)]
def p20 (fu:Nat):(List (D_runtime_errorAddressString))×Unit→Option (Unit×Bool) := fun ⟨a,_⟩ =>
loopO (S := (Int×Unit)×Unit) fu (fun ⟨⟨c,_⟩,_⟩ =>
 bif decide (c<(a.length:Int)) then
 bif decide ((0:Int)≤c∧c<(a.length:Int)) then
 bif decide (c.toNat<a.length) then
 Option.bind (p61 fu ((a.getD (c.toNat) (dflt T_runtime_errorAddressString)).1,())) fun ⟨_,f⟩ =>
 bif !f then
 inrO (some ((),false))
 else
 bif decide (c>(0:Int)) then
 bif decide ((0:Int)≤IntKind.wrap .i64 (c-(1:Int))∧IntKind.wrap .i64 (c-(1:Int))<(a.length:Int)) then
 bif decide (Int.toNat (IntKind.wrap .i64 (c-(1:Int)))<a.length) then
 bif !Op.bytesLess (ByteArray.toList ((a.getD (Int.toNat (IntKind.wrap .i64 (c-(1:Int)))) (dflt T_runtime_errorAddressString)).1)) (ByteArray.toList ((a.getD (c.toNat) (dflt T_runtime_errorAddressString)).1)) then
 inrO (some ((),false))
 else
 some (.inl ((IntKind.wrap .i64 (c+(1:Int)),()),()))
 else none
 else none
 else
 some (.inl ((IntKind.wrap .i64 (c+(1:Int)),()),()))
 else none
 else none
 else
 inrO (some ((),decide ((a.length:Int)≤(64:Int)))))
 (((0:Int),()),())
def e20 (fu:Nat):Ent := ⟨20,(.cons (.hole (.sl .any T_runtime_errorAddressString)) .nil),.nil,(.hole .bool),p20 fu⟩
theorem g20 (fu:Nat):(e20 fu).Good Tryz.prog := Q0d Q0c Tryz.func20 fu [(13,(.ent (e61 fu)))] [(3,⟨[7],(.cons hI .nil),[],.nil,[0,5,6],[]⟩)] rs20 35 (l := [e61 fu]) ⟨g61 fu,trivial⟩
def rs63:List RVx := [(.tmp 4)]
def p63 (fu:Nat):(Int×(Int×(Bool×(Int×Unit))))×(Int×Unit)→Option (Unit×Int) := fun ⟨⟨a,_,_,_,_⟩,c,_⟩ =>
Option.bind (p64 fu (a,c,())) fun ⟨_,f⟩ =>
some ((),f)
def e63 (fu:Nat):Ent := ⟨63,(.cons (.agg 4 (.cons hU (.cons hU (.cons (.hole .bool) (.cons hU .nil))))) (.cons hU .nil)),.nil,hI,p63 fu⟩
theorem g63 (fu:Nat):(e63 fu).Good Tryz.prog := Q0d Q0c Tryz.func63 fu [(5,(.ent (e64 fu)))] [] rs63 9 (l := [e64 fu]) ⟨g64 fu,trivial⟩
def rs62:List RVx := [(.tmp 6),(.tmp 7)]
def p62 (fu:Nat):(List (D_api_Producer))×(Int×((Unit×Unit)×Unit))→Option (Unit×(Int×(Bool×Unit))) := fun ⟨a,c,⟨_,_⟩,_⟩ =>
loopO (S := (Int×(Int×Unit))×Unit) fu (fun ⟨⟨f,h,_⟩,_⟩ =>
 bif decide (f<h) then
 bif decide ((0:Int)≤IntKind.wrap .i64 (Int.fdiv (IntKind.wrap .u64 (IntKind.wrap .i64 (f+h))) (2 ^ (min (Int.toNat (1:Int)) (IntKind.bits .u64))))∧IntKind.wrap .i64 (Int.fdiv (IntKind.wrap .u64 (IntKind.wrap .i64 (f+h))) (2 ^ (min (Int.toNat (1:Int)) (IntKind.bits .u64))))<(a.length:Int)) then
 bif decide (Int.toNat (IntKind.wrap .i64 (Int.fdiv (IntKind.wrap .u64 (IntKind.wrap .i64 (f+h))) (2 ^ (min (Int.toNat (1:Int)) (IntKind.bits .u64)))))<a.length) then
 Option.bind (p63 fu (((a.getD (Int.toNat (IntKind.wrap .i64 (Int.fdiv (IntKind.wrap .u64 (IntKind.wrap .i64 (f+h))) (2 ^ (min (Int.toNat (1:Int)) (IntKind.bits .u64)))))) (dflt T_api_Producer)).1,((a.getD (Int.toNat (IntKind.wrap .i64 (Int.fdiv (IntKind.wrap .u64 (IntKind.wrap .i64 (f+h))) (2 ^ (min (Int.toNat (1:Int)) (IntKind.bits .u64)))))) (dflt T_api_Producer)).2).1,(((a.getD (Int.toNat (IntKind.wrap .i64 (Int.fdiv (IntKind.wrap .u64 (IntKind.wrap .i64 (f+h))) (2 ^ (min (Int.toNat (1:Int)) (IntKind.bits .u64)))))) (dflt T_api_Producer)).2).2).1,(((a.getD (Int.toNat (IntKind.wrap .i64 (Int.fdiv (IntKind.wrap .u64 (IntKind.wrap .i64 (f+h))) (2 ^ (min (Int.toNat (1:Int)) (IntKind.bits .u64)))))) (dflt T_api_Producer)).2).2).2,()),c,())) fun ⟨_,i⟩ =>
 bif decide (i<(0:Int)) then
 some (.inl ((IntKind.wrap .i64 ((IntKind.wrap .i64 (Int.fdiv (IntKind.wrap .u64 (IntKind.wrap .i64 (f+h))) (2 ^ (min (Int.toNat (1:Int)) (IntKind.bits .u64)))))+(1:Int)),h,()),()))
 else
 some (.inl ((f,IntKind.wrap .i64 (Int.fdiv (IntKind.wrap .u64 (IntKind.wrap .i64 (f+h))) (2 ^ (min (Int.toNat (1:Int)) (IntKind.bits .u64)))),()),()))
 else none
 else none
 else
 inrO (bif decide (f<(a.length:Int)) then
 bif decide ((0:Int)≤f∧f<(a.length:Int)) then
 bif decide (f.toNat<a.length) then
 Option.bind (p63 fu (((a.getD (f.toNat) (dflt T_api_Producer)).1,((a.getD (f.toNat) (dflt T_api_Producer)).2).1,(((a.getD (f.toNat) (dflt T_api_Producer)).2).2).1,(((a.getD (f.toNat) (dflt T_api_Producer)).2).2).2,()),c,())) fun ⟨_,j⟩ =>
 some ((),(f,(j==(0:Int)),()))
 else none
 else none
 else
 some ((),(f,false,()))))
 (((0:Int),(a.length:Int),()),())
def e62 (fu:Nat):Ent := ⟨62,(.cons (.hole (.sl .any T_api_Producer)) (.cons hU (.cons (.clo 63 0 .nil 0 .nil) .nil))),.nil,(.tup 2 (.cons hI (.cons (.hole .bool) .nil))),p62 fu⟩
theorem g62 (fu:Nat):(e62 fu).Good Tryz.prog := Q0d Q0c Tryz.func62 fu [(24,(.ent (e63 fu))),(42,(.ent (e63 fu)))] [(4,⟨[9,10],(.cons hI (.cons hI .nil)),[],.nil,[0,1,2,8],[]⟩)] rs62 49 (l := [e63 fu,e63 fu]) ⟨g63 fu,g63 fu,trivial⟩
def rs65:List RVx := [(.tmp 4)]
def p65 (fu:Nat):(ByteArray×(ByteArray×Unit))×(ByteArray×Unit)→Option (Unit×Bool) := fun ⟨⟨a,c,_⟩,f,_⟩ =>
Option.bind (p17 fu ((a,c,()),())) fun ⟨_,h⟩ =>
bif (h==(0:Int)) then
 Option.bind (p55 fu (f,())) fun ⟨_,i⟩ =>
 bif i then
 bif !Op.bytesLess (ByteArray.toList f) (ByteArray.toList a) then
 Option.bind (p56 fu ((a,c,()),())) fun ⟨_,⟨j,k,_⟩⟩ =>
 Option.bind (p57 fu ((j,k,()),f,())) fun ⟨_,l⟩ =>
 some ((),l)
 else
 some ((),false)
 else
 some ((),false)
else
 some ((),false)
def e65 (fu:Nat):Ent := ⟨65,(.cons (.agg 2 (.cons hT (.cons hT .nil))) (.cons hT .nil)),.nil,(.hole .bool),p65 fu⟩
theorem g65 (fu:Nat):(e65 fu).Good Tryz.prog := Q0d Q0c Tryz.func65 fu [(3,(.ent (e17 fu))),(7,(.ent (e55 fu))),(17,(.ent (e56 fu))),(19,(.ent (e57 fu)))] [] rs65 24 (l := [e17 fu,e55 fu,e56 fu,e57 fu]) ⟨g17 fu,g55 fu,g56 fu,g57 fu,trivial⟩
def rs21:List RVx := [(.tmp 2)]
def p21 (fu:Nat):(Z4)×Unit→Option (Unit×Bool) := fun ⟨⟨a,c,_,_,f,h,_,_⟩,_⟩ =>
bif decide ((0:Int)≤(h.length:Int)∧((h.length:Int):Int)≤(h.length:Int)∧((h.length:Int):Int)≤9223372036854775807∧(8:Int) * (h.length:Int)≤140737488355328) then
 bif decide (Int.toNat (h.length:Int)=List.length (List.replicate (Int.toNat (h.length:Int)) (0:Int):List Int)) then
 loopO (S := ((List Int)×(Int×Unit))×Unit) fu (fun ⟨⟨i,j,_⟩,_⟩ =>
 bif decide (j<(f.length:Int)) then
 bif decide ((0:Int)≤j∧j<(f.length:Int)) then
 bif decide (j.toNat<f.length) then
 Option.bind (p62 fu (h,((((f.getD (j.toNat) (dflt T_api_Record)).2).2).2).1,((),()),())) fun ⟨_,⟨k,l,_⟩⟩ =>
 bif !l then
 inrO (some ((),false))
 else
 Option.bind (p65 fu ((a,c,()),((f.getD (j.toNat) (dflt T_api_Record)).2).1,())) fun ⟨_,m⟩ =>
 bif !m then
 inrO (some ((),false))
 else
 bif decide ((0:Int)≤k∧k<(i.length:Int)) then
 bif decide (k.toNat<i.length) then
 bif decide ((((((f.getD (j.toNat) (dflt T_api_Record)).2).2).2).2)≤(i.getD (k.toNat) (dflt (.int .u64)))) then
 inrO (some ((),false))
 else
 bif decide ((0:Int)≤k∧k<(h.length:Int)) then
 bif decide (k.toNat<h.length) then
 bif decide ((((((f.getD (j.toNat) (dflt T_api_Record)).2).2).2).2)>(((h.getD (k.toNat) (dflt T_api_Producer)).2).1)) then
 inrO (some ((),false))
 else
 bif decide ((0:Int)≤k∧k<(i.length:Int)) then
 bif decide (k.toNat<i.length) then
 bif decide (i.length=List.length (List.set i (k.toNat) (((((f.getD (j.toNat) (dflt T_api_Record)).2).2).2).2))) then
 some (.inl (((List.set i (k.toNat) (((((f.getD (j.toNat) (dflt T_api_Record)).2).2).2).2)),IntKind.wrap .i64 (j+(1:Int)),()),()))
 else none
 else none
 else none
 else none
 else none
 else none
 else none
 else none
 else none
 else
 inrO (some ((),true)))
 (((List.replicate (Int.toNat (h.length:Int)) (0:Int):List Int),(0:Int),()),())
 else none
else none
def e21 (fu:Nat):Ent := ⟨21,(.cons Y6 .nil),.nil,(.hole .bool),p21 fu⟩
theorem g21 (fu:Nat):(e21 fu).Good Tryz.prog := Q0d Q0c Tryz.func21 fu [(5,(.ty (.int .u64))),(20,(.ent (e62 fu))),(33,(.ent (e65 fu)))] [(4,⟨[3,15],(.cons (.own .own 24 (.int .u64)) (.cons hI .nil)),[],.nil,[1,13,14],[0]⟩)] rs21 63 (l := [e62 fu,e65 fu]) ⟨g62 fu,g65 fu,trivial⟩
def rs22:List RVx := [(.tmp 2)]
def p22 (fu:Nat):(Z4)×Unit→Option (Unit×Bool) := fun ⟨⟨_,_,_,_,a,c,_,_⟩,_⟩ =>
loopO (S := (Int×Unit)×Unit) fu (fun ⟨⟨f,_⟩,_⟩ =>
 bif decide (f<(c.length:Int)) then
 bif decide ((0:Int)≤f∧f<(c.length:Int)) then
 bif decide (f.toNat<c.length) then
 bif !((((c.getD (f.toNat) (dflt T_api_Producer)).2).2).1) then
 some (.inl ((IntKind.wrap .i64 (f+(1:Int)),()),()))
 else
 bif decide (((((c.getD (f.toNat) (dflt T_api_Producer)).2).2).2)≥(IntKind.wrap .u64 (a.length:Int))) then
 inrO (some ((),false))
 else
 bif decide ((0:Int)≤(((c.getD (f.toNat) (dflt T_api_Producer)).2).2).2∧(((c.getD (f.toNat) (dflt T_api_Producer)).2).2).2<(a.length:Int)) then
 bif decide (Int.toNat ((((c.getD (f.toNat) (dflt T_api_Producer)).2).2).2)<a.length) then
 bif ((((((a.getD (Int.toNat ((((c.getD (f.toNat) (dflt T_api_Producer)).2).2).2)) (dflt T_api_Record)).2).2).2).1) != ((c.getD (f.toNat) (dflt T_api_Producer)).1)) then
 inrO (some ((),false))
 else
 bif ((((((a.getD (Int.toNat ((((c.getD (f.toNat) (dflt T_api_Producer)).2).2).2)) (dflt T_api_Record)).2).2).2).2) != (((c.getD (f.toNat) (dflt T_api_Producer)).2).1)) then
 inrO (some ((),false))
 else
 some (.inl ((IntKind.wrap .i64 (f+(1:Int)),()),()))
 else none
 else none
 else none
 else none
 else
 inrO (some ((),true)))
 (((0:Int),()),())
def e22 (fu:Nat):Ent := ⟨22,(.cons Y6 .nil),.nil,(.hole .bool),p22 fu⟩
theorem g22 (fu:Nat):(e22 fu).Good Tryz.prog := Q0d Q0c Tryz.func22 fu [] [(3,⟨[9],(.cons hI .nil),[],.nil,[1,7,8],[0]⟩)] rs22 42 (l := []) trivial
def rs23:List RVx := [(.tmp 2)]
def p23 (fu:Nat):(Z4)×Unit→Option (Unit×Bool) := fun ⟨⟨_,_,_,_,a,_,c,_⟩,_⟩ =>
loopO (S := (Int×Unit)×Unit) fu (fun ⟨⟨f,_⟩,_⟩ =>
 bif decide (f<(c.length:Int)) then
 bif decide ((0:Int)≤f∧f<(c.length:Int)) then
 bif decide (f.toNat<c.length) then
 bif decide (((c.getD (f.toNat) (dflt T_runtime_errorAddressString)).2)>(IntKind.wrap .u64 (a.length:Int))) then
 inrO (some ((),false))
 else
 some (.inl ((IntKind.wrap .i64 (f+(1:Int)),()),()))
 else none
 else none
 else
 inrO (some ((),true)))
 (((0:Int),()),())
def e23 (fu:Nat):Ent := ⟨23,(.cons Y6 .nil),.nil,(.hole .bool),p23 fu⟩
theorem g23 (fu:Nat):(e23 fu).Good Tryz.prog := Q0d Q0c Tryz.func23 fu [] [(3,⟨[8],(.cons hI .nil),[],.nil,[1,6,7],[0]⟩)] rs23 20 (l := []) trivial
def rs5:List RVx := [(.tmp 2)]
def p5 (fu:Nat):(Z4)×Unit→Option (Unit×Int) := fun ⟨⟨a,c,f,h,i,j,k,_⟩,_⟩ =>
orK (E := (Bool×Unit)×Unit)
 (Option.bind (p17 fu ((a,c,()),())) fun ⟨_,l⟩ =>
 bif (l==(0:Int)) then
 bif (f != (0:Int)) then
 Option.bind (p18 fu (i,())) fun ⟨_,m⟩ =>
 bif m then
 Option.bind (p19 fu (j,())) fun ⟨_,n⟩ =>
 bif n then
 Option.bind (p20 fu (k,())) fun ⟨_,o⟩ =>
 bif o then
 Option.bind (p21 fu ((a,c,f,h,i,j,k,()),())) fun ⟨_,q⟩ =>
 bif q then
 Option.bind (p22 fu ((a,c,f,h,i,j,k,()),())) fun ⟨_,s⟩ =>
 bif s then
 Option.bind (p23 fu ((a,c,f,h,i,j,k,()),())) fun ⟨_,t⟩ =>
 some (.inl ((t,()),()))
 else
 some (.inl ((false,()),()))
 else
 some (.inl ((false,()),()))
 else
 some (.inl ((false,()),()))
 else
 some (.inl ((false,()),()))
 else
 some (.inl ((false,()),()))
 else
 some (.inl ((false,()),()))
 else
 some (.inl ((false,()),())))
 fun ⟨⟨u,_⟩,_⟩ =>
bif !u then
 some ((),(165:Int))
else
 some ((),(0:Int))
def e5 (fu:Nat):Ent := ⟨5,(.cons Y6 .nil),.nil,hI,p5 fu⟩
theorem g5 (fu:Nat):(e5 fu).Good Tryz.prog := Q0d Q0c Tryz.func5 fu [(4,(.ent (e17 fu))),(14,(.ent (e18 fu))),(19,(.ent (e19 fu))),(24,(.ent (e20 fu))),(28,(.ent (e21 fu))),(32,(.ent (e22 fu))),(36,(.ent (e23 fu)))] [(1,⟨[3],(.cons (.hole .bool) .nil),[],.nil,[],[]⟩)] rs5 42 (l := [e17 fu,e18 fu,e19 fu,e20 fu,e21 fu,e22 fu,e23 fu]) ⟨g17 fu,g18 fu,g19 fu,g20 fu,g21 fu,g22 fu,g23 fu,trivial⟩
def rs14:List RVx := [(.cell 4 true 7),(.tmp 5)]
def p14 (fu:Nat):(ByteArray×(ByteArray×Unit))×(Int×Unit)→Option (Unit×((Z4)×(Int×Unit))) := fun ⟨⟨a,c,_⟩,f,_⟩ =>
Option.bind (p5 fu ((a,c,f,(0:Int),[],[],[],()),())) fun ⟨_,h⟩ =>
bif (h != (0:Int)) then
 some ((),(((⟨#[]⟩:ByteArray),(⟨#[]⟩:ByteArray),(0:Int),(0:Int),[],[],[],()),h,()))
else
 some ((),((a,c,f,(0:Int),[],[],[],()),(0:Int),()))
def e14 (fu:Nat):Ent := ⟨14,(.cons (.agg 2 (.cons hT (.cons hT .nil))) (.cons hU .nil)),.nil,(.tup 2 (.cons Y7 (.cons hI .nil))),p14 fu⟩
theorem g14 (fu:Nat):(e14 fu).Good Tryz.prog := Q0d Q0c Tryz.func14 fu [(9,(.ent (e5 fu)))] [] rs14 18 (l := [e5 fu]) ⟨g5 fu,trivial⟩
def rs16:List RVx := [(.cell 4 true 10)]
def p16 (_:Nat):Int×(ByteArray×Unit)→Option (Unit×(Int×(Int×(Int×(Int×(ByteArray×((List Int)×(Int×(Int×(ByteArray×(Int×Unit))))))))))) := fun ⟨a,c,_⟩ =>
bif decide (1=List.length ([(118:Int)])∧0<1) then
 some ((),((1:Int),(1:Int),(7:Int),a,c,[(118:Int)],(0:Int),(0:Int),(⟨#[]⟩:ByteArray),(0:Int),()))
else none
def e16 (fu:Nat):Ent := ⟨16,(.cons hU (.cons hT .nil)),.nil,Y8,p16 fu⟩
theorem g16 (fu:Nat):(e16 fu).Good Tryz.prog := Q0d Q0c Tryz.func16 fu [(3,(.ty (.int .u8)))] [] rs16 10 (l := []) trivial
def rs92:List RVx := [(.tmp 2)]
def p92 (_:Nat):Int×Unit→Option (Unit×((List Int)×Unit)) := fun ⟨a,_⟩ =>
bif decide ((0:Int)≤0∧(0:Int)≤a∧(a:Int)≤9223372036854775807∧(1:Int) * a≤140737488355328) then
 bif decide (0=List.length (List.replicate 0 (0:Int):List Int)) then
 some ((),((List.replicate 0 (0:Int):List Int),()))
 else none
else none
def e92 (fu:Nat):Ent := ⟨92,(.cons hI .nil),.nil,(.box 166 1 (.cons (.own .app 5 (.int .u8)) .nil)),p92 fu⟩
theorem g92 (fu:Nat):(e92 fu).Good Tryz.prog := Q0d Q0c Tryz.func92 fu [(2,(.ty (.int .u8)))] [] rs92 6 (l := []) trivial
def rs95:List RVx := [(.tmp 4)]
def p95 (_:Nat):((List Int)×Unit)×((List Int)×Unit)→Option ((((List Int)×Unit)×(Unit×Unit))×(List Int)) := fun ⟨⟨a,_⟩,c,_⟩ =>
bif ((c.length:Int)==(0:Int)) then
 bif decide (a.length=a.length) then
 some (((a,()),(),()),[])
 else none
else
 bif decide (a.length=a.length) then
 bif decide (a.length+c.length≤maxLen∧(a.length+c.length) * 1≤140737488355328) then
 bif decide ((0:Int)≤((List.length (a ++ c)):Int)) then
 bif decide ((0:Int)≤((List.length (a ++ c)):Int)) then
 bif decide ((0:Int)≤((a.length):Int)) then
 bif decide (Int.toNat ((a.length):Int)≤Int.toNat ((List.length (a ++ c)):Int)∧Int.toNat ((List.length (a ++ c)):Int)≤Int.toNat ((List.length (a ++ c)):Int)∧Int.toNat ((List.length (a ++ c)):Int)≤List.length (a ++ c)∧0+(List.length (a ++ c))≤List.length (a ++ c)) then
 bif decide (List.length (a ++ c)=List.length (a ++ c)) then
 some ((((a ++ c),()),(),()),slice' (a ++ c) (Int.toNat ((a.length):Int)) (some (Int.toNat ((List.length (a ++ c)):Int))))
 else none
 else none
 else none
 else none
 else none
 else none
 else none
def e95 (fu:Nat):Ent := ⟨95,(.cons (.box 166 1 (.cons (.own .app 5 (.int .u8)) .nil)) (.cons (.hole (.sl .any (.int .u8))) .nil)),(.cons (.agg 1 (.cons (.own .app 5 (.int .u8)) .nil)) (.cons .dead .nil)),(.hole (.sl .new (.int .u8))),p95 fu⟩
theorem g95 (fu:Nat):(e95 fu).Good Tryz.prog := Q0d Q0c Tryz.func95 fu [(15,(.ty (.int .u8)))] [] rs95 32 (l := []) trivial
def rs94:List RVx := [(.cell 3 true 5)]
def p94 (fu:Nat):(Int×(ByteArray×((List Int)×(Int×(Int×Unit)))))×((((List Int)×Unit)×Unit)×Unit)→Option (((Unit×Unit)×(((List Int)×Unit)×(Unit×Unit)))×(Int×(ByteArray×((List Int)×(Int×(Int×Unit)))))) := fun ⟨⟨a,c,f,h,i,_⟩,⟨⟨j,_⟩,_⟩,_⟩ =>
bif decide (j.length=j.length) then
 Option.bind (p95 fu ((j,()),f,())) fun ⟨⟨⟨k,_⟩,_,_⟩,l⟩ =>
 bif decide (k.length=k.length) then
 some ((((),()),(k,()),(),()),(a,c,l,h,i,()))
 else none
else none
def e94 (fu:Nat):Ent := ⟨94,(.cons Y5 (.cons (.box 144 1 (.cons (.box 166 1 (.cons (.own .app 5 (.int .u8)) .nil)) .nil)) .nil)),(.cons (.agg 1 (.cons (.ptr 1) .nil)) (.cons (.agg 1 (.cons (.own .app 5 (.int .u8)) .nil)) (.cons .dead .nil))),Y9,p94 fu⟩
theorem g94 (fu:Nat):(e94 fu).Good Tryz.prog := Q0d Q0c Tryz.func94 fu [(5,(.ent (e95 fu)))] [] rs94 10 (l := [e95 fu]) ⟨g95 fu,trivial⟩
def rs93:List RVx := [(.tmp 4)]
def p93 (fu:Nat):(List (D_api_Record))×((Unit×((((List Int)×Unit)×Unit)×Unit))×Unit)→Option (((Unit×Unit)×(((List Int)×Unit)×(Unit×Unit)))×(List (D_api_Record))) := fun ⟨a,⟨_,⟨⟨⟨c,_⟩,_⟩,_⟩⟩,_⟩ =>
bif ((a.length:Int)==(0:Int)) then
 bif decide (c.length=c.length) then
 some ((((),()),(c,()),(),()),[])
 else none
else
 bif decide ((0:Int)≤(a.length:Int)∧((a.length:Int):Int)≤(a.length:Int)∧((a.length:Int):Int)≤9223372036854775807∧(64:Int) * (a.length:Int)≤140737488355328) then
 bif decide (Int.toNat (a.length:Int)=List.length (List.replicate (Int.toNat (a.length:Int)) ((0:Int),(⟨#[]⟩:ByteArray),[],(0:Int),(0:Int)):List (D_api_Record))) then
 bif decide (c.length=c.length) then
 loopO (S := ((List (D_api_Record))×(Int×Unit))×((Unit×Unit)×(((List Int)×Unit)×Unit))) fu (fun ⟨⟨f,h,_⟩,⟨⟨_,_⟩,⟨i,_⟩,_⟩⟩ =>
 bif decide (h<(a.length:Int)) then
 bif decide ((0:Int)≤h∧h<(a.length:Int)) then
 bif decide (h.toNat<a.length) then
 bif decide (i.length=i.length) then
 Option.bind (p94 fu (((a.getD (h.toNat) (dflt T_api_Record)).1,((a.getD (h.toNat) (dflt T_api_Record)).2).1,(((a.getD (h.toNat) (dflt T_api_Record)).2).2).1,((((a.getD (h.toNat) (dflt T_api_Record)).2).2).2).1,((((a.getD (h.toNat) (dflt T_api_Record)).2).2).2).2,()),((i,()),()),())) fun ⟨⟨⟨_,_⟩,⟨j,_⟩,_,_⟩,⟨k,l,m,n,o,_⟩⟩ =>
 bif decide ((0:Int)≤h∧h<(f.length:Int)) then
 bif decide (h.toNat<f.length) then
 bif decide (f.length=List.length (List.set f (h.toNat) (k,l,m,n,o))) then
 bif decide (j.length=j.length) then
 some (.inl (((List.set f (h.toNat) (k,l,m,n,o)),IntKind.wrap .i64 (h+(1:Int)),()),(((),()),(j,()),())))
 else none
 else none
 else none
 else none
 else none
 else none
 else none
 else
 inrO (bif decide (i.length=i.length) then
 bif decide (f.length=f.length) then
 some ((((),()),(i,()),(),()),f)
 else none
 else none))
 (((List.replicate (Int.toNat (a.length:Int)) ((0:Int),(⟨#[]⟩:ByteArray),[],(0:Int),(0:Int)):List (D_api_Record)),(0:Int),()),(((),()),(c,()),()))
 else none
 else none
 else none
def e93 (fu:Nat):Ent := ⟨93,(.cons (.hole (.sl .any T_api_Record)) (.cons (.clo 94 0 .nil 1 (.cons (.box 144 1 (.cons (.box 166 1 (.cons (.own .app 5 (.int .u8)) .nil)) .nil)) .nil)) .nil)),(.cons (.agg 1 (.cons (.ptr 1) .nil)) (.cons (.agg 1 (.cons (.own .app 5 (.int .u8)) .nil)) (.cons .dead .nil))),(.own .own 49 T_api_Record_n),p93 fu⟩
theorem g93 (fu:Nat):(e93 fu).Good Tryz.prog := Q0d Q0c Tryz.func93 fu [(7,(.ty T_api_Record_n)),(23,(.ent (e94 fu)))] [(7,⟨[5,16],(.cons (.own .own 49 T_api_Record_n) (.cons hI .nil)),[(0,144,1),(1,166,1)],(.cons (.agg 1 (.cons (.ptr 1) .nil)) (.cons (.agg 1 (.cons (.own .app 5 (.int .u8)) .nil)) .nil)),[1,14,15],[2]⟩)] rs93 29 (l := [e94 fu]) ⟨g94 fu,trivial⟩
def rs70:List RVx := [(.tmp 2)]
def p70 (fu:Nat):(List (D_api_Record))×Unit→Option (Unit×(List (D_api_Record))) := fun ⟨a,_⟩ =>
loopO (S := (Int×(Int×Unit))×Unit) fu (fun ⟨⟨c,f,_⟩,_⟩ =>
 bif decide (f<(a.length:Int)) then
 bif decide ((0:Int)≤f∧f<(a.length:Int)) then
 bif decide (f.toNat<a.length) then
 some (.inl ((IntKind.wrap .i64 (c+(List.length ((((a.getD (f.toNat) (dflt T_api_Record)).2).2).1):Int)),IntKind.wrap .i64 (f+(1:Int)),()),()))
 else none
 else none
 else
 inrO (Option.bind (p92 fu (c,())) fun ⟨_,⟨h,_⟩⟩ =>
 bif decide (h.length=h.length) then
 Option.bind (p93 fu (a,((),(((h,()),()),())),())) fun ⟨⟨⟨_,_⟩,⟨_,_⟩,_,_⟩,i⟩ =>
 bif decide (i.length=i.length) then
 some ((),i)
 else none
 else none))
 (((0:Int),(0:Int),()),())
def e70 (fu:Nat):Ent := ⟨70,(.cons (.hole (.sl .any T_api_Record)) .nil),.nil,(.own .own 49 T_api_Record_n),p70 fu⟩
theorem g70 (fu:Nat):(e70 fu).Good Tryz.prog := Q0d Q0c Tryz.func70 fu [(20,(.ent (e92 fu))),(25,(.ent (e93 fu)))] [(4,⟨[3,8],(.cons hI (.cons hI .nil)),[],.nil,[0,7],[]⟩)] rs70 25 (l := [e92 fu,e93 fu]) ⟨g92 fu,g93 fu,trivial⟩
def rs71:List RVx := [(.tmp 2)]
def p71 (_:Nat):(List (D_api_Producer))×Unit→Option (Unit×(List (D_api_Producer))) := fun ⟨a,_⟩ =>
bif ((a.length:Int)==(0:Int)) then
 some ((),[])
else
 bif decide ((0:Int)≤(a.length:Int)∧((a.length:Int):Int)≤(a.length:Int)∧((a.length:Int):Int)≤9223372036854775807∧(32:Int) * (a.length:Int)≤140737488355328) then
 bif decide (Int.toNat (a.length:Int)=List.length (List.replicate (Int.toNat (a.length:Int)) ((0:Int),(0:Int),false,(0:Int)):List (D_api_Producer))) then
 bif decide (Int.toNat (a.length:Int)=List.length (copyL (List.replicate (Int.toNat (a.length:Int)) ((0:Int),(0:Int),false,(0:Int)):List (D_api_Producer)) 0 (Int.toNat (a.length:Int)) a)) then
 some ((),(copyL (List.replicate (Int.toNat (a.length:Int)) ((0:Int),(0:Int),false,(0:Int)):List (D_api_Producer)) 0 (Int.toNat (a.length:Int)) a))
 else none
 else none
 else none
def e71 (fu:Nat):Ent := ⟨71,(.cons (.hole (.sl .any T_api_Producer)) .nil),.nil,(.own .own 62 T_api_Producer),p71 fu⟩
theorem g71 (fu:Nat):(e71 fu).Good Tryz.prog := Q0d Q0c Tryz.func71 fu [(7,(.ty T_api_Producer))] [] rs71 14 (l := []) trivial
def rs72:List RVx := [(.tmp 2)]
def p72 (_:Nat):(List (D_runtime_errorAddressString))×Unit→Option (Unit×(List (D_runtime_errorAddressString))) := fun ⟨a,_⟩ =>
bif ((a.length:Int)==(0:Int)) then
 some ((),[])
else
 bif decide ((0:Int)≤(a.length:Int)∧((a.length:Int):Int)≤(a.length:Int)∧((a.length:Int):Int)≤9223372036854775807∧(24:Int) * (a.length:Int)≤140737488355328) then
 bif decide (Int.toNat (a.length:Int)=List.length (List.replicate (Int.toNat (a.length:Int)) ((⟨#[]⟩:ByteArray),(0:Int)):List (D_runtime_errorAddressString))) then
 bif decide (Int.toNat (a.length:Int)=List.length (copyL (List.replicate (Int.toNat (a.length:Int)) ((⟨#[]⟩:ByteArray),(0:Int)):List (D_runtime_errorAddressString)) 0 (Int.toNat (a.length:Int)) a)) then
 some ((),(copyL (List.replicate (Int.toNat (a.length:Int)) ((⟨#[]⟩:ByteArray),(0:Int)):List (D_runtime_errorAddressString)) 0 (Int.toNat (a.length:Int)) a))
 else none
 else none
 else none
def e72 (fu:Nat):Ent := ⟨72,(.cons (.hole (.sl .any T_runtime_errorAddressString)) .nil),.nil,(.own .own 64 T_runtime_errorAddressString),p72 fu⟩
theorem g72 (fu:Nat):(e72 fu).Good Tryz.prog := Q0d Q0c Tryz.func72 fu [(7,(.ty T_runtime_errorAddressString))] [] rs72 14 (l := []) trivial
def rs42:List RVx := [(.cell 2 true 7)]
def p42 (fu:Nat):(Z4)×Unit→Option (Unit×(ByteArray×(ByteArray×(Int×(Int×((List (D_api_Record))×((List (D_api_Producer))×((List (D_runtime_errorAddressString))×Unit)))))))) := fun ⟨⟨a,c,f,h,i,j,k,_⟩,_⟩ =>
Option.bind (p70 fu (i,())) fun ⟨_,l⟩ =>
Option.bind (p71 fu (j,())) fun ⟨_,m⟩ =>
Option.bind (p72 fu (k,())) fun ⟨_,n⟩ =>
bif decide (l.length=l.length) then
 bif decide (m.length=m.length) then
 bif decide (n.length=n.length) then
 some ((),(a,c,f,h,l,m,n,()))
 else none
 else none
else none
def e42 (fu:Nat):Ent := ⟨42,(.cons Y6 .nil),.nil,Y10,p42 fu⟩
theorem g42 (fu:Nat):(e42 fu).Good Tryz.prog := Q0d Q0c Tryz.func42 fu [(4,(.ent (e70 fu))),(9,(.ent (e71 fu))),(14,(.ent (e72 fu)))] [] rs42 16 (l := [e70 fu,e71 fu,e72 fu]) ⟨g70 fu,g71 fu,g72 fu,trivial⟩
def rs116:List RVx := [(.tmp 3)]
def p116 (_:Nat):(Int×(Int×(Bool×(Int×Unit))))×((Int×Unit)×Unit)→Option (Unit×Bool) := fun ⟨⟨a,_,_,_,_⟩,⟨c,_⟩,_⟩ =>
some ((),(a==c))
def e116 (fu:Nat):Ent := ⟨116,(.cons (.agg 4 (.cons hU (.cons hU (.cons (.hole .bool) (.cons hU .nil))))) (.cons (.look (.cons hU .nil)) .nil)),.nil,(.hole .bool),p116 fu⟩
theorem g116 (fu:Nat):(e116 fu).Good Tryz.prog := Q0d Q0c Tryz.func116 fu [] [] rs116 8 (l := []) trivial
def rs115:List RVx := [(.tmp 4),(.tmp 5)]
def p115 (fu:Nat):(List (D_api_Producer))×((Unit×((Int×Unit)×Unit))×Unit)→Option (((Int×Unit)×Unit)×(Int×(Bool×Unit))) := fun ⟨a,⟨_,⟨⟨c,_⟩,_⟩⟩,_⟩ =>
loopO (S := (Int×Unit)×Unit) fu (fun ⟨⟨f,_⟩,_⟩ =>
 bif decide (f<(a.length:Int)) then
 bif decide ((0:Int)≤f∧f<(a.length:Int)) then
 bif decide (f.toNat<a.length) then
 Option.bind (p116 fu (((a.getD (f.toNat) (dflt T_api_Producer)).1,((a.getD (f.toNat) (dflt T_api_Producer)).2).1,(((a.getD (f.toNat) (dflt T_api_Producer)).2).2).1,(((a.getD (f.toNat) (dflt T_api_Producer)).2).2).2,()),(c,()),())) fun ⟨_,h⟩ =>
 bif h then
 inrO (some (((c,()),()),(f,true,())))
 else
 some (.inl ((IntKind.wrap .i64 (f+(1:Int)),()),()))
 else none
 else none
 else
 inrO (some (((c,()),()),((a.length:Int),false,()))))
 (((0:Int),()),())
def e115 (fu:Nat):Ent := ⟨115,(.cons (.hole (.sl .any T_api_Producer)) (.cons (.clo 116 0 .nil 1 (.cons (.box 24 1 (.cons hU .nil)) .nil)) .nil)),(.cons (.agg 1 (.cons hU .nil)) .nil),(.tup 2 (.cons hI (.cons (.hole .bool) .nil))),p115 fu⟩
theorem g115 (fu:Nat):(e115 fu).Good Tryz.prog := Q0d Q0c Tryz.func115 fu [(14,(.ent (e116 fu)))] [(3,⟨[10],(.cons hI .nil),[],.nil,[0,1,8,9],[0]⟩)] rs115 22 (l := [e116 fu]) ⟨g116 fu,trivial⟩
def rs110:List RVx := [(.tmp 6),(.tmp 7)]
def p110 (fu:Nat):(List (D_api_Producer))×(Int×(Int×Unit))→Option (Unit×(Int×(Int×Unit))) := fun ⟨a,c,f,_⟩ =>
bif (c==(0:Int)) then
 some ((),((4:Int),(0:Int),()))
else
 Option.bind (p60 fu (f,())) fun ⟨_,h⟩ =>
 bif !h then
 some ((),((4:Int),(0:Int),()))
 else
 Option.bind (p115 fu (a,((),((c,()),())),())) fun ⟨⟨⟨_,_⟩,_⟩,⟨i,j,_⟩⟩ =>
 orK (E := (Bool×Unit)×Unit)
 (bif !j then
 some (.inl ((true,()),()))
 else
 bif decide ((0:Int)≤i∧i<(a.length:Int)) then
 bif decide (i.toNat<a.length) then
 some (.inl ((decide (f>(((a.getD (i.toNat) (dflt T_api_Producer)).2).1)),()),()))
 else none
 else none)
 fun ⟨⟨k,_⟩,_⟩ =>
 bif k then
 some ((),((1:Int),(0:Int),()))
 else
 orK (E := (Bool×Unit)×Unit)
 (bif decide ((0:Int)≤i∧i<(a.length:Int)) then
 bif decide (i.toNat<a.length) then
 bif (f==(((a.getD (i.toNat) (dflt T_api_Producer)).2).1)) then
 bif decide ((0:Int)≤i∧i<(a.length:Int)) then
 bif decide (i.toNat<a.length) then
 some (.inl (((((a.getD (i.toNat) (dflt T_api_Producer)).2).2).1,()),()))
 else none
 else none
 else
 some (.inl ((false,()),()))
 else none
 else none)
 fun ⟨⟨l,_⟩,_⟩ =>
 bif l then
 bif decide ((0:Int)≤i∧i<(a.length:Int)) then
 bif decide (i.toNat<a.length) then
 some ((),((2:Int),(((a.getD (i.toNat) (dflt T_api_Producer)).2).2).2,()))
 else none
 else none
 else
 some ((),((3:Int),(0:Int),()))
def e110 (fu:Nat):Ent := ⟨110,(.cons (.hole (.sl .any T_api_Producer)) (.cons hU (.cons hU .nil))),.nil,(.tup 2 (.cons hI (.cons hU .nil))),p110 fu⟩
theorem g110 (fu:Nat):(e110 fu).Good Tryz.prog := Q0d Q0c Tryz.func110 fu [(7,(.ent (e60 fu))),(14,(.ent (e115 fu)))] [(6,⟨[23],(.cons (.hole .bool) .nil),[],.nil,[0,2,8],[]⟩),(8,⟨[35],(.cons (.hole .bool) .nil),[],.nil,[0,8],[]⟩)] rs110 55 (l := [e60 fu,e115 fu]) ⟨g60 fu,g115 fu,trivial⟩
def rs96:List RVx := [(.tmp 2)]
def p96 (fu:Nat):(Z11)×Unit→Option (Unit×Bool) := fun ⟨⟨_,_,a,c,_,_,_,_,_,_,_⟩,_⟩ =>
Option.bind (p110 fu ([],a,c,())) fun ⟨_,⟨f,_,_⟩⟩ =>
some ((),(f != (4:Int)))
def e96 (fu:Nat):Ent := ⟨96,(.cons Y8 .nil),.nil,(.hole .bool),p96 fu⟩
theorem g96 (fu:Nat):(e96 fu).Good Tryz.prog := Q0d Q0c Tryz.func96 fu [(6,(.ent (e110 fu)))] [] rs96 15 (l := [e110 fu]) ⟨g110 fu,trivial⟩
def rs73:List RVx := [(.tmp 2)]
def p73 (fu:Nat):(Z11)×Unit→Option (Unit×Bool) := fun ⟨⟨a,c,f,h,i,j,k,l,m,n,_⟩,_⟩ =>
orK (E := Unit×Unit)
 (orK (E := Unit×Unit)
 (bif (a==(1:Int)) then
 Option.bind (p96 fu ((a,c,f,h,i,j,k,l,m,n,()),())) fun ⟨_,o⟩ =>
 bif o then
 bif decide ((ByteArray.size i:Int)≤(32:Int)) then
 inrO (inrO (some ((),decide ((j.length:Int)≤(256:Int)))))
 else
 inrO (inrO (some ((),false)))
 else
 inrO (inrO (some ((),false)))
 else
 bif (a==(2:Int)) then
 bif decide (l≥(1:Int)) then
 inrO (inrO (some ((),decide (l≤(64:Int)))))
 else
 inrO (inrO (some ((),false)))
 else
 bif (a==(3:Int)) then
 Option.bind (p96 fu ((a,c,f,h,i,j,k,l,m,n,()),())) fun ⟨_,q⟩ =>
 bif !q then
 inrO (inrO (some ((),false)))
 else
 some (.inl ((),()))
 else
 bif (a==(4:Int)) then
 some (.inl ((),()))
 else
 bif (a==(5:Int)) then
 inrO (some (.inl ((),())))
 else
 bif (a==(6:Int)) then
 inrO (some (.inl ((),())))
 else
 inrO (inrO (some ((),false))))
 fun ⟨_,_⟩ =>
 Option.bind (p61 fu (m,())) fun ⟨_,s⟩ =>
 inrO (some ((),s)))
 fun ⟨_,_⟩ =>
some ((),(n != (0:Int)))
def e73 (fu:Nat):Ent := ⟨73,(.cons Y8 .nil),.nil,(.hole .bool),p73 fu⟩
theorem g73 (fu:Nat):(e73 fu).Good Tryz.prog := Q0d Q0c Tryz.func73 fu [(17,(.ent (e96 fu))),(41,(.ent (e96 fu))),(46,(.ent (e61 fu)))] [(3,⟨[],.nil,[],.nil,[1],[0]⟩),(4,⟨[],.nil,[],.nil,[1],[0]⟩)] rs73 47 (l := [e96 fu,e96 fu,e61 fu]) ⟨g96 fu,g96 fu,g61 fu,trivial⟩
def rs74:List RVx := [(.tmp 4)]
def p74 (_:Nat):ByteArray×(Int×Unit)→Option (Unit×(Bool×((ByteArray×(Int×Unit))×Unit))) := fun ⟨a,c,_⟩ =>
bif (c==(0:Int)) then
 some ((),(false,dflt (.pair .str (.pair (.int .i64) .unit)),()))
else
 some ((),(true,(a,c,()),dflt .unit))
def e74 (fu:Nat):Ent := ⟨74,(.cons hT (.cons hI .nil)),.nil,(.alt true (.ifc 86 (.look (.cons hT (.cons hI .nil)))) (.nilv 1)),p74 fu⟩
theorem g74 (fu:Nat):(e74 fu).Good Tryz.prog := Q0d Q0c Tryz.func74 fu [] [] rs74 12 (l := []) trivial
def rs97:List RVx := [(.tmp 2)]
def p97_1 (fu:Nat):(Z0)×Unit→Option (((Z0)×(Unit×(Unit×(Unit×Unit))))×(Bool×((ByteArray×(Int×Unit))×Unit))) := fun ⟨⟨a,c,f,h,i,j,k,l,m,n,o,q,s,t,u,w,x,y,z,a0,_,_⟩,_⟩ =>
Option.bind (p65 fu ((a,c,()),q,())) fun ⟨_,c0⟩ =>
bif !c0 then
 Option.bind (p74 fu ((⟨#[97,32,107,101,121,32,111,102,32,97,110,111,116,104,101,114,32,114,97,110,103,101]⟩:ByteArray),(163:Int),())) fun ⟨_,⟨f0,⟨h0,i0,_⟩,_⟩⟩ =>
 bif decide (i.length=i.length) then
 bif decide (j.length=j.length) then
 bif decide (k.length=k.length) then
 some (((a,c,f,h,i,j,k,l,m,n,o,q,s,t,u,w,x,y,z,a0,(),()),(),(),(),()),(f0,(h0,i0,()),()))
 else none
 else none
 else none
else
 bif decide (i.length=i.length) then
 bif decide (j.length=j.length) then
 bif decide (k.length=k.length) then
 some (((a,c,f,h,i,j,k,l,m,n,o,q,s,t,u,w,x,y,z,a0,(),()),(),(),(),()),(false,dflt (.pair .str (.pair (.int .i64) .unit)),()))
 else none
 else none
 else none
def e97_1 (fu:Nat):Ent := ⟨97,(.cons Y12 .nil),(.cons Y13 (.cons .dead (.cons .dead (.cons .dead .nil)))),(.alt true (.ifc 86 (.look (.cons hT (.cons hI .nil)))) (.nilv 1)),p97_1 fu⟩
theorem K9o (fu:Nat):(e97_1 fu).Good Tryz.prog := Q0d Q0c Tryz.func97 fu [(11,(.ent (e65 fu))),(13,(.ent (e74 fu)))] [] rs97 16 (l := [e65 fu,e74 fu]) ⟨g65 fu,g74 fu,trivial⟩
def rs98:List RVx := [(.tmp 2)]
def p98 (fu:Nat):(Z0)×Unit→Option (((Z0)×(Unit×(Unit×(Unit×Unit))))×(Bool×(Unit×(Bool×(Unit×(ByteArray×(Int×Unit))))))) := fun ⟨⟨a,c,f,h,i,j,k,l,m,n,o,q,s,t,u,w,x,y,z,a0,_,_⟩,_⟩ =>
bif decide (j.length=j.length) then
 Option.bind (p110 fu (j,n,o,())) fun ⟨_,⟨c0,f0,_⟩⟩ =>
 bif (c0==(1:Int)) then
 bif decide (i.length=i.length) then
 bif decide (j.length=j.length) then
 bif decide (k.length=k.length) then
 some (((a,c,f,h,i,j,k,l,m,n,o,q,s,t,u,w,x,y,z,a0,(),()),(),(),(),()),(true,(),dflt (.pair .bool (.pair .unit (.pair .str (.pair (.int .i64) .unit))))))
 else none
 else none
 else none
 else
 bif (l==(3:Int)) then
 bif decide (i.length=i.length) then
 bif decide (j.length=j.length) then
 bif decide (k.length=k.length) then
 some (((a,c,f,h,i,j,k,l,m,n,o,q,s,t,u,w,x,(0:Int),(0:Int),true,(),()),(),(),(),()),(false,dflt .unit,(true,(),dflt (.pair .str (.pair (.int .i64) .unit)))))
 else none
 else none
 else none
 else
 bif (c0==(2:Int)) then
 bif decide (i.length=i.length) then
 bif decide (j.length=j.length) then
 bif decide (k.length=k.length) then
 some (((a,c,f,h,i,j,k,l,m,n,o,q,s,t,u,w,x,(0:Int),f0,true,(),()),(),(),(),()),(false,dflt .unit,(true,(),dflt (.pair .str (.pair (.int .i64) .unit)))))
 else none
 else none
 else none
 else
 orK (E := ((Bool×((ByteArray×(Int×Unit))×Unit))×Unit)×Unit)
 (Option.bind (p74 fu ((⟨#[97,32,110,117,109,98,101,114,32,116,104,97,116,32,119,101,110,116,32,98,121]⟩:ByteArray),(152:Int),())) fun ⟨_,⟨h0,⟨i0,j0,_⟩,_⟩⟩ =>
 some (.inl (((h0,(i0,j0,()),()),()),())))
 fun ⟨⟨⟨k0,⟨l0,m0,_⟩,_⟩,_⟩,_⟩ =>
 bif k0 then
 bif decide (i.length=i.length) then
 bif decide (j.length=j.length) then
 bif decide (k.length=k.length) then
 some (((a,c,f,h,i,j,k,l,m,n,o,q,s,t,u,w,x,y,z,a0,(),()),(),(),(),()),(false,dflt .unit,(false,dflt .unit,(l0,m0,()))))
 else none
 else none
 else none
 else
 bif decide (i.length=i.length) then
 bif decide (j.length=j.length) then
 bif decide (k.length=k.length) then
 some (((a,c,f,h,i,j,k,l,m,n,o,q,s,t,u,w,x,y,z,a0,(),()),(),(),(),()),(true,(),dflt (.pair .bool (.pair .unit (.pair .str (.pair (.int .i64) .unit))))))
 else none
 else none
 else none
else none
def e98 (fu:Nat):Ent := ⟨98,(.cons Y12 .nil),(.cons Y13 (.cons .dead (.cons .dead (.cons .dead .nil)))),(.alt false (.nilv 1) (.alt false (.cst 0 181) (.ifc 86 (.look (.cons hT (.cons hI .nil)))))),p98 fu⟩
theorem g98 (fu:Nat):(e98 fu).Good Tryz.prog := Q0d Q0c Tryz.func98 fu [(16,(.ent (e110 fu))),(48,(.ent (e74 fu)))] [(12,⟨[2],(.cons (.alt false (.ifc 86 (.look (.cons hT (.cons hI .nil)))) (.nilv 1)) .nil),[],.nil,[],[0,1,2,3,5,6,7]⟩)] rs98 45 (l := [e110 fu,e74 fu]) ⟨g110 fu,g74 fu,trivial⟩
def rs75:List RVx := [(.tmp 2)]
def p75 (fu:Nat):(Z0)×Unit→Option (((Z0)×(Unit×(Unit×(Unit×Unit))))×(Bool×((ByteArray×(Int×Unit))×(Bool×(Unit×Unit))))) := fun ⟨⟨a,c,f,h,i,j,k,l,m,n,o,q,s,t,u,w,x,y,z,a0,_,_⟩,_⟩ =>
orK (E := Unit×Unit)
 (orK (E := Unit×((Z0)×Unit))
 (orK (E := Unit×((Z0)×Unit))
 (bif (l==(1:Int)) then
 orK (E := ((Bool×((ByteArray×(Int×Unit))×Unit))×Unit)×((Z0)×Unit))
 (bif decide (i.length=i.length) then
 bif decide (j.length=j.length) then
 bif decide (k.length=k.length) then
 Option.bind (p97_1 fu ((a,c,f,h,i,j,k,l,m,n,o,q,s,t,u,w,x,y,z,a0,(),()),())) fun ⟨⟨⟨c0,f0,h0,i0,j0,k0,l0,m0,n0,o0,q0,s0,t0,u0,w0,x0,y0,z0,a1,c1,_,_⟩,_,_,_,_⟩,⟨f1,⟨h1,i1,_⟩,_⟩⟩ =>
 bif decide (j0.length=j0.length) then
 bif decide (k0.length=k0.length) then
 bif decide (l0.length=l0.length) then
 some (.inl (((f1,(h1,i1,()),()),()),((c0,f0,h0,i0,j0,k0,l0,m0,n0,o0,q0,s0,t0,u0,w0,x0,y0,z0,a1,c1,(),()),())))
 else none
 else none
 else none
 else none
 else none
 else none)
 fun ⟨⟨⟨j1,⟨k1,l1,_⟩,_⟩,_⟩,⟨⟨m1,n1,o1,q1,s1,t1,u1,w1,x1,y1,z1,a2,c2,f2,h2,i2,j2,k2,l2,m2,_,_⟩,_⟩⟩ =>
 bif j1 then
 inrO (inrO (inrO (bif decide (s1.length=s1.length) then
 bif decide (t1.length=t1.length) then
 bif decide (u1.length=u1.length) then
 some (((m1,n1,o1,q1,s1,t1,u1,w1,x1,y1,z1,a2,c2,f2,h2,i2,j2,k2,l2,m2,(),()),(),(),(),()),(true,(k1,l1,()),dflt (.pair .bool (.pair .unit .unit))))
 else none
 else none
 else none)))
 else
 bif decide (s1.length=s1.length) then
 bif decide (t1.length=t1.length) then
 bif decide (u1.length=u1.length) then
 some (.inl ((),((m1,n1,o1,q1,s1,t1,u1,w1,x1,y1,z1,a2,c2,f2,h2,i2,j2,k2,l2,m2,(),()),())))
 else none
 else none
 else none
 else
 bif (l==(3:Int)) then
 bif decide (i.length=i.length) then
 bif decide (j.length=j.length) then
 bif decide (k.length=k.length) then
 some (.inl ((),((a,c,f,h,i,j,k,l,m,n,o,q,s,t,u,w,x,y,z,a0,(),()),())))
 else none
 else none
 else none
 else
 bif (l==(2:Int)) then
 inrO (bif decide (i.length=i.length) then
 bif decide (j.length=j.length) then
 bif decide (k.length=k.length) then
 some (.inl ((),((a,c,f,h,i,j,k,l,m,n,o,q,s,t,u,w,x,y,z,a0,(),()),())))
 else none
 else none
 else none)
 else
 bif (l==(4:Int)) then
 inrO (bif decide (i.length=i.length) then
 bif decide (j.length=j.length) then
 bif decide (k.length=k.length) then
 some (.inl ((),((a,c,f,h,i,j,k,l,m,n,o,q,s,t,u,w,x,y,z,a0,(),()),())))
 else none
 else none
 else none)
 else
 bif (l==(5:Int)) then
 inrO (inrO (some (.inl ((),()))))
 else
 bif (l==(6:Int)) then
 inrO (inrO (some (.inl ((),()))))
 else
 inrO (inrO (inrO (bif decide (i.length=i.length) then
 bif decide (j.length=j.length) then
 bif decide (k.length=k.length) then
 some (((a,c,f,h,i,j,k,l,m,n,o,q,s,t,u,w,x,y,z,a0,(),()),(),(),(),()),(false,dflt (.pair .str (.pair (.int .i64) .unit)),(true,(),dflt .unit)))
 else none
 else none
 else none))))
 fun ⟨_,⟨⟨m1,n1,o1,q1,s1,t1,u1,w1,x1,y1,z1,a2,c2,f2,h2,i2,j2,k2,l2,m2,_,_⟩,_⟩⟩ =>
 orK (E := ((Z1)×Unit)×((Z0)×Unit))
 (bif decide (s1.length=s1.length) then
 bif decide (t1.length=t1.length) then
 bif decide (u1.length=u1.length) then
 Option.bind (p98 fu ((m1,n1,o1,q1,s1,t1,u1,w1,x1,y1,z1,a2,c2,f2,h2,i2,j2,k2,l2,m2,(),()),())) fun ⟨⟨⟨n2,o2,q2,s2,t2,u2,w2,x2,y2,z2,a3,c3,f3,h3,i3,j3,k3,l3,m3,n3,_,_⟩,_,_,_,_⟩,⟨o3,_,⟨q3,_,⟨s3,t3,_⟩⟩⟩⟩ =>
 bif o3 then
 bif decide (t2.length=t2.length) then
 bif decide (u2.length=u2.length) then
 bif decide (w2.length=w2.length) then
 some (.inl (((true,(),dflt (.pair .bool (.pair .unit (.pair .str (.pair (.int .i64) .unit))))),()),((n2,o2,q2,s2,t2,u2,w2,x2,y2,z2,a3,c3,f3,h3,i3,j3,k3,l3,m3,n3,(),()),())))
 else none
 else none
 else none
 else
 bif q3 then
 bif decide (t2.length=t2.length) then
 bif decide (u2.length=u2.length) then
 bif decide (w2.length=w2.length) then
 some (.inl (((false,dflt .unit,(true,(),dflt (.pair .str (.pair (.int .i64) .unit)))),()),((n2,o2,q2,s2,t2,u2,w2,x2,y2,z2,a3,c3,f3,h3,i3,j3,k3,l3,m3,n3,(),()),())))
 else none
 else none
 else none
 else
 bif decide (t2.length=t2.length) then
 bif decide (u2.length=u2.length) then
 bif decide (w2.length=w2.length) then
 some (.inl (((false,dflt .unit,(false,dflt .unit,(s3,t3,()))),()),((n2,o2,q2,s2,t2,u2,w2,x2,y2,z2,a3,c3,f3,h3,i3,j3,k3,l3,m3,n3,(),()),())))
 else none
 else none
 else none
 else none
 else none
 else none)
 fun ⟨⟨⟨u3,_,⟨w3,_,⟨x3,y3,_⟩⟩⟩,_⟩,⟨⟨m1,n1,o1,q1,s1,t1,u1,w1,x1,y1,z1,a2,c2,f2,h2,i2,j2,k2,l2,m2,_,_⟩,_⟩⟩ =>
 bif u3 then
 bif decide (s1.length=s1.length) then
 bif decide (t1.length=t1.length) then
 bif decide (u1.length=u1.length) then
 some (.inl ((),((m1,n1,o1,q1,s1,t1,u1,w1,x1,y1,z1,a2,c2,f2,h2,i2,j2,k2,l2,m2,(),()),())))
 else none
 else none
 else none
 else
 bif w3 then
 inrO (inrO (bif decide (s1.length=s1.length) then
 bif decide (t1.length=t1.length) then
 bif decide (u1.length=u1.length) then
 some (((m1,n1,o1,q1,s1,t1,u1,w1,x1,y1,z1,a2,c2,f2,h2,i2,j2,k2,l2,m2,(),()),(),(),(),()),(false,dflt (.pair .str (.pair (.int .i64) .unit)),(false,dflt .unit,())))
 else none
 else none
 else none))
 else
 inrO (inrO (bif decide (s1.length=s1.length) then
 bif decide (t1.length=t1.length) then
 bif decide (u1.length=u1.length) then
 some (((m1,n1,o1,q1,s1,t1,u1,w1,x1,y1,z1,a2,c2,f2,h2,i2,j2,k2,l2,m2,(),()),(),(),(),()),(true,(x3,y3,()),dflt (.pair .bool (.pair .unit .unit))))
 else none
 else none
 else none)))
 fun ⟨_,⟨⟨m1,n1,o1,q1,s1,t1,u1,w1,x1,y1,z1,a2,c2,f2,h2,i2,j2,k2,l2,m2,_,_⟩,_⟩⟩ =>
 bif (h != (0:Int)) then
 orK (E := ((Bool×((ByteArray×(Int×Unit))×Unit))×Unit)×Unit)
 (Option.bind (p74 fu ((⟨#[102,114,111,122,101,110]⟩:ByteArray),(164:Int),())) fun ⟨_,⟨z3,⟨a4,c4,_⟩,_⟩⟩ =>
 some (.inl (((z3,(a4,c4,()),()),()),())))
 fun ⟨⟨⟨f4,⟨h4,i4,_⟩,_⟩,_⟩,_⟩ =>
 bif f4 then
 inrO (bif decide (s1.length=s1.length) then
 bif decide (t1.length=t1.length) then
 bif decide (u1.length=u1.length) then
 some (((m1,n1,o1,q1,s1,t1,u1,w1,x1,y1,z1,a2,c2,f2,h2,i2,j2,k2,l2,m2,(),()),(),(),(),()),(true,(h4,i4,()),dflt (.pair .bool (.pair .unit .unit))))
 else none
 else none
 else none)
 else
 inrO (bif decide (s1.length=s1.length) then
 bif decide (t1.length=t1.length) then
 bif decide (u1.length=u1.length) then
 some (((m1,n1,o1,q1,s1,t1,u1,w1,x1,y1,z1,a2,c2,f2,h2,i2,j2,k2,l2,m2,(),()),(),(),(),()),(false,dflt (.pair .str (.pair (.int .i64) .unit)),(true,(),dflt .unit)))
 else none
 else none
 else none)
 else
 inrO (bif decide (s1.length=s1.length) then
 bif decide (t1.length=t1.length) then
 bif decide (u1.length=u1.length) then
 some (((m1,n1,o1,q1,s1,t1,u1,w1,x1,y1,z1,a2,c2,f2,h2,i2,j2,k2,l2,m2,(),()),(),(),(),()),(false,dflt (.pair .str (.pair (.int .i64) .unit)),(true,(),dflt .unit)))
 else none
 else none
 else none))
 fun ⟨_,_⟩ =>
bif (h != (0:Int)) then
 bif (h != x) then
 orK (E := ((Bool×((ByteArray×(Int×Unit))×Unit))×Unit)×Unit)
 (Option.bind (p74 fu ((⟨#[102,114,111,122,101,110,32,98,121,32,97,110,111,116,104,101,114,32,112,108,97,110]⟩:ByteArray),(164:Int),())) fun ⟨_,⟨j4,⟨k4,l4,_⟩,_⟩⟩ =>
 some (.inl (((j4,(k4,l4,()),()),()),())))
 fun ⟨⟨⟨f4,⟨h4,i4,_⟩,_⟩,_⟩,_⟩ =>
 bif f4 then
 bif decide (i.length=i.length) then
 bif decide (j.length=j.length) then
 bif decide (k.length=k.length) then
 some (((a,c,f,h,i,j,k,l,m,n,o,q,s,t,u,w,x,y,z,a0,(),()),(),(),(),()),(true,(h4,i4,()),dflt (.pair .bool (.pair .unit .unit))))
 else none
 else none
 else none
 else
 bif decide (i.length=i.length) then
 bif decide (j.length=j.length) then
 bif decide (k.length=k.length) then
 some (((a,c,f,h,i,j,k,l,m,n,o,q,s,t,u,w,x,y,z,a0,(),()),(),(),(),()),(false,dflt (.pair .str (.pair (.int .i64) .unit)),(true,(),dflt .unit)))
 else none
 else none
 else none
 else
 bif decide (i.length=i.length) then
 bif decide (j.length=j.length) then
 bif decide (k.length=k.length) then
 some (((a,c,f,h,i,j,k,l,m,n,o,q,s,t,u,w,x,y,z,a0,(),()),(),(),(),()),(false,dflt (.pair .str (.pair (.int .i64) .unit)),(true,(),dflt .unit)))
 else none
 else none
 else none
else
 bif decide (i.length=i.length) then
 bif decide (j.length=j.length) then
 bif decide (k.length=k.length) then
 some (((a,c,f,h,i,j,k,l,m,n,o,q,s,t,u,w,x,y,z,a0,(),()),(),(),(),()),(false,dflt (.pair .str (.pair (.int .i64) .unit)),(true,(),dflt .unit)))
 else none
 else none
 else none
def e75 (fu:Nat):Ent := ⟨75,(.cons Y12 .nil),(.cons Y13 (.cons .dead (.cons .dead (.cons .dead .nil)))),(.alt false (.ifc 86 (.look (.cons hT (.cons hI .nil)))) (.alt false (.nilv 1) (.cst 0 181))),p75 fu⟩
theorem g75 (fu:Nat):(e75 fu).Good Tryz.prog := Q0d Q0c Tryz.func75 fu [(29,(.ent (e97_1 fu))),(36,(.ent (e98 fu))),(43,(.ent (e74 fu))),(56,(.ent (e74 fu)))] [(5,⟨[],.nil,[],.nil,[0,3,4],[0,1,2,3,5,6,7,88]⟩),(6,⟨[],.nil,[(0,82,21)],(.cons Y13 .nil),[4],[1,2,3]⟩),(7,⟨[],.nil,[(0,82,21)],(.cons Y13 .nil),[0,4],[1,2,3]⟩),(19,⟨[5],(.cons (.alt false (.ifc 86 (.look (.cons hT (.cons hI .nil)))) (.nilv 1)) .nil),[(0,82,21)],(.cons Y13 .nil),[0,4],[1,2,3]⟩),(22,⟨[6],(.cons (.alt false (.nilv 1) (.alt false (.cst 0 181) (.ifc 86 (.look (.cons hT (.cons hI .nil)))))) .nil),[(0,82,21)],(.cons Y13 .nil),[4],[1,2,3]⟩),(27,⟨[2],(.cons (.alt false (.ifc 86 (.look (.cons hT (.cons hI .nil)))) (.nilv 1)) .nil),[],.nil,[],[0,1,2,3,264,265,266]⟩),(30,⟨[2],(.cons (.alt false (.ifc 86 (.look (.cons hT (.cons hI .nil)))) (.nilv 1)) .nil),[],.nil,[],[0,1,2,3,5,6,7]⟩)] rs75 53 (l := [e97_1 fu,e98 fu,e74 fu,e74 fu]) ⟨K9o fu,g98 fu,g74 fu,g74 fu,trivial⟩
def rs124:List RVx := [(.tmp 2)]
def p124 (_:Nat):(List Int)×Unit→Option (Unit×(List Int)) := fun ⟨a,_⟩ =>
bif ((a.length:Int)==(0:Int)) then
 some ((),[])
else
 bif decide ((0:Int)≤(a.length:Int)∧((a.length:Int):Int)≤(a.length:Int)∧((a.length:Int):Int)≤9223372036854775807∧(1:Int) * (a.length:Int)≤140737488355328) then
 bif decide (Int.toNat (a.length:Int)=List.length (List.replicate (Int.toNat (a.length:Int)) (0:Int):List Int)) then
 bif decide (Int.toNat (a.length:Int)=List.length (copyL (List.replicate (Int.toNat (a.length:Int)) (0:Int):List Int) 0 (Int.toNat (a.length:Int)) a)) then
 some ((),(copyL (List.replicate (Int.toNat (a.length:Int)) (0:Int):List Int) 0 (Int.toNat (a.length:Int)) a))
 else none
 else none
 else none
def e124 (fu:Nat):Ent := ⟨124,(.cons (.hole (.sl .any (.int .u8))) .nil),.nil,(.own .own 5 (.int .u8)),p124 fu⟩
theorem g124 (fu:Nat):(e124 fu).Good Tryz.prog := Q0d Q0c Tryz.func124 fu [(7,(.ty (.int .u8)))] [] rs124 14 (l := []) trivial
def rs117:List RVx := [(.cell 2 true 5)]
def p117 (fu:Nat):(Int×(ByteArray×((List Int)×(Int×(Int×Unit)))))×Unit→Option (Unit×(Int×(ByteArray×((List Int)×(Int×(Int×Unit)))))) := fun ⟨⟨a,c,f,h,i,_⟩,_⟩ =>
Option.bind (p124 fu (f,())) fun ⟨_,j⟩ =>
bif decide (j.length=j.length) then
 some ((),(a,c,j,h,i,()))
else none
def e117 (fu:Nat):Ent := ⟨117,(.cons Y5 .nil),.nil,Y14,p117 fu⟩
theorem g117 (fu:Nat):(e117 fu).Good Tryz.prog := Q0d Q0c Tryz.func117 fu [(4,(.ent (e124 fu)))] [] rs117 8 (l := [e124 fu]) ⟨g124 fu,trivial⟩
def rs111:List RVx := [(.tmp 4)]
def p111 (fu:Nat):(List (D_api_Record))×((Int×(ByteArray×((List Int)×(Int×(Int×Unit)))))×Unit)→Option ((Unit×Unit)×(List (D_api_Record))) := fun ⟨a,⟨c,f,h,i,j,_⟩,_⟩ =>
Option.bind (p117 fu ((c,f,h,i,j,()),())) fun ⟨_,⟨_,k,l,m,n,_⟩⟩ =>
bif decide (l.length=l.length) then
 bif decide (a.length=a.length) then
 bif decide (a.length+List.length ([(IntKind.wrap .u64 ((a.length):Int),k,l,m,n)])≤maxLen∧(a.length+List.length ([(IntKind.wrap .u64 ((a.length):Int),k,l,m,n)])) * 64≤140737488355328) then
 bif decide (List.length (a ++ [(IntKind.wrap .u64 ((a.length):Int),k,l,m,n)])=List.length (a ++ [(IntKind.wrap .u64 ((a.length):Int),k,l,m,n)])) then
 some (((),()),(a ++ [(IntKind.wrap .u64 ((a.length):Int),k,l,m,n)]))
 else none
 else none
 else none
else none
def e111 (fu:Nat):Ent := ⟨111,(.cons (.own .own 49 T_api_Record_n) (.cons Y5 .nil)),(.cons .dead .nil),(.own .own 49 T_api_Record_n),p111 fu⟩
theorem g111 (fu:Nat):(e111 fu).Good Tryz.prog := Q0d Q0c Tryz.func111 fu [(3,(.ent (e117 fu))),(12,(.ty T_api_Record_n)),(13,(.ty T_api_Record_n))] [] rs111 15 (l := [e117 fu]) ⟨g117 fu,trivial⟩
def rs99:List RVx := [(.tmp 4),(.tmp 5),(.tmp 6)]
def p99 (fu:Nat):(List (D_api_Record))×((Int×(ByteArray×((List Int)×(Int×(Int×Unit)))))×Unit)→Option (Unit×((List (D_api_Record))×(Int×(Int×Unit)))) := fun ⟨a,⟨c,f,h,i,j,_⟩,_⟩ =>
Option.bind (p18 fu (a,())) fun ⟨_,k⟩ =>
bif !k then
 some ((),([],(0:Int),(1:Int),()))
else
 Option.bind (p58 fu ((c,f,h,i,j,()),())) fun ⟨_,l⟩ =>
 bif (l != (0:Int)) then
 some ((),([],(0:Int),l,()))
 else
 bif decide ((a.length:Int)≥(4096:Int)) then
 some ((),([],(0:Int),(143:Int),()))
 else
 Option.bind (p70 fu (a,())) fun ⟨_,m⟩ =>
 bif decide (m.length=m.length) then
 Option.bind (p111 fu (m,(c,f,h,i,j,()),())) fun ⟨⟨_,_⟩,n⟩ =>
 bif decide (n.length=n.length) then
 some ((),(n,IntKind.wrap .u64 (a.length:Int),(0:Int),()))
 else none
 else none
def e99 (fu:Nat):Ent := ⟨99,(.cons (.hole (.sl .any T_api_Record)) (.cons Y5 .nil)),.nil,(.tup 3 (.cons (.own .own 49 T_api_Record_n) (.cons hU (.cons hI .nil)))),p99 fu⟩
theorem g99 (fu:Nat):(e99 fu).Good Tryz.prog := Q0d Q0c Tryz.func99 fu [(5,(.ent (e18 fu))),(11,(.ent (e58 fu))),(26,(.ent (e70 fu))),(28,(.ent (e111 fu)))] [] rs99 26 (l := [e18 fu,e58 fu,e70 fu,e111 fu]) ⟨g18 fu,g58 fu,g70 fu,g111 fu,trivial⟩
def rs118:List RVx := [(.cell 4 true 4)]
def p118 (_:Nat):(Int×(Int×(Bool×(Int×Unit))))×((Int×(Int×(Bool×(Int×Unit))))×Unit)→Option (Unit×(Int×(Int×(Bool×(Int×Unit))))) := fun ⟨⟨_,_,_,_,_⟩,⟨a,c,f,h,_⟩,_⟩ =>
some ((),(a,c,f,h,()))
def e118 (fu:Nat):Ent := ⟨118,(.cons (.agg 4 (.cons hU (.cons hU (.cons (.hole .bool) (.cons hU .nil))))) (.cons (.agg 4 (.cons hU (.cons hU (.cons (.hole .bool) (.cons hU .nil))))) .nil)),.nil,(.agg 4 (.cons hU (.cons hU (.cons (.hole .bool) (.cons hU .nil))))),p118 fu⟩
theorem g118 (fu:Nat):(e118 fu).Good Tryz.prog := Q0d Q0c Tryz.func118 fu [] [] rs118 6 (l := []) trivial
def rs120:List RVx := [(.tmp 8)]
def p120 (fu:Nat):(List (D_api_Producer))×((List (D_api_Producer))×((Unit×Unit)×((Unit×Unit)×Unit)))→Option (Unit×(List (D_api_Producer))) := fun ⟨a,c,⟨_,_⟩,⟨_,_⟩,_⟩ =>
orK (E := ((List (D_api_Producer))×((List (D_api_Producer))×((List (D_api_Producer))×Unit)))×Unit)
 (loopO (S := ((List (D_api_Producer))×((List (D_api_Producer))×((List (D_api_Producer))×Unit)))×Unit) fu (fun ⟨⟨f,h,i,_⟩,_⟩ =>
 bif decide ((f.length:Int)>(0:Int)) then
 bif decide ((h.length:Int)>(0:Int)) then
 bif decide ((0:Int)≤0∧0<(f.length:Int)) then
 bif decide (0<f.length) then
 bif decide ((0:Int)≤0∧0<(h.length:Int)) then
 bif decide (0<h.length) then
 Option.bind (p59 fu (((f.getD 0 (dflt T_api_Producer)).1,((f.getD 0 (dflt T_api_Producer)).2).1,(((f.getD 0 (dflt T_api_Producer)).2).2).1,(((f.getD 0 (dflt T_api_Producer)).2).2).2,()),((h.getD 0 (dflt T_api_Producer)).1,((h.getD 0 (dflt T_api_Producer)).2).1,(((h.getD 0 (dflt T_api_Producer)).2).2).1,(((h.getD 0 (dflt T_api_Producer)).2).2).2,()),())) fun ⟨_,j⟩ =>
 bif decide (j<(0:Int)) then
 bif decide ((0:Int)≤0∧0<(f.length:Int)) then
 bif decide (0<f.length) then
 bif decide (i.length=i.length) then
 bif decide (i.length+List.length ([((f.getD 0 (dflt T_api_Producer)).1,((f.getD 0 (dflt T_api_Producer)).2).1,(((f.getD 0 (dflt T_api_Producer)).2).2).1,(((f.getD 0 (dflt T_api_Producer)).2).2).2)])≤maxLen∧(i.length+List.length ([((f.getD 0 (dflt T_api_Producer)).1,((f.getD 0 (dflt T_api_Producer)).2).1,(((f.getD 0 (dflt T_api_Producer)).2).2).1,(((f.getD 0 (dflt T_api_Producer)).2).2).2)])) * 32≤140737488355328) then
 bif decide (1≤f.length) then
 bif decide (List.length (i ++ [((f.getD 0 (dflt T_api_Producer)).1,((f.getD 0 (dflt T_api_Producer)).2).1,(((f.getD 0 (dflt T_api_Producer)).2).2).1,(((f.getD 0 (dflt T_api_Producer)).2).2).2)])=List.length (i ++ [((f.getD 0 (dflt T_api_Producer)).1,((f.getD 0 (dflt T_api_Producer)).2).1,(((f.getD 0 (dflt T_api_Producer)).2).2).1,(((f.getD 0 (dflt T_api_Producer)).2).2).2)])) then
 some (.inl ((List.drop 1 f,h,(i ++ [((f.getD 0 (dflt T_api_Producer)).1,((f.getD 0 (dflt T_api_Producer)).2).1,(((f.getD 0 (dflt T_api_Producer)).2).2).1,(((f.getD 0 (dflt T_api_Producer)).2).2).2)]),()),()))
 else none
 else none
 else none
 else none
 else none
 else none
 else
 bif decide (j>(0:Int)) then
 bif decide ((0:Int)≤0∧0<(h.length:Int)) then
 bif decide (0<h.length) then
 bif decide (i.length=i.length) then
 bif decide (i.length+List.length ([((h.getD 0 (dflt T_api_Producer)).1,((h.getD 0 (dflt T_api_Producer)).2).1,(((h.getD 0 (dflt T_api_Producer)).2).2).1,(((h.getD 0 (dflt T_api_Producer)).2).2).2)])≤maxLen∧(i.length+List.length ([((h.getD 0 (dflt T_api_Producer)).1,((h.getD 0 (dflt T_api_Producer)).2).1,(((h.getD 0 (dflt T_api_Producer)).2).2).1,(((h.getD 0 (dflt T_api_Producer)).2).2).2)])) * 32≤140737488355328) then
 bif decide (1≤h.length) then
 bif decide (List.length (i ++ [((h.getD 0 (dflt T_api_Producer)).1,((h.getD 0 (dflt T_api_Producer)).2).1,(((h.getD 0 (dflt T_api_Producer)).2).2).1,(((h.getD 0 (dflt T_api_Producer)).2).2).2)])=List.length (i ++ [((h.getD 0 (dflt T_api_Producer)).1,((h.getD 0 (dflt T_api_Producer)).2).1,(((h.getD 0 (dflt T_api_Producer)).2).2).1,(((h.getD 0 (dflt T_api_Producer)).2).2).2)])) then
 some (.inl ((f,List.drop 1 h,(i ++ [((h.getD 0 (dflt T_api_Producer)).1,((h.getD 0 (dflt T_api_Producer)).2).1,(((h.getD 0 (dflt T_api_Producer)).2).2).1,(((h.getD 0 (dflt T_api_Producer)).2).2).2)]),()),()))
 else none
 else none
 else none
 else none
 else none
 else none
 else
 bif decide ((0:Int)≤0∧0<(f.length:Int)) then
 bif decide (0<f.length) then
 bif decide ((0:Int)≤0∧0<(h.length:Int)) then
 bif decide (0<h.length) then
 Option.bind (p118 fu (((f.getD 0 (dflt T_api_Producer)).1,((f.getD 0 (dflt T_api_Producer)).2).1,(((f.getD 0 (dflt T_api_Producer)).2).2).1,(((f.getD 0 (dflt T_api_Producer)).2).2).2,()),((h.getD 0 (dflt T_api_Producer)).1,((h.getD 0 (dflt T_api_Producer)).2).1,(((h.getD 0 (dflt T_api_Producer)).2).2).1,(((h.getD 0 (dflt T_api_Producer)).2).2).2,()),())) fun ⟨_,⟨k,l,m,n,_⟩⟩ =>
 bif decide (i.length=i.length) then
 bif decide (i.length+List.length ([(k,l,m,n)])≤maxLen∧(i.length+List.length ([(k,l,m,n)])) * 32≤140737488355328) then
 bif decide (1≤f.length) then
 bif decide (1≤h.length) then
 bif decide (List.length (i ++ [(k,l,m,n)])=List.length (i ++ [(k,l,m,n)])) then
 some (.inl ((List.drop 1 f,List.drop 1 h,(i ++ [(k,l,m,n)]),()),()))
 else none
 else none
 else none
 else none
 else none
 else none
 else none
 else none
 else none
 else none
 else none
 else none
 else none
 else
 inrO (bif decide (i.length=i.length) then
 some (.inl ((f,h,i,()),()))
 else none)
 else
 inrO (bif decide (i.length=i.length) then
 some (.inl ((f,h,i,()),()))
 else none))
 ((a,c,[],()),()))
 fun ⟨⟨f,h,i,_⟩,_⟩ =>
bif decide (i.length=i.length) then
 bif decide (i.length+f.length≤maxLen∧(i.length+f.length) * 32≤140737488355328) then
 bif decide (List.length (i ++ f)=List.length (i ++ f)) then
 bif decide (List.length (i ++ f)+h.length≤maxLen∧(List.length (i ++ f)+h.length) * 32≤140737488355328) then
 bif decide (List.length ((i ++ f) ++ h)=List.length ((i ++ f) ++ h)) then
 some ((),((i ++ f) ++ h))
 else none
 else none
 else none
 else none
else none
def e120 (fu:Nat):Ent := ⟨120,(.cons (.hole (.sl .any T_api_Producer)) (.cons (.hole (.sl .any T_api_Producer)) (.cons (.clo 59 0 .nil 0 .nil) (.cons (.clo 118 0 .nil 0 .nil) .nil)))),.nil,(.own .own 62 T_api_Producer),p120 fu⟩
theorem g120 (fu:Nat):(e120 fu).Good Tryz.prog := Q0d Q0c Tryz.func120 fu [(17,(.ent (e59 fu))),(26,(.ty T_api_Producer)),(27,(.ty T_api_Producer)),(39,(.ty T_api_Producer)),(40,(.ty T_api_Producer)),(53,(.ent (e118 fu))),(54,(.ty T_api_Producer)),(55,(.ty T_api_Producer)),(65,(.ty T_api_Producer)),(67,(.ty T_api_Producer))] [(2,⟨[0,1,9],(.cons (.hole (.sl .any T_api_Producer)) (.cons (.hole (.sl .any T_api_Producer)) (.cons (.own .own 62 T_api_Producer) .nil))),[],.nil,[],[]⟩),(3,⟨[0,1,9],(.cons (.hole (.sl .any T_api_Producer)) (.cons (.hole (.sl .any T_api_Producer)) (.cons (.own .own 62 T_api_Producer) .nil))),[],.nil,[2,3],[]⟩)] rs120 69 (l := [e59 fu,e118 fu]) ⟨g59 fu,g118 fu,trivial⟩
def rs119:List RVx := [(.tmp 2),(.tmp 3)]
def p119_1 (_:Nat):(List (D_api_Producer))×Unit→Option ((Unit×Unit)×((List (D_api_Producer))×(Int×Unit))) := fun ⟨a,_⟩ =>
bif decide (((a.length):Int)>(256:Int)) then
 some (((),()),([],(153:Int),()))
else
 bif decide (a.length=a.length) then
 some (((),()),(a,(0:Int),()))
 else none
def e119_1 (fu:Nat):Ent := ⟨119,(.cons (.own .own 62 T_api_Producer) .nil),(.cons .dead .nil),(.tup 2 (.cons (.own .own 62 T_api_Producer) (.cons hI .nil))),p119_1 fu⟩
theorem K9p (fu:Nat):(e119_1 fu).Good Tryz.prog := Q0d Q0c Tryz.func119 fu [] [] rs119 8 (l := []) trivial
def rs112:List RVx := [(.tmp 4),(.tmp 5)]
def p112 (fu:Nat):(List (D_api_Producer))×((Int×(Int×(Bool×(Int×Unit))))×Unit)→Option (Unit×((List (D_api_Producer))×(Int×Unit))) := fun ⟨a,⟨c,f,h,i,_⟩,_⟩ =>
Option.bind (p19 fu (a,())) fun ⟨_,j⟩ =>
bif !j then
 some ((),([],(1:Int),()))
else
 Option.bind (p110 fu (a,c,f,())) fun ⟨_,⟨k,_,_⟩⟩ =>
 bif (k==(4:Int)) then
 some ((),([],(151:Int),()))
 else
 bif (k==(2:Int)) then
 some ((),([],(152:Int),()))
 else
 bif (k==(3:Int)) then
 some ((),([],(152:Int),()))
 else
 Option.bind (p120 fu (a,[(c,f,h,i)],((),()),((),()),())) fun ⟨_,l⟩ =>
 bif decide (l.length=l.length) then
 Option.bind (p119_1 fu (l,())) fun ⟨⟨_,_⟩,⟨m,n,_⟩⟩ =>
 bif decide (m.length=m.length) then
 some ((),(m,n,()))
 else none
 else none
def e112 (fu:Nat):Ent := ⟨112,(.cons (.hole (.sl .any T_api_Producer)) (.cons (.agg 4 (.cons hU (.cons hU (.cons (.hole .bool) (.cons hU .nil))))) .nil)),.nil,(.tup 2 (.cons (.own .own 62 T_api_Producer) (.cons hI .nil))),p112 fu⟩
theorem g112 (fu:Nat):(e112 fu).Good Tryz.prog := Q0d Q0c Tryz.func112 fu [(4,(.ent (e19 fu))),(13,(.ent (e110 fu))),(33,(.ty T_api_Producer)),(35,(.ent (e120 fu))),(36,(.ent (e119_1 fu)))] [] rs112 35 (l := [e19 fu,e110 fu,e120 fu,e119_1 fu]) ⟨g19 fu,g110 fu,g120 fu,K9p fu,trivial⟩
def rs100:List RVx := [(.tmp 8),(.tmp 9)]
def p100 (fu:Nat):(List (D_api_Producer))×(Int×(Int×(Int×Unit)))→Option (Unit×((List (D_api_Producer))×(Int×Unit))) := fun ⟨a,c,f,h,_⟩ =>
Option.bind (p112 fu (a,(c,f,true,h,()),())) fun ⟨_,⟨i,j,_⟩⟩ =>
bif decide (i.length=i.length) then
 some ((),(i,j,()))
else none
def e100 (fu:Nat):Ent := ⟨100,(.cons (.hole (.sl .any T_api_Producer)) (.cons hU (.cons hU (.cons hU .nil)))),.nil,(.tup 2 (.cons (.own .own 62 T_api_Producer) (.cons hI .nil))),p100 fu⟩
theorem g100 (fu:Nat):(e100 fu).Good Tryz.prog := Q0d Q0c Tryz.func100 fu [(7,(.ent (e112 fu)))] [] rs100 18 (l := [e112 fu]) ⟨g112 fu,trivial⟩
def rs76:List RVx := [(.tmp 2)]
def p76 (fu:Nat):(Z0)×Unit→Option (((Z0)×(Unit×(Unit×(Unit×Unit))))×(Bool×((ByteArray×(Int×Unit))×Unit))) := fun ⟨⟨a,c,f,h,i,j,k,l,m,n,o,q,s,t,u,w,x,y,z,a0,_,_⟩,_⟩ =>
bif decide (i.length=i.length) then
 Option.bind (p99 fu (i,((0:Int),q,s,n,o,()),())) fun ⟨_,⟨c0,f0,h0,_⟩⟩ =>
 bif (h0 != (0:Int)) then
 Option.bind (p74 fu ((⟨#[97,32,114,101,99,111,114,100]⟩:ByteArray),h0,())) fun ⟨_,⟨i0,⟨j0,k0,_⟩,_⟩⟩ =>
 bif decide (i.length=i.length) then
 bif decide (j.length=j.length) then
 bif decide (k.length=k.length) then
 some (((a,c,f,h,i,j,k,l,m,n,o,q,s,t,u,w,x,y,z,a0,(),()),(),(),(),()),(i0,(j0,k0,()),()))
 else none
 else none
 else none
 else
 bif decide (j.length=j.length) then
 Option.bind (p100 fu (j,n,o,f0,())) fun ⟨_,⟨l0,m0,_⟩⟩ =>
 bif (m0 != (0:Int)) then
 Option.bind (p74 fu ((⟨#[97,32,112,114,111,100,117,99,101,114]⟩:ByteArray),m0,())) fun ⟨_,⟨n0,⟨o0,q0,_⟩,_⟩⟩ =>
 bif decide (i.length=i.length) then
 bif decide (j.length=j.length) then
 bif decide (k.length=k.length) then
 some (((a,c,f,h,i,j,k,l,m,n,o,q,s,t,u,w,x,y,z,a0,(),()),(),(),(),()),(n0,(o0,q0,()),()))
 else none
 else none
 else none
 else
 bif decide (c0.length=c0.length) then
 bif decide (l0.length=l0.length) then
 bif decide (k.length=k.length) then
 some (((a,c,f,h,c0,l0,k,l,m,n,o,q,s,t,u,w,x,y,f0,a0,(),()),(),(),(),()),(false,dflt (.pair .str (.pair (.int .i64) .unit)),()))
 else none
 else none
 else none
 else none
else none
def e76 (fu:Nat):Ent := ⟨76,(.cons Y12 .nil),(.cons Y15 (.cons .dead (.cons .dead (.cons .dead .nil)))),(.alt true (.ifc 86 (.look (.cons hT (.cons hI .nil)))) (.nilv 1)),p76 fu⟩
theorem g76 (fu:Nat):(e76 fu).Good Tryz.prog := Q0d Q0c Tryz.func76 fu [(24,(.ent (e99 fu))),(35,(.ent (e74 fu))),(47,(.ent (e100 fu))),(56,(.ent (e74 fu)))] [] rs76 70 (l := [e99 fu,e74 fu,e100 fu,e74 fu]) ⟨g99 fu,g74 fu,g100 fu,g74 fu,trivial⟩
def rs101:List RVx := [(.tmp 6),(.tmp 7)]
def p101 (fu:Nat):(List (D_api_Record))×(Int×(Int×Unit))→Option (Unit×((List (D_api_Record))×(Int×Unit))) := fun ⟨a,c,f,_⟩ =>
Option.bind (p18 fu (a,())) fun ⟨_,h⟩ =>
bif !h then
 some ((),([],(1:Int),()))
else
 bif decide (c>(IntKind.wrap .u64 (a.length:Int))) then
 some ((),([],(141:Int),()))
 else
 bif decide ((0:Int)≤c) then
 bif decide (c.toNat≤a.length) then
 bif decide ((0:Int)≤(if (List.length (slice' a (c.toNat) none):Int)<(if (64:Int)<(if (0:Int)>f then (0:Int) else f) then (64:Int) else (if (0:Int)>f then (0:Int) else f)) then (List.length (slice' a (c.toNat) none):Int) else (if (64:Int)<(if (0:Int)>f then (0:Int) else f) then (64:Int) else (if (0:Int)>f then (0:Int) else f)))) then
 bif decide (0≤Int.toNat (if (List.length (slice' a (c.toNat) none):Int)<(if (64:Int)<(if (0:Int)>f then (0:Int) else f) then (64:Int) else (if (0:Int)>f then (0:Int) else f)) then (List.length (slice' a (c.toNat) none):Int) else (if (64:Int)<(if (0:Int)>f then (0:Int) else f) then (64:Int) else (if (0:Int)>f then (0:Int) else f)))∧Int.toNat (if (List.length (slice' a (c.toNat) none):Int)<(if (64:Int)<(if (0:Int)>f then (0:Int) else f) then (64:Int) else (if (0:Int)>f then (0:Int) else f)) then (List.length (slice' a (c.toNat) none):Int) else (if (64:Int)<(if (0:Int)>f then (0:Int) else f) then (64:Int) else (if (0:Int)>f then (0:Int) else f)))≤List.length (slice' a (c.toNat) none)) then
 Option.bind (p70 fu (List.take (Int.toNat (if (List.length (slice' a (c.toNat) none):Int)<(if (64:Int)<(if (0:Int)>f then (0:Int) else f) then (64:Int) else (if (0:Int)>f then (0:Int) else f)) then (List.length (slice' a (c.toNat) none):Int) else (if (64:Int)<(if (0:Int)>f then (0:Int) else f) then (64:Int) else (if (0:Int)>f then (0:Int) else f)))) (slice' a (c.toNat) none),())) fun ⟨_,i⟩ =>
 bif decide (i.length=i.length) then
 some ((),(i,(0:Int),()))
 else none
 else none
 else none
 else none
 else none
def e101 (fu:Nat):Ent := ⟨101,(.cons (.hole (.sl .any T_api_Record)) (.cons hU (.cons hI .nil))),.nil,(.tup 2 (.cons (.own .own 49 T_api_Record_n) (.cons hI .nil))),p101 fu⟩
theorem g101 (fu:Nat):(e101 fu).Good Tryz.prog := Q0d Q0c Tryz.func101 fu [(3,(.ent (e18 fu))),(25,(.ent (e70 fu)))] [] rs101 28 (l := [e18 fu,e70 fu]) ⟨g18 fu,g70 fu,trivial⟩
def rs77:List RVx := [(.tmp 2)]
def p77 (fu:Nat):(Z0)×Unit→Option (((Z2)×(Unit×(Unit×(Unit×Unit))))×(Bool×((ByteArray×(Int×Unit))×Unit))) := fun ⟨⟨a,c,f,h,i,j,k,l,m,n,o,q,s,t,u,w,x,y,z,a0,_,_⟩,_⟩ =>
bif decide (i.length=i.length) then
 Option.bind (p101 fu (i,t,u,())) fun ⟨_,⟨c0,f0,_⟩⟩ =>
 bif (f0 != (0:Int)) then
 Option.bind (p74 fu ((⟨#[97,32,102,101,116,99,104]⟩:ByteArray),f0,())) fun ⟨_,⟨h0,⟨i0,j0,_⟩,_⟩⟩ =>
 bif decide (i.length=i.length) then
 bif decide (j.length=j.length) then
 bif decide (k.length=k.length) then
 some (((a,c,f,h,i,j,k,l,m,n,o,q,s,t,u,w,x,y,z,a0,[],()),(),(),(),()),(h0,(i0,j0,()),()))
 else none
 else none
 else none
 else
 bif decide (i.length=i.length) then
 bif decide (j.length=j.length) then
 bif decide (k.length=k.length) then
 bif decide (c0.length=c0.length) then
 some (((a,c,f,h,i,j,k,l,m,n,o,q,s,t,u,w,x,y,IntKind.wrap .u64 (t+(IntKind.wrap .u64 ((c0.length):Int))),a0,c0,()),(),(),(),()),(false,dflt (.pair .str (.pair (.int .i64) .unit)),()))
 else none
 else none
 else none
 else none
else none
def e77 (fu:Nat):Ent := ⟨77,(.cons Y12 .nil),(.cons Y16 (.cons .dead (.cons .dead (.cons .dead .nil)))),(.alt true (.ifc 86 (.look (.cons hT (.cons hI .nil)))) (.nilv 1)),p77 fu⟩
theorem g77 (fu:Nat):(e77 fu).Good Tryz.prog := Q0d Q0c Tryz.func77 fu [(16,(.ent (e101 fu))),(25,(.ent (e74 fu)))] [] rs77 46 (l := [e101 fu,e74 fu]) ⟨g101 fu,g74 fu,trivial⟩
def rs123:List RVx := [(.tmp 4)]
def p123 (fu:Nat):ByteArray×(ByteArray×Unit)→Option (Unit×Int) := fun ⟨a,c,_⟩ =>
Option.bind (pCmpS fu (a,c,())) fun ⟨_,f⟩ =>
some ((),f)
def e123 (fu:Nat):Ent := ⟨123,(.cons hT (.cons hT .nil)),.nil,hI,p123 fu⟩
theorem g123 (fu:Nat):(e123 fu).Good Tryz.prog := Q0d Q0c Tryz.func123 fu [(3,(.ent (eCmpS fu)))] [] rs123 8 (l := [eCmpS fu]) ⟨X8y fu,trivial⟩
def rs114:List RVx := [(.tmp 4)]
def p114 (fu:Nat):(ByteArray×(Int×Unit))×((ByteArray×(Int×Unit))×Unit)→Option (Unit×Int) := fun ⟨⟨a,_,_⟩,⟨c,_,_⟩,_⟩ =>
Option.bind (p123 fu (a,c,())) fun ⟨_,f⟩ =>
some ((),f)
def e114 (fu:Nat):Ent := ⟨114,(.cons (.agg 2 (.cons hT (.cons hU .nil))) (.cons (.agg 2 (.cons hT (.cons hU .nil))) .nil)),.nil,hI,p114 fu⟩
theorem g114 (fu:Nat):(e114 fu).Good Tryz.prog := Q0d Q0c Tryz.func114 fu [(7,(.ent (e123 fu)))] [] rs114 10 (l := [e123 fu]) ⟨g123 fu,trivial⟩
def rs121:List RVx := [(.tmp 6),(.tmp 7)]
def p121 (fu:Nat):(List (D_runtime_errorAddressString))×((ByteArray×(Int×Unit))×((Unit×Unit)×Unit))→Option (Unit×(Int×(Bool×Unit))) := fun ⟨a,⟨c,f,_⟩,⟨_,_⟩,_⟩ =>
loopO (S := (Int×(Int×Unit))×Unit) fu (fun ⟨⟨h,i,_⟩,_⟩ =>
 bif decide (h<i) then
 bif decide ((0:Int)≤IntKind.wrap .i64 (Int.fdiv (IntKind.wrap .u64 (IntKind.wrap .i64 (h+i))) (2 ^ (min (Int.toNat (1:Int)) (IntKind.bits .u64))))∧IntKind.wrap .i64 (Int.fdiv (IntKind.wrap .u64 (IntKind.wrap .i64 (h+i))) (2 ^ (min (Int.toNat (1:Int)) (IntKind.bits .u64))))<(a.length:Int)) then
 bif decide (Int.toNat (IntKind.wrap .i64 (Int.fdiv (IntKind.wrap .u64 (IntKind.wrap .i64 (h+i))) (2 ^ (min (Int.toNat (1:Int)) (IntKind.bits .u64)))))<a.length) then
 Option.bind (p114 fu (((a.getD (Int.toNat (IntKind.wrap .i64 (Int.fdiv (IntKind.wrap .u64 (IntKind.wrap .i64 (h+i))) (2 ^ (min (Int.toNat (1:Int)) (IntKind.bits .u64)))))) (dflt T_runtime_errorAddressString)).1,(a.getD (Int.toNat (IntKind.wrap .i64 (Int.fdiv (IntKind.wrap .u64 (IntKind.wrap .i64 (h+i))) (2 ^ (min (Int.toNat (1:Int)) (IntKind.bits .u64)))))) (dflt T_runtime_errorAddressString)).2,()),(c,f,()),())) fun ⟨_,j⟩ =>
 bif decide (j<(0:Int)) then
 some (.inl ((IntKind.wrap .i64 ((IntKind.wrap .i64 (Int.fdiv (IntKind.wrap .u64 (IntKind.wrap .i64 (h+i))) (2 ^ (min (Int.toNat (1:Int)) (IntKind.bits .u64)))))+(1:Int)),i,()),()))
 else
 some (.inl ((h,IntKind.wrap .i64 (Int.fdiv (IntKind.wrap .u64 (IntKind.wrap .i64 (h+i))) (2 ^ (min (Int.toNat (1:Int)) (IntKind.bits .u64)))),()),()))
 else none
 else none
 else
 inrO (bif decide (h<(a.length:Int)) then
 bif decide ((0:Int)≤h∧h<(a.length:Int)) then
 bif decide (h.toNat<a.length) then
 Option.bind (p114 fu (((a.getD (h.toNat) (dflt T_runtime_errorAddressString)).1,(a.getD (h.toNat) (dflt T_runtime_errorAddressString)).2,()),(c,f,()),())) fun ⟨_,k⟩ =>
 some ((),(h,(k==(0:Int)),()))
 else none
 else none
 else
 some ((),(h,false,()))))
 (((0:Int),(a.length:Int),()),())
def e121 (fu:Nat):Ent := ⟨121,(.cons (.hole (.sl .any T_runtime_errorAddressString)) (.cons (.agg 2 (.cons hT (.cons hU .nil))) (.cons (.clo 114 0 .nil 0 .nil) .nil))),.nil,(.tup 2 (.cons hI (.cons (.hole .bool) .nil))),p121 fu⟩
theorem g121 (fu:Nat):(e121 fu).Good Tryz.prog := Q0d Q0c Tryz.func121 fu [(25,(.ent (e114 fu))),(43,(.ent (e114 fu)))] [(4,⟨[9,10],(.cons hI (.cons hI .nil)),[],.nil,[0,2,4,8],[0]⟩)] rs121 49 (l := [e114 fu,e114 fu]) ⟨g114 fu,g114 fu,trivial⟩
def rs113:List RVx := [(.tmp 6)]
def p113 (fu:Nat):(List (D_runtime_errorAddressString))×((ByteArray×(Int×Unit))×((Unit×Unit)×Unit))→Option (Unit×(List (D_runtime_errorAddressString))) := fun ⟨a,⟨c,f,_⟩,⟨_,_⟩,_⟩ =>
Option.bind (p121 fu (a,(c,f,()),((),()),())) fun ⟨_,⟨h,i,_⟩⟩ =>
Option.bind (p72 fu (a,())) fun ⟨_,j⟩ =>
bif i then
 bif decide ((0:Int)≤h∧h<(j.length:Int)) then
 bif decide (h.toNat<j.length) then
 bif decide (j.length=List.length (List.set j (h.toNat) (c,f))) then
 some ((),(List.set j (h.toNat) (c,f)))
 else none
 else none
 else none
else
 bif decide (j.length=j.length) then
 Option.bind (pInsertC fu (j,h,[(c,f)],())) fun ⟨⟨_,_,_⟩,k⟩ =>
 bif decide (k.length=k.length) then
 some ((),k)
 else none
 else none
def e113 (fu:Nat):Ent := ⟨113,(.cons (.hole (.sl .any T_runtime_errorAddressString)) (.cons (.agg 2 (.cons hT (.cons hU .nil))) (.cons (.clo 114 0 .nil 0 .nil) .nil))),.nil,(.own .own 64 T_runtime_errorAddressString),p113 fu⟩
theorem g113 (fu:Nat):(e113 fu).Good Tryz.prog := Q0d Q0c Tryz.func113 fu [(5,(.ent (e121 fu))),(12,(.ent (e72 fu))),(25,(.ty T_runtime_errorAddressString)),(26,(.ent (eInsertC fu)))] [] rs113 30 (l := [e121 fu,e72 fu,eInsertC fu]) ⟨g121 fu,g72 fu,K9l fu,trivial⟩
def rs102:List RVx := [(.tmp 6),(.tmp 7)]
def p102 (fu:Nat):(List (D_runtime_errorAddressString))×((ByteArray×(Int×Unit))×(Int×Unit))→Option (Unit×((List (D_runtime_errorAddressString))×(Int×Unit))) := fun ⟨a,⟨c,f,_⟩,h,_⟩ =>
Option.bind (p20 fu (a,())) fun ⟨_,i⟩ =>
bif !i then
 some ((),([],(1:Int),()))
else
 Option.bind (p61 fu (c,())) fun ⟨_,j⟩ =>
 bif !j then
 some ((),([],(142:Int),()))
 else
 bif decide (f>h) then
 some ((),([],(141:Int),()))
 else
 Option.bind (p113 fu (a,(c,f,()),((),()),())) fun ⟨_,k⟩ =>
 bif decide (((k.length):Int)≤(64:Int)) then
 bif decide (k.length=k.length) then
 some ((),(k,(0:Int),()))
 else none
 else
 some ((),([],(143:Int),()))
def e102 (fu:Nat):Ent := ⟨102,(.cons (.hole (.sl .any T_runtime_errorAddressString)) (.cons (.agg 2 (.cons hT (.cons hU .nil))) (.cons hU .nil))),.nil,(.tup 2 (.cons (.own .own 64 T_runtime_errorAddressString) (.cons hI .nil))),p102 fu⟩
theorem g102 (fu:Nat):(e102 fu).Good Tryz.prog := Q0d Q0c Tryz.func102 fu [(4,(.ent (e20 fu))),(11,(.ent (e61 fu))),(25,(.ent (e113 fu)))] [] rs102 30 (l := [e20 fu,e61 fu,e113 fu]) ⟨g20 fu,g61 fu,g113 fu,trivial⟩
def rs103:List RVx := [(.tmp 6),(.tmp 7)]
def p103 (fu:Nat):(List (D_api_Producer))×(Int×(Int×Unit))→Option (Unit×((List (D_api_Producer))×(Int×Unit))) := fun ⟨a,c,f,_⟩ =>
Option.bind (p112 fu (a,(c,f,false,(0:Int),()),())) fun ⟨_,⟨h,i,_⟩⟩ =>
bif decide (h.length=h.length) then
 some ((),(h,i,()))
else none
def e103 (fu:Nat):Ent := ⟨103,(.cons (.hole (.sl .any T_api_Producer)) (.cons hU (.cons hU .nil))),.nil,(.tup 2 (.cons (.own .own 62 T_api_Producer) (.cons hI .nil))),p103 fu⟩
theorem g103 (fu:Nat):(e103 fu).Good Tryz.prog := Q0d Q0c Tryz.func103 fu [(6,(.ent (e112 fu)))] [] rs103 15 (l := [e112 fu]) ⟨g112 fu,trivial⟩
def rs78:List RVx := [(.tmp 2)]
def p78 (fu:Nat):(Z0)×Unit→Option (((Z0)×(Unit×(Unit×(Unit×Unit))))×(Bool×((ByteArray×(Int×Unit))×Unit))) := fun ⟨⟨a,c,f,h,i,j,k,l,m,n,o,q,s,t,u,w,x,y,z,a0,_,_⟩,_⟩ =>
bif decide (k.length=k.length) then
 Option.bind (p102 fu (k,(w,t,()),IntKind.wrap .u64 ((i.length):Int),())) fun ⟨_,⟨c0,f0,_⟩⟩ =>
 bif (f0 != (0:Int)) then
 Option.bind (p74 fu ((⟨#[97,32,99,111,110,115,117,109,101,114]⟩:ByteArray),f0,())) fun ⟨_,⟨h0,⟨i0,j0,_⟩,_⟩⟩ =>
 bif decide (i.length=i.length) then
 bif decide (j.length=j.length) then
 bif decide (k.length=k.length) then
 some (((a,c,f,h,i,j,k,l,m,n,o,q,s,t,u,w,x,y,z,a0,(),()),(),(),(),()),(h0,(i0,j0,()),()))
 else none
 else none
 else none
 else
 bif decide (j.length=j.length) then
 Option.bind (p103 fu (j,n,o,())) fun ⟨_,⟨k0,l0,_⟩⟩ =>
 bif (l0 != (0:Int)) then
 Option.bind (p74 fu ((⟨#[97,32,112,114,111,100,117,99,101,114]⟩:ByteArray),l0,())) fun ⟨_,⟨m0,⟨n0,o0,_⟩,_⟩⟩ =>
 bif decide (i.length=i.length) then
 bif decide (j.length=j.length) then
 bif decide (k.length=k.length) then
 some (((a,c,f,h,i,j,k,l,m,n,o,q,s,t,u,w,x,y,z,a0,(),()),(),(),(),()),(m0,(n0,o0,()),()))
 else none
 else none
 else none
 else
 bif decide (i.length=i.length) then
 bif decide (k0.length=k0.length) then
 bif decide (c0.length=c0.length) then
 some (((a,c,f,h,i,k0,c0,l,m,n,o,q,s,t,u,w,x,y,t,a0,(),()),(),(),(),()),(false,dflt (.pair .str (.pair (.int .i64) .unit)),()))
 else none
 else none
 else none
 else none
else none
def e78 (fu:Nat):Ent := ⟨78,(.cons Y12 .nil),(.cons Y13 (.cons .dead (.cons .dead (.cons .dead .nil)))),(.alt true (.ifc 86 (.look (.cons hT (.cons hI .nil)))) (.nilv 1)),p78 fu⟩
theorem g78 (fu:Nat):(e78 fu).Good Tryz.prog := Q0d Q0c Tryz.func78 fu [(24,(.ent (e102 fu))),(33,(.ent (e74 fu))),(44,(.ent (e103 fu))),(53,(.ent (e74 fu)))] [] rs78 69 (l := [e102 fu,e74 fu,e103 fu,e74 fu]) ⟨g102 fu,g74 fu,g103 fu,g74 fu,trivial⟩
def rs79:List RVx := [(.tmp 4),(.tmp 5)]
def p79 (fu:Nat):(List (D_runtime_errorAddressString))×(ByteArray×Unit)→Option (Unit×(Int×(Bool×Unit))) := fun ⟨a,c,_⟩ =>
loopO (S := (Int×Unit)×Unit) fu (fun ⟨⟨f,_⟩,_⟩ =>
 bif decide (f<(a.length:Int)) then
 bif decide ((0:Int)≤f∧f<(a.length:Int)) then
 bif decide (f.toNat<a.length) then
 bif ByteArray.toList ((a.getD (f.toNat) (dflt T_runtime_errorAddressString)).1)==ByteArray.toList c then
 inrO (some ((),((a.getD (f.toNat) (dflt T_runtime_errorAddressString)).2,true,())))
 else
 some (.inl ((IntKind.wrap .i64 (f+(1:Int)),()),()))
 else none
 else none
 else
 inrO (some ((),((0:Int),false,()))))
 (((0:Int),()),())
def e79 (fu:Nat):Ent := ⟨79,(.cons (.hole (.sl .any T_runtime_errorAddressString)) (.cons hT .nil)),.nil,(.tup 2 (.cons hU (.cons (.hole .bool) .nil))),p79 fu⟩
theorem g79 (fu:Nat):(e79 fu).Good Tryz.prog := Q0d Q0c Tryz.func79 fu [] [(3,⟨[10],(.cons hI .nil),[],.nil,[1,8,9],[]⟩)] rs79 21 (l := []) trivial
def rs43:List RVx := [(.tmp 2)]
def p43 (fu:Nat):(Z0)×Unit→Option (((Z2)×(Unit×(Unit×(Unit×Unit))))×(Bool×((ByteArray×(Int×Unit))×(Bool×(Unit×Unit))))) := fun ⟨⟨a,c,f,h,i,j,k,l,m,n,o,q,s,t,u,w,x,y,z,a0,_,_⟩,_⟩ =>
Option.bind (p73 fu ((l,m,n,o,q,s,t,u,w,x,()),())) fun ⟨_,c0⟩ =>
bif !c0 then
 orK (E := ((Bool×((ByteArray×(Int×Unit))×Unit))×Unit)×Unit)
 (Option.bind (p74 fu ((⟨#[97,32,99,111,109,109,97,110,100,32,116,104,97,116,32,105,115,32,110,111,116,32,119,101,108,108,32,102,111,114,109,101,100]⟩:ByteArray),(161:Int),())) fun ⟨_,⟨f0,⟨h0,i0,_⟩,_⟩⟩ =>
 some (.inl (((f0,(h0,i0,()),()),()),())))
 fun ⟨⟨⟨j0,⟨k0,l0,_⟩,_⟩,_⟩,_⟩ =>
 bif j0 then
 bif decide (i.length=i.length) then
 bif decide (j.length=j.length) then
 bif decide (k.length=k.length) then
 some (((a,c,f,h,i,j,k,l,m,n,o,q,s,t,u,w,x,y,z,a0,[],()),(),(),(),()),(true,(k0,l0,()),dflt (.pair .bool (.pair .unit .unit))))
 else none
 else none
 else none
 else
 bif decide (i.length=i.length) then
 bif decide (j.length=j.length) then
 bif decide (k.length=k.length) then
 some (((a,c,f,h,i,j,k,l,m,n,o,q,s,t,u,w,x,y,z,a0,[],()),(),(),(),()),(false,dflt (.pair .str (.pair (.int .i64) .unit)),(true,(),dflt .unit)))
 else none
 else none
 else none
else
 bif (m != f) then
 orK (E := ((Bool×((ByteArray×(Int×Unit))×Unit))×Unit)×Unit)
 (Option.bind (p74 fu ((⟨#[97,110,111,116,104,101,114,32,101,112,111,99,104]⟩:ByteArray),(162:Int),())) fun ⟨_,⟨m0,⟨n0,o0,_⟩,_⟩⟩ =>
 some (.inl (((m0,(n0,o0,()),()),()),())))
 fun ⟨⟨⟨j0,⟨k0,l0,_⟩,_⟩,_⟩,_⟩ =>
 bif j0 then
 bif decide (i.length=i.length) then
 bif decide (j.length=j.length) then
 bif decide (k.length=k.length) then
 some (((a,c,f,h,i,j,k,l,m,n,o,q,s,t,u,w,x,y,z,a0,[],()),(),(),(),()),(true,(k0,l0,()),dflt (.pair .bool (.pair .unit .unit))))
 else none
 else none
 else none
 else
 bif decide (i.length=i.length) then
 bif decide (j.length=j.length) then
 bif decide (k.length=k.length) then
 some (((a,c,f,h,i,j,k,l,m,n,o,q,s,t,u,w,x,y,z,a0,[],()),(),(),(),()),(false,dflt (.pair .str (.pair (.int .i64) .unit)),(true,(),dflt .unit)))
 else none
 else none
 else none
 else
 orK (E := ((Bool×((ByteArray×(Int×Unit))×(Bool×(Unit×Unit))))×Unit)×((Z0)×Unit))
 (bif decide (i.length=i.length) then
 bif decide (j.length=j.length) then
 bif decide (k.length=k.length) then
 Option.bind (p75 fu ((a,c,f,h,i,j,k,l,m,n,o,q,s,t,u,w,x,y,z,a0,(),()),())) fun ⟨⟨⟨q0,s0,t0,u0,w0,x0,y0,z0,a1,c1,f1,h1,i1,j1,k1,l1,m1,n1,o1,q1,_,_⟩,_,_,_,_⟩,⟨s1,⟨t1,u1,_⟩,⟨w1,_,_⟩⟩⟩ =>
 bif s1 then
 bif decide (w0.length=w0.length) then
 bif decide (x0.length=x0.length) then
 bif decide (y0.length=y0.length) then
 some (.inl (((true,(t1,u1,()),dflt (.pair .bool (.pair .unit .unit))),()),((q0,s0,t0,u0,w0,x0,y0,z0,a1,c1,f1,h1,i1,j1,k1,l1,m1,n1,o1,q1,(),()),())))
 else none
 else none
 else none
 else
 bif w1 then
 bif decide (w0.length=w0.length) then
 bif decide (x0.length=x0.length) then
 bif decide (y0.length=y0.length) then
 some (.inl (((false,dflt (.pair .str (.pair (.int .i64) .unit)),(true,(),dflt .unit)),()),((q0,s0,t0,u0,w0,x0,y0,z0,a1,c1,f1,h1,i1,j1,k1,l1,m1,n1,o1,q1,(),()),())))
 else none
 else none
 else none
 else
 bif decide (w0.length=w0.length) then
 bif decide (x0.length=x0.length) then
 bif decide (y0.length=y0.length) then
 some (.inl (((false,dflt (.pair .str (.pair (.int .i64) .unit)),(false,dflt .unit,())),()),((q0,s0,t0,u0,w0,x0,y0,z0,a1,c1,f1,h1,i1,j1,k1,l1,m1,n1,o1,q1,(),()),())))
 else none
 else none
 else none
 else none
 else none
 else none)
 fun ⟨⟨⟨x1,⟨y1,z1,_⟩,⟨a2,_,_⟩⟩,_⟩,⟨⟨c2,f2,h2,i2,j2,k2,l2,m2,n2,o2,q2,s2,t2,u2,w2,x2,y2,z2,a3,c3,_,_⟩,_⟩⟩ =>
 bif x1 then
 bif decide (j2.length=j2.length) then
 bif decide (k2.length=k2.length) then
 bif decide (l2.length=l2.length) then
 some (((c2,f2,h2,i2,j2,k2,l2,m2,n2,o2,q2,s2,t2,u2,w2,x2,y2,z2,a3,c3,[],()),(),(),(),()),(true,(y1,z1,()),dflt (.pair .bool (.pair .unit .unit))))
 else none
 else none
 else none
 else
 bif a2 then
 bif (m2==(1:Int)) then
 orK (E := ((Bool×((ByteArray×(Int×Unit))×Unit))×Unit)×((Z0)×Unit))
 (bif decide (j2.length=j2.length) then
 bif decide (k2.length=k2.length) then
 bif decide (l2.length=l2.length) then
 Option.bind (p76 fu ((c2,f2,h2,i2,j2,k2,l2,m2,n2,o2,q2,s2,t2,u2,w2,x2,y2,z2,a3,c3,(),()),())) fun ⟨⟨⟨f3,h3,i3,j3,k3,l3,m3,n3,o3,q3,s3,t3,u3,w3,x3,y3,z3,a4,c4,f4,_,_⟩,_,_,_,_⟩,⟨h4,⟨i4,j4,_⟩,_⟩⟩ =>
 bif decide (l3.length=l3.length) then
 bif decide (m3.length=m3.length) then
 some (.inl (((h4,(i4,j4,()),()),()),((f3,h3,i3,j3,k3,l3,m3,n3,o3,q3,s3,t3,u3,w3,x3,y3,z3,a4,c4,f4,(),()),())))
 else none
 else none
 else none
 else none
 else none)
 fun ⟨⟨⟨j0,⟨k0,l0,_⟩,_⟩,_⟩,⟨⟨c2,f2,h2,i2,j2,k2,l2,m2,n2,o2,q2,s2,t2,u2,w2,x2,y2,z2,a3,c3,_,_⟩,_⟩⟩ =>
 bif j0 then
 bif decide (k2.length=k2.length) then
 bif decide (l2.length=l2.length) then
 some (((c2,f2,h2,i2,j2,k2,l2,m2,n2,o2,q2,s2,t2,u2,w2,x2,y2,z2,a3,c3,[],()),(),(),(),()),(true,(k0,l0,()),dflt (.pair .bool (.pair .unit .unit))))
 else none
 else none
 else
 bif decide (k2.length=k2.length) then
 bif decide (l2.length=l2.length) then
 some (((c2,f2,h2,i2,j2,k2,l2,m2,n2,o2,q2,s2,t2,u2,w2,x2,y2,z2,a3,c3,[],()),(),(),(),()),(false,dflt (.pair .str (.pair (.int .i64) .unit)),(true,(),dflt .unit)))
 else none
 else none
 else
 bif (m2==(2:Int)) then
 orK (E := ((Bool×((ByteArray×(Int×Unit))×Unit))×Unit)×((Z2)×Unit))
 (bif decide (j2.length=j2.length) then
 bif decide (k2.length=k2.length) then
 bif decide (l2.length=l2.length) then
 Option.bind (p77 fu ((c2,f2,h2,i2,j2,k2,l2,m2,n2,o2,q2,s2,t2,u2,w2,x2,y2,z2,a3,c3,(),()),())) fun ⟨⟨⟨k4,l4,m4,n4,o4,q4,s4,t4,u4,w4,x4,y4,z4,a5,c5,f5,h5,i5,j5,k5,l5,_⟩,_,_,_,_⟩,⟨m5,⟨n5,o5,_⟩,_⟩⟩ =>
 bif decide (q4.length=q4.length) then
 bif decide (s4.length=s4.length) then
 bif decide (l5.length=l5.length) then
 some (.inl (((m5,(n5,o5,()),()),()),((k4,l4,m4,n4,o4,q4,s4,t4,u4,w4,x4,y4,z4,a5,c5,f5,h5,i5,j5,k5,l5,()),())))
 else none
 else none
 else none
 else none
 else none
 else none)
 fun ⟨⟨⟨j0,⟨k0,l0,_⟩,_⟩,_⟩,⟨⟨c2,f2,h2,i2,j2,k2,l2,m2,n2,o2,q2,s2,t2,u2,w2,x2,y2,z2,a3,c3,q5,_⟩,_⟩⟩ =>
 bif j0 then
 bif decide (k2.length=k2.length) then
 bif decide (l2.length=l2.length) then
 bif decide (q5.length=q5.length) then
 some (((c2,f2,h2,i2,j2,k2,l2,m2,n2,o2,q2,s2,t2,u2,w2,x2,y2,z2,a3,c3,q5,()),(),(),(),()),(true,(k0,l0,()),dflt (.pair .bool (.pair .unit .unit))))
 else none
 else none
 else none
 else
 bif decide (k2.length=k2.length) then
 bif decide (l2.length=l2.length) then
 bif decide (q5.length=q5.length) then
 some (((c2,f2,h2,i2,j2,k2,l2,m2,n2,o2,q2,s2,t2,u2,w2,x2,y2,z2,a3,c3,q5,()),(),(),(),()),(false,dflt (.pair .str (.pair (.int .i64) .unit)),(true,(),dflt .unit)))
 else none
 else none
 else none
 else
 bif (m2==(3:Int)) then
 orK (E := ((Bool×((ByteArray×(Int×Unit))×Unit))×Unit)×((Z0)×Unit))
 (bif decide (j2.length=j2.length) then
 bif decide (k2.length=k2.length) then
 bif decide (l2.length=l2.length) then
 Option.bind (p78 fu ((c2,f2,h2,i2,j2,k2,l2,m2,n2,o2,q2,s2,t2,u2,w2,x2,y2,z2,a3,c3,(),()),())) fun ⟨⟨⟨s5,t5,u5,w5,x5,y5,z5,a6,c6,f6,h6,i6,j6,k6,l6,m6,n6,o6,q6,s6,_,_⟩,_,_,_,_⟩,⟨t6,⟨u6,w6,_⟩,_⟩⟩ =>
 bif decide (x5.length=x5.length) then
 bif decide (y5.length=y5.length) then
 bif decide (z5.length=z5.length) then
 some (.inl (((t6,(u6,w6,()),()),()),((s5,t5,u5,w5,x5,y5,z5,a6,c6,f6,h6,i6,j6,k6,l6,m6,n6,o6,q6,s6,(),()),())))
 else none
 else none
 else none
 else none
 else none
 else none)
 fun ⟨⟨⟨j0,⟨k0,l0,_⟩,_⟩,_⟩,⟨⟨c2,f2,h2,i2,j2,k2,l2,m2,n2,o2,q2,s2,t2,u2,w2,x2,y2,z2,a3,c3,_,_⟩,_⟩⟩ =>
 bif j0 then
 bif decide (j2.length=j2.length) then
 bif decide (k2.length=k2.length) then
 bif decide (l2.length=l2.length) then
 some (((c2,f2,h2,i2,j2,k2,l2,m2,n2,o2,q2,s2,t2,u2,w2,x2,y2,z2,a3,c3,[],()),(),(),(),()),(true,(k0,l0,()),dflt (.pair .bool (.pair .unit .unit))))
 else none
 else none
 else none
 else
 bif decide (j2.length=j2.length) then
 bif decide (k2.length=k2.length) then
 bif decide (l2.length=l2.length) then
 some (((c2,f2,h2,i2,j2,k2,l2,m2,n2,o2,q2,s2,t2,u2,w2,x2,y2,z2,a3,c3,[],()),(),(),(),()),(false,dflt (.pair .str (.pair (.int .i64) .unit)),(true,(),dflt .unit)))
 else none
 else none
 else none
 else
 bif (m2==(4:Int)) then
 bif decide (l2.length=l2.length) then
 Option.bind (p79 fu (l2,x2,())) fun ⟨_,⟨x6,y6,_⟩⟩ =>
 bif decide (j2.length=j2.length) then
 bif decide (k2.length=k2.length) then
 bif decide (l2.length=l2.length) then
 some (((c2,f2,h2,i2,j2,k2,l2,m2,n2,o2,q2,s2,t2,u2,w2,x2,y2,z2,x6,y6,[],()),(),(),(),()),(false,dflt (.pair .str (.pair (.int .i64) .unit)),(true,(),dflt .unit)))
 else none
 else none
 else none
 else none
 else
 bif (m2==(5:Int)) then
 bif decide (j2.length=j2.length) then
 bif decide (k2.length=k2.length) then
 bif decide (l2.length=l2.length) then
 some (((c2,f2,h2,y2,j2,k2,l2,m2,n2,o2,q2,s2,t2,u2,w2,x2,y2,z2,a3,(i2 != (0:Int)),[],()),(),(),(),()),(false,dflt (.pair .str (.pair (.int .i64) .unit)),(true,(),dflt .unit)))
 else none
 else none
 else none
 else
 bif (m2==(6:Int)) then
 bif decide (j2.length=j2.length) then
 bif decide (k2.length=k2.length) then
 bif decide (l2.length=l2.length) then
 some (((c2,f2,h2,(0:Int),j2,k2,l2,m2,n2,o2,q2,s2,t2,u2,w2,x2,y2,z2,a3,(i2==(0:Int)),[],()),(),(),(),()),(false,dflt (.pair .str (.pair (.int .i64) .unit)),(true,(),dflt .unit)))
 else none
 else none
 else none
 else
 bif decide (j2.length=j2.length) then
 bif decide (k2.length=k2.length) then
 bif decide (l2.length=l2.length) then
 some (((c2,f2,h2,i2,j2,k2,l2,m2,n2,o2,q2,s2,t2,u2,w2,x2,y2,z2,a3,c3,[],()),(),(),(),()),(false,dflt (.pair .str (.pair (.int .i64) .unit)),(true,(),dflt .unit)))
 else none
 else none
 else none
 else
 bif decide (j2.length=j2.length) then
 bif decide (k2.length=k2.length) then
 bif decide (l2.length=l2.length) then
 some (((c2,f2,h2,i2,j2,k2,l2,m2,n2,o2,q2,s2,t2,u2,w2,x2,y2,z2,a3,c3,[],()),(),(),(),()),(false,dflt (.pair .str (.pair (.int .i64) .unit)),(false,dflt .unit,())))
 else none
 else none
 else none
def e43 (fu:Nat):Ent := ⟨43,(.cons Y12 .nil),(.cons Y16 (.cons .dead (.cons .dead (.cons .dead .nil)))),(.alt false (.ifc 86 (.look (.cons hT (.cons hI .nil)))) (.alt false (.nilv 1) (.cst 0 181))),p43 fu⟩
theorem g43 (fu:Nat):(e43 fu).Good Tryz.prog := Q0d Q0c Tryz.func43 fu [(5,(.ent (e73 fu))),(7,(.ent (e74 fu))),(20,(.ent (e74 fu))),(23,(.ent (e75 fu))),(37,(.ent (e76 fu))),(42,(.ent (e77 fu))),(47,(.ent (e78 fu))),(63,(.ent (e79 fu)))] [(3,⟨[2],(.cons (.alt false (.ifc 86 (.look (.cons hT (.cons hI .nil)))) (.nilv 1)) .nil),[],.nil,[],[0,1,2,3,5,6,7]⟩),(6,⟨[2],(.cons (.alt false (.ifc 86 (.look (.cons hT (.cons hI .nil)))) (.nilv 1)) .nil),[],.nil,[],[0,1,2,3,5,6,7]⟩),(8,⟨[3],(.cons (.alt false (.ifc 86 (.look (.cons hT (.cons hI .nil)))) (.alt false (.nilv 1) (.cst 0 181))) .nil),[(0,82,21)],(.cons Y13 .nil),[0],[1,2,3]⟩),(14,⟨[2],(.cons (.alt false (.ifc 86 (.look (.cons hT (.cons hI .nil)))) (.nilv 1)) .nil),[(0,82,21)],(.cons Y15 .nil),[],[1,2,3]⟩),(16,⟨[2],(.cons (.alt false (.ifc 86 (.look (.cons hT (.cons hI .nil)))) (.nilv 1)) .nil),[(0,82,21)],(.cons Y16 .nil),[],[1,2,3]⟩),(18,⟨[2],(.cons (.alt false (.ifc 86 (.look (.cons hT (.cons hI .nil)))) (.nilv 1)) .nil),[(0,82,21)],(.cons Y13 .nil),[],[1,2,3]⟩)] rs43 106 (l := [e73 fu,e74 fu,e74 fu,e75 fu,e76 fu,e77 fu,e78 fu,e79 fu]) ⟨g73 fu,g74 fu,g74 fu,g75 fu,g76 fu,g77 fu,g78 fu,g79 fu,trivial⟩
def rs9:List RVx := [(.cell 4 true 7),(.cell 5 true 4)]
def p9 (fu:Nat):(Z4)×((Z11)×Unit)→Option (Unit×((Z4)×((Int×(Int×(Bool×((List (D_api_Record))×Unit))))×Unit))) := fun ⟨⟨a,c,f,h,i,j,k,_⟩,⟨l,m,n,o,q,s,t,u,w,x,_⟩,_⟩ =>
Option.bind (p5 fu ((a,c,f,h,i,j,k,()),())) fun ⟨_,y⟩ =>
bif (y != (0:Int)) then
 some ((),(((⟨#[]⟩:ByteArray),(⟨#[]⟩:ByteArray),(0:Int),(0:Int),[],[],[],()),(y,(0:Int),false,[],()),()))
else
 Option.bind (p42 fu ((a,c,f,h,i,j,k,()),())) fun ⟨_,⟨z,a0,c0,f0,h0,i0,j0,_⟩⟩ =>
 orK (E := ((Bool×((ByteArray×(Int×Unit))×(Bool×(Unit×Unit))))×Unit)×((Z2)×Unit))
 (bif decide (h0.length=h0.length) then
 bif decide (i0.length=i0.length) then
 bif decide (j0.length=j0.length) then
 Option.bind (p43 fu ((z,a0,c0,f0,h0,i0,j0,l,m,n,o,q,s,t,u,w,x,(0:Int),(0:Int),false,(),()),())) fun ⟨⟨⟨k0,l0,m0,n0,o0,q0,s0,t0,u0,w0,x0,y0,z0,a1,c1,f1,h1,i1,j1,k1,l1,_⟩,_,_,_,_⟩,⟨m1,⟨n1,o1,_⟩,⟨q1,_,_⟩⟩⟩ =>
 bif m1 then
 bif decide (q0.length=q0.length) then
 bif decide (s0.length=s0.length) then
 bif decide (l1.length=l1.length) then
 some (.inl (((true,(n1,o1,()),dflt (.pair .bool (.pair .unit .unit))),()),((k0,l0,m0,n0,o0,q0,s0,t0,u0,w0,x0,y0,z0,a1,c1,f1,h1,i1,j1,k1,l1,()),())))
 else none
 else none
 else none
 else
 bif q1 then
 bif decide (q0.length=q0.length) then
 bif decide (s0.length=s0.length) then
 bif decide (l1.length=l1.length) then
 some (.inl (((false,dflt (.pair .str (.pair (.int .i64) .unit)),(true,(),dflt .unit)),()),((k0,l0,m0,n0,o0,q0,s0,t0,u0,w0,x0,y0,z0,a1,c1,f1,h1,i1,j1,k1,l1,()),())))
 else none
 else none
 else none
 else
 bif decide (q0.length=q0.length) then
 bif decide (s0.length=s0.length) then
 bif decide (l1.length=l1.length) then
 some (.inl (((false,dflt (.pair .str (.pair (.int .i64) .unit)),(false,dflt .unit,())),()),((k0,l0,m0,n0,o0,q0,s0,t0,u0,w0,x0,y0,z0,a1,c1,f1,h1,i1,j1,k1,l1,()),())))
 else none
 else none
 else none
 else none
 else none
 else none)
 fun ⟨⟨⟨s1,⟨t1,u1,_⟩,⟨w1,_,_⟩⟩,_⟩,⟨⟨x1,y1,z1,a2,c2,f2,h2,_,_,_,_,_,_,_,_,_,_,i2,j2,k2,l2,_⟩,_⟩⟩ =>
 bif s1 then
 orK (E := Unit×Unit)
 (orK (E := (Bool×Unit)×(((Bool×(Unit×(ByteArray×(Int×Unit))))×Unit)×Unit))
 (Option.bind (pIs fu ((false,dflt .unit,(true,(t1,u1,()),dflt .unit)),(),())) fun ⟨_,m2⟩ =>
 bif !m2 then
 Option.bind (pAsR fu ((false,dflt .unit,(true,(t1,u1,()),dflt .unit)),((),()),())) fun ⟨⟨⟨⟨n2,_,⟨o2,q2,_⟩⟩,_⟩,_⟩,s2⟩ =>
 bif n2 then
 some (.inl ((s2,()),(((true,(),dflt (.pair .str (.pair (.int .i64) .unit))),()),())))
 else
 some (.inl ((s2,()),(((false,dflt .unit,(o2,q2,())),()),())))
 else
 some (.inl ((false,()),(((true,(),dflt (.pair .str (.pair (.int .i64) .unit))),()),()))))
 fun ⟨⟨t2,_⟩,⟨⟨⟨u2,_,⟨_,w2,_⟩⟩,_⟩,_⟩⟩ =>
 bif u2 then
 bif t2 then
 Option.bind (p42 fu ((a,c,f,h,i,j,k,()),())) fun ⟨_,⟨_,_,_,_,_,_,_,_⟩⟩ =>
 none
 else
 some (.inl ((),()))
 else
 bif t2 then
 Option.bind (p42 fu ((a,c,f,h,i,j,k,()),())) fun ⟨_,⟨x2,y2,z2,a3,c3,f3,h3,_⟩⟩ =>
 inrO (bif decide (c3.length=c3.length) then
 bif decide (f3.length=f3.length) then
 bif decide (h3.length=h3.length) then
 some ((),((x2,y2,z2,a3,c3,f3,h3,()),(w2,(0:Int),false,[],()),()))
 else none
 else none
 else none)
 else
 some (.inl ((),())))
 fun ⟨_,_⟩ =>
 bif decide (f2.length=f2.length) then
 bif decide (h2.length=h2.length) then
 bif decide (l2.length=l2.length) then
 some ((),((x1,y1,z1,a2,c2,f2,h2,()),(i2,j2,k2,l2,()),()))
 else none
 else none
 else none
 else
 bif w1 then
 orK (E := Unit×Unit)
 (orK (E := (Bool×Unit)×(((Bool×(Unit×(ByteArray×(Int×Unit))))×Unit)×Unit))
 (Option.bind (pIs fu ((true,(),dflt (.pair .bool (.pair (.pair .str (.pair (.int .i64) .unit)) .unit))),(),())) fun ⟨_,i3⟩ =>
 bif !i3 then
 Option.bind (pAsR fu ((true,(),dflt (.pair .bool (.pair (.pair .str (.pair (.int .i64) .unit)) .unit))),((),()),())) fun ⟨⟨⟨⟨j3,_,⟨k3,l3,_⟩⟩,_⟩,_⟩,m3⟩ =>
 bif j3 then
 some (.inl ((m3,()),(((true,(),dflt (.pair .str (.pair (.int .i64) .unit))),()),())))
 else
 some (.inl ((m3,()),(((false,dflt .unit,(k3,l3,())),()),())))
 else
 some (.inl ((false,()),(((true,(),dflt (.pair .str (.pair (.int .i64) .unit))),()),()))))
 fun ⟨⟨t2,_⟩,⟨⟨⟨u2,_,⟨_,w2,_⟩⟩,_⟩,_⟩⟩ =>
 bif u2 then
 bif t2 then
 Option.bind (p42 fu ((a,c,f,h,i,j,k,()),())) fun ⟨_,⟨_,_,_,_,_,_,_,_⟩⟩ =>
 none
 else
 some (.inl ((),()))
 else
 bif t2 then
 Option.bind (p42 fu ((a,c,f,h,i,j,k,()),())) fun ⟨_,⟨n3,o3,q3,s3,t3,u3,w3,_⟩⟩ =>
 inrO (bif decide (t3.length=t3.length) then
 bif decide (u3.length=u3.length) then
 bif decide (w3.length=w3.length) then
 some ((),((n3,o3,q3,s3,t3,u3,w3,()),(w2,(0:Int),false,[],()),()))
 else none
 else none
 else none)
 else
 some (.inl ((),())))
 fun ⟨_,_⟩ =>
 bif decide (f2.length=f2.length) then
 bif decide (h2.length=h2.length) then
 bif decide (l2.length=l2.length) then
 some ((),((x1,y1,z1,a2,c2,f2,h2,()),(i2,j2,k2,l2,()),()))
 else none
 else none
 else none
 else
 orK (E := Unit×Unit)
 (orK (E := (Bool×Unit)×(((Bool×(Unit×(ByteArray×(Int×Unit))))×Unit)×Unit))
 (Option.bind (pIs fu ((false,dflt .unit,(false,dflt (.pair .str (.pair (.int .i64) .unit)),())),(),())) fun ⟨_,x3⟩ =>
 bif !x3 then
 Option.bind (pAsR fu ((false,dflt .unit,(false,dflt (.pair .str (.pair (.int .i64) .unit)),())),((),()),())) fun ⟨⟨⟨⟨y3,_,⟨z3,a4,_⟩⟩,_⟩,_⟩,c4⟩ =>
 bif y3 then
 some (.inl ((c4,()),(((true,(),dflt (.pair .str (.pair (.int .i64) .unit))),()),())))
 else
 some (.inl ((c4,()),(((false,dflt .unit,(z3,a4,())),()),())))
 else
 some (.inl ((false,()),(((true,(),dflt (.pair .str (.pair (.int .i64) .unit))),()),()))))
 fun ⟨⟨t2,_⟩,⟨⟨⟨u2,_,⟨_,w2,_⟩⟩,_⟩,_⟩⟩ =>
 bif u2 then
 bif t2 then
 Option.bind (p42 fu ((a,c,f,h,i,j,k,()),())) fun ⟨_,⟨_,_,_,_,_,_,_,_⟩⟩ =>
 none
 else
 some (.inl ((),()))
 else
 bif t2 then
 Option.bind (p42 fu ((a,c,f,h,i,j,k,()),())) fun ⟨_,⟨f4,h4,i4,j4,k4,l4,m4,_⟩⟩ =>
 inrO (bif decide (k4.length=k4.length) then
 bif decide (l4.length=l4.length) then
 bif decide (m4.length=m4.length) then
 some ((),((f4,h4,i4,j4,k4,l4,m4,()),(w2,(0:Int),false,[],()),()))
 else none
 else none
 else none)
 else
 some (.inl ((),())))
 fun ⟨_,_⟩ =>
 bif decide (f2.length=f2.length) then
 bif decide (h2.length=h2.length) then
 bif decide (l2.length=l2.length) then
 some ((),((x1,y1,z1,a2,c2,f2,h2,()),(i2,j2,k2,l2,()),()))
 else none
 else none
 else none
def e9 (fu:Nat):Ent := ⟨9,(.cons Y6 (.cons Y8 .nil)),.nil,(.tup 2 (.cons Y17 (.cons Y18 .nil))),p9 fu⟩
theorem g9 (fu:Nat):(e9 fu).Good Tryz.prog := Q0d Q0c Tryz.func9 fu [(5,(.ent (e5 fu))),(15,(.ent (e42 fu))),(21,(.ent (e43 fu))),(26,(.ent (eIs fu))),(31,(.ent (eAsR fu))),(34,(.ent (e42 fu)))] [(6,⟨[8],(.cons (.alt false (.ifc 86 (.look (.cons hT (.cons hI .nil)))) (.alt false (.nilv 1) (.cst 0 181))) .nil),[(208,82,21)],(.cons Y16 .nil),[2,4,5,7],[0,32,48]⟩),(8,⟨[],.nil,[],.nil,[4,5,7],[32,48,208,240,241,242]⟩),(9,⟨[32],(.cons (.hole .bool) .nil),[(243,86,1)],(.cons (.agg 1 (.cons (.alt false .nilp (.look (.cons hT (.cons hI .nil)))) .nil)) .nil),[2,4,5,7,9],[0,32,48,208,240,241,242]⟩)] rs9 48 (l := [e5 fu,e42 fu,e43 fu,eIs fu,eAsR fu,e42 fu]) ⟨g5 fu,g42 fu,g43 fu,gIs fu,gAsR fu,g42 fu,trivial⟩
def rs4:List RVx := [(.tmp 0)]
def p4 (fu:Nat):Unit→Option (Unit×Bool) := fun _ =>
Option.bind (p14 fu (((⟨#[]⟩:ByteArray),(⟨#[]⟩:ByteArray),()),(1:Int),())) fun ⟨_,⟨⟨a,c,f,h,i,j,k,_⟩,l,_⟩⟩ =>
Option.bind (p16 fu ((1:Int),(⟨#[107]⟩:ByteArray),())) fun ⟨_,⟨m,n,o,q,s,t,u,w,x,y,_⟩⟩ =>
Option.bind (p9 fu ((a,c,f,h,i,j,k,()),(m,n,o,q,s,t,u,w,x,y,()),())) fun ⟨_,⟨⟨z,a0,c0,f0,h0,i0,j0,_⟩,⟨k0,_,_,_,_⟩,_⟩⟩ =>
Option.bind (p16 fu ((1:Int),(⟨#[107]⟩:ByteArray),())) fun ⟨_,⟨l0,m0,n0,o0,q0,s0,t0,u0,w0,x0,_⟩⟩ =>
bif decide (i0.length=i0.length) then
 bif decide (j0.length=j0.length) then
 Option.bind (p9 fu ((z,a0,c0,f0,h0,i0,j0,()),(l0,m0,n0,o0,q0,s0,t0,u0,w0,x0,()),())) fun ⟨_,⟨⟨_,_,_,_,_,_,_,_⟩,⟨y0,_,z0,_,_⟩,_⟩⟩ =>
 bif (l==(0:Int)) then
 bif (k0==(0:Int)) then
 bif ((h0.length:Int)==(1:Int)) then
 bif z0 then
 some ((),(y0==(0:Int)))
 else
 some ((),false)
 else
 some ((),false)
 else
 some ((),false)
 else
 some ((),false)
 else none
else none
def e4 (fu:Nat):Ent := ⟨4,.nil,.nil,(.hole .bool),p4 fu⟩
theorem g4 (fu:Nat):(e4 fu).Good Tryz.prog := Q0d Q0c Tryz.func4 fu [(2,(.ent (e14 fu))),(10,(.ent (e16 fu))),(11,(.ent (e9 fu))),(20,(.ent (e16 fu))),(21,(.ent (e9 fu)))] [] rs4 46 (l := [e14 fu,e16 fu,e9 fu,e16 fu,e9 fu]) ⟨g14 fu,g16 fu,g9 fu,g16 fu,g9 fu,trivial⟩
def rs24:List RVx := [(.tmp 2)]
def p24 (fu:Nat):(List (D_api_Record))×Unit→Option (Unit×Bool) := fun ⟨a,_⟩ =>
bif decide ((a.length:Int)>(4096:Int)) then
 some ((),false)
else
 loopO (S := (Int×Unit)×Unit) fu (fun ⟨⟨c,_⟩,_⟩ =>
 bif decide (c<(a.length:Int)) then
 bif decide ((0:Int)≤c∧c<(a.length:Int)) then
 bif decide (c.toNat<a.length) then
 bif (((a.getD (c.toNat) (dflt T_api_Record)).1) != (IntKind.wrap .u64 c)) then
 inrO (some ((),false))
 else
 bif decide ((0:Int)≤c∧c<(a.length:Int)) then
 bif decide (c.toNat<a.length) then
 bif decide ((ByteArray.size (((a.getD (c.toNat) (dflt T_api_Record)).2).1):Int)>(32:Int)) then
 inrO (some ((),false))
 else
 bif decide ((0:Int)≤c∧c<(a.length:Int)) then
 bif decide (c.toNat<a.length) then
 bif decide ((List.length ((((a.getD (c.toNat) (dflt T_api_Record)).2).2).1):Int)>(256:Int)) then
 inrO (some ((),false))
 else
 some (.inl ((IntKind.wrap .i64 (c+(1:Int)),()),()))
 else none
 else none
 else none
 else none
 else none
 else none
 else
 inrO (some ((),true)))
 (((0:Int),()),())
def e24 (fu:Nat):Ent := ⟨24,(.cons (.hole (.sl .any T_api_Record)) .nil),.nil,(.hole .bool),p24 fu⟩
theorem g24 (fu:Nat):(e24 fu).Good Tryz.prog := Q0d Q0c Tryz.func24 fu [] [(6,⟨[3],(.cons hI .nil),[],.nil,[0],[]⟩)] rs24 39 (l := []) trivial
def rs25:List RVx := [(.tmp 2)]
def p25 (fu:Nat):(List (D_api_Producer))×Unit→Option (Unit×Bool) := fun ⟨a,_⟩ =>
bif decide ((a.length:Int)>(256:Int)) then
 some ((),false)
else
 loopO (S := (Int×Unit)×Unit) fu (fun ⟨⟨c,_⟩,_⟩ =>
 bif decide (c<(a.length:Int)) then
 bif decide ((0:Int)≤c∧c<(a.length:Int)) then
 bif decide (c.toNat<a.length) then
 bif (((a.getD (c.toNat) (dflt T_api_Producer)).1)==(0:Int)) then
 inrO (some ((),false))
 else
 bif decide ((0:Int)≤c∧c<(a.length:Int)) then
 bif decide (c.toNat<a.length) then
 bif decide ((((a.getD (c.toNat) (dflt T_api_Producer)).2).1)<(1:Int)) then
 inrO (some ((),false))
 else
 bif decide ((0:Int)≤c∧c<(a.length:Int)) then
 bif decide (c.toNat<a.length) then
 bif decide ((((a.getD (c.toNat) (dflt T_api_Producer)).2).1)>(9223372036854775807:Int)) then
 inrO (some ((),false))
 else
 bif decide ((0:Int)≤c∧c<(a.length:Int)) then
 bif decide (c.toNat<a.length) then
 bif !((((a.getD (c.toNat) (dflt T_api_Producer)).2).2).1) then
 bif decide ((0:Int)≤c∧c<(a.length:Int)) then
 bif decide (c.toNat<a.length) then
 bif (((((a.getD (c.toNat) (dflt T_api_Producer)).2).2).2) != (0:Int)) then
 inrO (some ((),false))
 else
 bif decide (c>(0:Int)) then
 bif decide ((0:Int)≤IntKind.wrap .i64 (c-(1:Int))∧IntKind.wrap .i64 (c-(1:Int))<(a.length:Int)) then
 bif decide (Int.toNat (IntKind.wrap .i64 (c-(1:Int)))<a.length) then
 bif decide ((0:Int)≤c∧c<(a.length:Int)) then
 bif decide (c.toNat<a.length) then
 bif decide (((a.getD (Int.toNat (IntKind.wrap .i64 (c-(1:Int)))) (dflt T_api_Producer)).1)≥((a.getD (c.toNat) (dflt T_api_Producer)).1)) then
 inrO (some ((),false))
 else
 some (.inl ((IntKind.wrap .i64 (c+(1:Int)),()),()))
 else none
 else none
 else none
 else none
 else
 some (.inl ((IntKind.wrap .i64 (c+(1:Int)),()),()))
 else none
 else none
 else
 bif decide (c>(0:Int)) then
 bif decide ((0:Int)≤IntKind.wrap .i64 (c-(1:Int))∧IntKind.wrap .i64 (c-(1:Int))<(a.length:Int)) then
 bif decide (Int.toNat (IntKind.wrap .i64 (c-(1:Int)))<a.length) then
 bif decide ((0:Int)≤c∧c<(a.length:Int)) then
 bif decide (c.toNat<a.length) then
 bif decide (((a.getD (Int.toNat (IntKind.wrap .i64 (c-(1:Int)))) (dflt T_api_Producer)).1)≥((a.getD (c.toNat) (dflt T_api_Producer)).1)) then
 inrO (some ((),false))
 else
 some (.inl ((IntKind.wrap .i64 (c+(1:Int)),()),()))
 else none
 else none
 else none
 else none
 else
 some (.inl ((IntKind.wrap .i64 (c+(1:Int)),()),()))
 else none
 else none
 else none
 else none
 else none
 else none
 else none
 else none
 else
 inrO (some ((),true)))
 (((0:Int),()),())
def e25 (fu:Nat):Ent := ⟨25,(.cons (.hole (.sl .any T_api_Producer)) .nil),.nil,(.hole .bool),p25 fu⟩
theorem g25 (fu:Nat):(e25 fu).Good Tryz.prog := Q0d Q0c Tryz.func25 fu [] [(6,⟨[3],(.cons hI .nil),[],.nil,[0],[]⟩)] rs25 69 (l := []) trivial
def rs66:List RVx := [(.tmp 2)]
def p66 (fu:Nat):ByteArray×Unit→Option (Unit×Bool) := fun ⟨a,_⟩ =>
bif decide ((ByteArray.size a:Int)<(1:Int)) then
 some ((),false)
else
 bif decide ((ByteArray.size a:Int)>(32:Int)) then
 some ((),false)
 else
 loopO (S := (Int×Unit)×Unit) fu (fun ⟨⟨c,_⟩,_⟩ =>
 bif decide (c<(ByteArray.size a:Int)) then
 bif decide ((0:Int)≤c∧c<(ByteArray.size a:Int)) then
 bif decide ((bAt a (c.toNat))<(97:Int)) then
 bif decide ((bAt a (c.toNat))<(48:Int)) then
 bif ((bAt a (c.toNat)) != (45:Int)) then
 bif ((bAt a (c.toNat)) != (95:Int)) then
 bif ((bAt a (c.toNat)) != (46:Int)) then
 inrO (some ((),false))
 else
 some (.inl ((IntKind.wrap .i64 (c+(1:Int)),()),()))
 else
 some (.inl ((IntKind.wrap .i64 (c+(1:Int)),()),()))
 else
 some (.inl ((IntKind.wrap .i64 (c+(1:Int)),()),()))
 else
 bif decide ((bAt a (c.toNat))>(57:Int)) then
 bif ((bAt a (c.toNat)) != (45:Int)) then
 bif ((bAt a (c.toNat)) != (95:Int)) then
 bif ((bAt a (c.toNat)) != (46:Int)) then
 inrO (some ((),false))
 else
 some (.inl ((IntKind.wrap .i64 (c+(1:Int)),()),()))
 else
 some (.inl ((IntKind.wrap .i64 (c+(1:Int)),()),()))
 else
 some (.inl ((IntKind.wrap .i64 (c+(1:Int)),()),()))
 else
 some (.inl ((IntKind.wrap .i64 (c+(1:Int)),()),()))
 else
 bif decide ((bAt a (c.toNat))>(122:Int)) then
 bif decide ((bAt a (c.toNat))<(48:Int)) then
 bif ((bAt a (c.toNat)) != (45:Int)) then
 bif ((bAt a (c.toNat)) != (95:Int)) then
 bif ((bAt a (c.toNat)) != (46:Int)) then
 inrO (some ((),false))
 else
 some (.inl ((IntKind.wrap .i64 (c+(1:Int)),()),()))
 else
 some (.inl ((IntKind.wrap .i64 (c+(1:Int)),()),()))
 else
 some (.inl ((IntKind.wrap .i64 (c+(1:Int)),()),()))
 else
 bif decide ((bAt a (c.toNat))>(57:Int)) then
 bif ((bAt a (c.toNat)) != (45:Int)) then
 bif ((bAt a (c.toNat)) != (95:Int)) then
 bif ((bAt a (c.toNat)) != (46:Int)) then
 inrO (some ((),false))
 else
 some (.inl ((IntKind.wrap .i64 (c+(1:Int)),()),()))
 else
 some (.inl ((IntKind.wrap .i64 (c+(1:Int)),()),()))
 else
 some (.inl ((IntKind.wrap .i64 (c+(1:Int)),()),()))
 else
 some (.inl ((IntKind.wrap .i64 (c+(1:Int)),()),()))
 else
 some (.inl ((IntKind.wrap .i64 (c+(1:Int)),()),()))
 else none
 else
 inrO (some ((),true)))
 (((0:Int),()),())
def e66 (fu:Nat):Ent := ⟨66,(.cons hT .nil),.nil,(.hole .bool),p66 fu⟩
theorem g66 (fu:Nat):(e66 fu).Good Tryz.prog := Q0d Q0c Tryz.func66 fu [] [(6,⟨[3],(.cons hI .nil),[],.nil,[0],[]⟩)] rs66 48 (l := []) trivial
def rs26:List RVx := [(.tmp 2)]
def p26 (fu:Nat):(List (D_runtime_errorAddressString))×Unit→Option (Unit×Bool) := fun ⟨a,_⟩ =>
bif decide ((a.length:Int)>(64:Int)) then
 some ((),false)
else
 loopO (S := (Int×Unit)×Unit) fu (fun ⟨⟨c,_⟩,_⟩ =>
 bif decide (c<(a.length:Int)) then
 bif decide ((0:Int)≤c∧c<(a.length:Int)) then
 bif decide (c.toNat<a.length) then
 Option.bind (p66 fu ((a.getD (c.toNat) (dflt T_runtime_errorAddressString)).1,())) fun ⟨_,f⟩ =>
 bif !f then
 inrO (some ((),false))
 else
 bif decide (c>(0:Int)) then
 bif decide ((0:Int)≤IntKind.wrap .i64 (c-(1:Int))∧IntKind.wrap .i64 (c-(1:Int))<(a.length:Int)) then
 bif decide (Int.toNat (IntKind.wrap .i64 (c-(1:Int)))<a.length) then
 bif decide ((0:Int)≤c∧c<(a.length:Int)) then
 bif decide (c.toNat<a.length) then
 bif !Op.bytesLess (ByteArray.toList ((a.getD (Int.toNat (IntKind.wrap .i64 (c-(1:Int)))) (dflt T_runtime_errorAddressString)).1)) (ByteArray.toList ((a.getD (c.toNat) (dflt T_runtime_errorAddressString)).1)) then
 inrO (some ((),false))
 else
 some (.inl ((IntKind.wrap .i64 (c+(1:Int)),()),()))
 else none
 else none
 else none
 else none
 else
 some (.inl ((IntKind.wrap .i64 (c+(1:Int)),()),()))
 else none
 else none
 else
 inrO (some ((),true)))
 (((0:Int),()),())
def e26 (fu:Nat):Ent := ⟨26,(.cons (.hole (.sl .any T_runtime_errorAddressString)) .nil),.nil,(.hole .bool),p26 fu⟩
theorem g26 (fu:Nat):(e26 fu).Good Tryz.prog := Q0d Q0c Tryz.func26 fu [(15,(.ent (e66 fu)))] [(6,⟨[3],(.cons hI .nil),[],.nil,[0],[]⟩)] rs26 40 (l := [e66 fu]) ⟨g66 fu,trivial⟩
def rs27:List RVx := [(.tmp 2)]
def p27 (_:Nat):(ByteArray×(ByteArray×Unit))×Unit→Option (Unit×Int) := fun ⟨⟨a,c,_⟩,_⟩ =>
bif decide ((ByteArray.size a:Int)>(32:Int)) then
 some ((),(131:Int))
else
 bif decide ((ByteArray.size c:Int)>(32:Int)) then
 some ((),(131:Int))
 else
 bif !(ByteArray.toList c==ByteArray.toList (⟨#[]⟩:ByteArray)) then
 bif (Op.bytesLess (ByteArray.toList c) (ByteArray.toList a)||ByteArray.toList c==ByteArray.toList a) then
 some ((),(132:Int))
 else
 some ((),(0:Int))
 else
 some ((),(0:Int))
def e27 (fu:Nat):Ent := ⟨27,(.cons (.agg 2 (.cons hT (.cons hT .nil))) .nil),.nil,hI,p27 fu⟩
theorem g27 (fu:Nat):(e27 fu).Good Tryz.prog := Q0d Q0c Tryz.func27 fu [] [] rs27 23 (l := []) trivial
def rs28:List RVx := [(.tmp 4)]
def p28 (fu:Nat):(ByteArray×(ByteArray×Unit))×(ByteArray×Unit)→Option (Unit×Bool) := fun ⟨⟨a,c,_⟩,f,_⟩ =>
Option.bind (p27 fu ((a,c,()),())) fun ⟨_,h⟩ =>
bif (h==(0:Int)) then
 bif decide ((ByteArray.size f:Int)≤(32:Int)) then
 bif !Op.bytesLess (ByteArray.toList f) (ByteArray.toList a) then
 bif ByteArray.toList c==ByteArray.toList (⟨#[]⟩:ByteArray) then
 some ((),true)
 else
 some ((),Op.bytesLess (ByteArray.toList f) (ByteArray.toList c))
 else
 some ((),false)
 else
 some ((),false)
else
 some ((),false)
def e28 (fu:Nat):Ent := ⟨28,(.cons (.agg 2 (.cons hT (.cons hT .nil))) (.cons hT .nil)),.nil,(.hole .bool),p28 fu⟩
theorem g28 (fu:Nat):(e28 fu).Good Tryz.prog := Q0d Q0c Tryz.func28 fu [(3,(.ent (e27 fu)))] [] rs28 30 (l := [e27 fu]) ⟨g27 fu,trivial⟩
def rs29:List RVx := [(.tmp 4)]
def p29 (fu:Nat):(List (D_api_Producer))×(Int×Unit)→Option (Unit×Int) := fun ⟨a,c,_⟩ =>
loopO (S := (Int×Unit)×Unit) fu (fun ⟨⟨f,_⟩,_⟩ =>
 bif decide (f<(a.length:Int)) then
 bif decide ((0:Int)≤f∧f<(a.length:Int)) then
 bif decide (f.toNat<a.length) then
 bif (((a.getD (f.toNat) (dflt T_api_Producer)).1)==c) then
 inrO (some ((),f))
 else
 some (.inl ((IntKind.wrap .i64 (f+(1:Int)),()),()))
 else none
 else none
 else
 inrO (some ((),((-1):Int))))
 (((0:Int),()),())
def e29 (fu:Nat):Ent := ⟨29,(.cons (.hole (.sl .any T_api_Producer)) (.cons hU .nil)),.nil,hI,p29 fu⟩
theorem g29 (fu:Nat):(e29 fu).Good Tryz.prog := Q0d Q0c Tryz.func29 fu [] [(3,⟨[5],(.cons hI .nil),[],.nil,[0,1],[]⟩)] rs29 20 (l := []) trivial
def rs6:List RVx := [(.tmp 2)]
def p6 (fu:Nat):(Z4)×Unit→Option (Unit×Int) := fun ⟨⟨a,c,f,_,h,i,j,_⟩,_⟩ =>
Option.bind (p24 fu (h,())) fun ⟨_,k⟩ =>
Option.bind (p25 fu (i,())) fun ⟨_,l⟩ =>
Option.bind (p26 fu (j,())) fun ⟨_,m⟩ =>
Option.bind (p27 fu ((a,c,()),())) fun ⟨_,n⟩ =>
bif (n != (0:Int)) then
 some ((),(165:Int))
else
 bif (f==(0:Int)) then
 some ((),(165:Int))
 else
 bif !k then
 some ((),(165:Int))
 else
 bif !l then
 some ((),(165:Int))
 else
 bif !m then
 some ((),(165:Int))
 else
 bif decide ((0:Int)≤(i.length:Int)∧((i.length:Int):Int)≤(i.length:Int)∧((i.length:Int):Int)≤9223372036854775807∧(8:Int) * (i.length:Int)≤140737488355328) then
 bif decide (Int.toNat (i.length:Int)=List.length (List.replicate (Int.toNat (i.length:Int)) (0:Int):List Int)) then
 loopO (S := ((List Int)×(Int×Unit))×Unit) fu (fun ⟨⟨o,q,_⟩,_⟩ =>
 bif decide (q<(h.length:Int)) then
 bif decide ((0:Int)≤q∧q<(h.length:Int)) then
 bif decide (q.toNat<h.length) then
 Option.bind (p28 fu ((a,c,()),((h.getD (q.toNat) (dflt T_api_Record)).2).1,())) fun ⟨_,s⟩ =>
 Option.bind (p29 fu (i,((((h.getD (q.toNat) (dflt T_api_Record)).2).2).2).1,())) fun ⟨_,t⟩ =>
 bif !s then
 inrO (some ((),(165:Int)))
 else
 bif decide (t<(0:Int)) then
 inrO (some ((),(165:Int)))
 else
 bif decide ((0:Int)≤t∧t<(o.length:Int)) then
 bif decide (t.toNat<o.length) then
 bif decide ((((((h.getD (q.toNat) (dflt T_api_Record)).2).2).2).2)≤(o.getD (t.toNat) (dflt (.int .u64)))) then
 inrO (some ((),(165:Int)))
 else
 bif decide ((0:Int)≤t∧t<(i.length:Int)) then
 bif decide (t.toNat<i.length) then
 bif decide ((((((h.getD (q.toNat) (dflt T_api_Record)).2).2).2).2)>(((i.getD (t.toNat) (dflt T_api_Producer)).2).1)) then
 inrO (some ((),(165:Int)))
 else
 bif decide ((0:Int)≤t∧t<(o.length:Int)) then
 bif decide (t.toNat<o.length) then
 bif decide (o.length=List.length (List.set o (t.toNat) (((((h.getD (q.toNat) (dflt T_api_Record)).2).2).2).2))) then
 some (.inl (((List.set o (t.toNat) (((((h.getD (q.toNat) (dflt T_api_Record)).2).2).2).2)),IntKind.wrap .i64 (q+(1:Int)),()),()))
 else none
 else none
 else none
 else none
 else none
 else none
 else none
 else none
 else none
 else
 inrO (loopO (S := (Int×Unit)×Unit) fu (fun ⟨⟨u,_⟩,_⟩ =>
 bif decide (u<(i.length:Int)) then
 bif decide ((0:Int)≤u∧u<(i.length:Int)) then
 bif decide (u.toNat<i.length) then
 bif !((((i.getD (u.toNat) (dflt T_api_Producer)).2).2).1) then
 some (.inl ((IntKind.wrap .i64 (u+(1:Int)),()),()))
 else
 bif decide (((((i.getD (u.toNat) (dflt T_api_Producer)).2).2).2)≥(IntKind.wrap .u64 (h.length:Int))) then
 inrO (some ((),(165:Int)))
 else
 bif decide ((0:Int)≤IntKind.wrap .i64 ((((i.getD (u.toNat) (dflt T_api_Producer)).2).2).2)∧IntKind.wrap .i64 ((((i.getD (u.toNat) (dflt T_api_Producer)).2).2).2)<(h.length:Int)) then
 bif decide (Int.toNat (IntKind.wrap .i64 ((((i.getD (u.toNat) (dflt T_api_Producer)).2).2).2))<h.length) then
 bif ((((((h.getD (Int.toNat (IntKind.wrap .i64 ((((i.getD (u.toNat) (dflt T_api_Producer)).2).2).2))) (dflt T_api_Record)).2).2).2).1) != ((i.getD (u.toNat) (dflt T_api_Producer)).1)) then
 inrO (some ((),(165:Int)))
 else
 bif decide ((0:Int)≤IntKind.wrap .i64 ((((i.getD (u.toNat) (dflt T_api_Producer)).2).2).2)∧IntKind.wrap .i64 ((((i.getD (u.toNat) (dflt T_api_Producer)).2).2).2)<(h.length:Int)) then
 bif decide (Int.toNat (IntKind.wrap .i64 ((((i.getD (u.toNat) (dflt T_api_Producer)).2).2).2))<h.length) then
 bif ((((((h.getD (Int.toNat (IntKind.wrap .i64 ((((i.getD (u.toNat) (dflt T_api_Producer)).2).2).2))) (dflt T_api_Record)).2).2).2).2) != (((i.getD (u.toNat) (dflt T_api_Producer)).2).1)) then
 inrO (some ((),(165:Int)))
 else
 some (.inl ((IntKind.wrap .i64 (u+(1:Int)),()),()))
 else none
 else none
 else none
 else none
 else none
 else none
 else
 inrO (loopO (S := (Int×Unit)×Unit) fu (fun ⟨⟨w,_⟩,_⟩ =>
 bif decide (w<(j.length:Int)) then
 bif decide ((0:Int)≤w∧w<(j.length:Int)) then
 bif decide (w.toNat<j.length) then
 bif decide (((j.getD (w.toNat) (dflt T_runtime_errorAddressString)).2)>(IntKind.wrap .u64 (h.length:Int))) then
 inrO (some ((),(165:Int)))
 else
 some (.inl ((IntKind.wrap .i64 (w+(1:Int)),()),()))
 else none
 else none
 else
 inrO (some ((),(0:Int))))
 (((0:Int),()),())))
 (((0:Int),()),())))
 (((List.replicate (Int.toNat (i.length:Int)) (0:Int):List Int),(0:Int),()),())
 else none
 else none
def e6 (fu:Nat):Ent := ⟨6,(.cons Y6 .nil),.nil,hI,p6 fu⟩
theorem g6 (fu:Nat):(e6 fu).Good Tryz.prog := Q0d Q0c Tryz.func6 fu [(4,(.ent (e24 fu))),(8,(.ent (e25 fu))),(12,(.ent (e26 fu))),(16,(.ent (e27 fu))),(39,(.ty (.int .u64))),(58,(.ent (e28 fu))),(64,(.ent (e29 fu)))] [(10,⟨[6,7],(.cons (.own .own 24 (.int .u64)) (.cons hI .nil)),[],.nil,[1],[0]⟩),(22,⟨[11],(.cons hI .nil),[],.nil,[1],[0]⟩),(33,⟨[13],(.cons hI .nil),[],.nil,[1],[0]⟩)] rs6 167 (l := [e24 fu,e25 fu,e26 fu,e27 fu,e28 fu,e29 fu]) ⟨g24 fu,g25 fu,g26 fu,g27 fu,g28 fu,g29 fu,trivial⟩
def rs38:List RVx := [(.tmp 2)]
def p38 (fu:Nat):Int×Unit→Option (Unit×(List Int)) := fun ⟨a,_⟩ =>
loopO (S := (Int×((List Int)×Unit))×Unit) fu (fun ⟨⟨c,f,_⟩,_⟩ =>
 bif decide (c≥(128:Int)) then
 bif decide (f.length=f.length) then
 bif decide (f.length+List.length ([IntKind.wrap .u8 ((IntKind.wrap .u8 (IntKind.wrap .u64 ((BitVec.ofInt (IntKind.bits .u64) c &&& BitVec.ofInt (IntKind.bits .u64) (127:Int)).toNat:Int)))+(128:Int))])≤maxLen∧(f.length+List.length ([IntKind.wrap .u8 ((IntKind.wrap .u8 (IntKind.wrap .u64 ((BitVec.ofInt (IntKind.bits .u64) c &&& BitVec.ofInt (IntKind.bits .u64) (127:Int)).toNat:Int)))+(128:Int))])) * 1≤140737488355328) then
 bif decide (List.length (f ++ [IntKind.wrap .u8 ((IntKind.wrap .u8 (IntKind.wrap .u64 ((BitVec.ofInt (IntKind.bits .u64) c &&& BitVec.ofInt (IntKind.bits .u64) (127:Int)).toNat:Int)))+(128:Int))])=List.length (f ++ [IntKind.wrap .u8 ((IntKind.wrap .u8 (IntKind.wrap .u64 ((BitVec.ofInt (IntKind.bits .u64) c &&& BitVec.ofInt (IntKind.bits .u64) (127:Int)).toNat:Int)))+(128:Int))])) then
 some (.inl ((Int.fdiv c (2 ^ (min (Int.toNat (7:Int)) (IntKind.bits .u64))),(f ++ [IntKind.wrap .u8 ((IntKind.wrap .u8 (IntKind.wrap .u64 ((BitVec.ofInt (IntKind.bits .u64) c &&& BitVec.ofInt (IntKind.bits .u64) (127:Int)).toNat:Int)))+(128:Int))]),()),()))
 else none
 else none
 else none
 else
 inrO (bif decide (f.length=f.length) then
 bif decide (f.length+List.length ([IntKind.wrap .u8 c])≤maxLen∧(f.length+List.length ([IntKind.wrap .u8 c])) * 1≤140737488355328) then
 bif decide (List.length (f ++ [IntKind.wrap .u8 c])=List.length (f ++ [IntKind.wrap .u8 c])) then
 some ((),(f ++ [IntKind.wrap .u8 c]))
 else none
 else none
 else none))
 ((a,[],()),())
def e38 (fu:Nat):Ent := ⟨38,(.cons hU .nil),.nil,(.own .own 5 (.int .u8)),p38 fu⟩
theorem g38 (fu:Nat):(e38 fu).Good Tryz.prog := Q0d Q0c Tryz.func38 fu [(9,(.ty (.int .u8))),(10,(.ty (.int .u8))),(18,(.ty (.int .u8))),(19,(.ty (.int .u8)))] [(3,⟨[0,3],(.cons hU (.cons (.own .own 5 (.int .u8)) .nil)),[],.nil,[],[]⟩)] rs38 20 (l := []) trivial
def rs41:List RVx := [(.tmp 2)]
def p41 (fu:Nat):(List Int)×Unit→Option (Unit×(List Int)) := fun ⟨a,_⟩ =>
Option.bind (p38 fu (IntKind.wrap .u64 (a.length:Int),())) fun ⟨_,c⟩ =>
bif decide (c.length=c.length) then
 bif decide (c.length+a.length≤maxLen∧(c.length+a.length) * 1≤140737488355328) then
 bif decide (List.length (c ++ a)=List.length (c ++ a)) then
 some ((),(c ++ a))
 else none
 else none
else none
def e41 (fu:Nat):Ent := ⟨41,(.cons (.hole (.sl .any (.int .u8))) .nil),.nil,(.own .own 5 (.int .u8)),p41 fu⟩
theorem g41 (fu:Nat):(e41 fu).Good Tryz.prog := Q0d Q0c Tryz.func41 fu [(4,(.ent (e38 fu))),(6,(.ty (.int .u8)))] [] rs41 9 (l := [e38 fu]) ⟨g38 fu,trivial⟩
def rs37:List RVx := [(.tmp 2)]
def p37 (fu:Nat):(ByteArray×(ByteArray×Unit))×Unit→Option (Unit×(List Int)) := fun ⟨⟨a,c,_⟩,_⟩ =>
Option.bind (p41 fu (numsOf a,())) fun ⟨_,f⟩ =>
Option.bind (p41 fu (numsOf c,())) fun ⟨_,h⟩ =>
bif decide (f.length=f.length) then
 bif decide (h.length=h.length) then
 bif decide (f.length+h.length≤maxLen∧(f.length+h.length) * 1≤140737488355328) then
 bif decide (List.length (f ++ h)=List.length (f ++ h)) then
 some ((),(f ++ h))
 else none
 else none
 else none
else none
def e37 (fu:Nat):Ent := ⟨37,(.cons (.agg 2 (.cons hT (.cons hT .nil))) .nil),.nil,(.own .own 5 (.int .u8)),p37 fu⟩
theorem g37 (fu:Nat):(e37 fu).Good Tryz.prog := Q0d Q0c Tryz.func37 fu [(5,(.ent (e41 fu))),(9,(.ent (e41 fu))),(10,(.ty (.int .u8)))] [] rs37 12 (l := [e41 fu,e41 fu]) ⟨g41 fu,g41 fu,trivial⟩
def rs69:List RVx := [(.tmp 2)]
def p69 (fu:Nat):(Int×(ByteArray×((List Int)×(Int×(Int×Unit)))))×Unit→Option (Unit×(List Int)) := fun ⟨⟨a,c,f,h,i,_⟩,_⟩ =>
Option.bind (p38 fu (a,())) fun ⟨_,j⟩ =>
Option.bind (p41 fu (numsOf c,())) fun ⟨_,k⟩ =>
bif decide (j.length=j.length) then
 bif decide (k.length=k.length) then
 bif decide (j.length+k.length≤maxLen∧(j.length+k.length) * 1≤140737488355328) then
 Option.bind (p41 fu (f,())) fun ⟨_,l⟩ =>
 bif decide (List.length (j ++ k)=List.length (j ++ k)) then
 bif decide (l.length=l.length) then
 bif decide (List.length (j ++ k)+l.length≤maxLen∧(List.length (j ++ k)+l.length) * 1≤140737488355328) then
 Option.bind (p38 fu (h,())) fun ⟨_,m⟩ =>
 bif decide (List.length ((j ++ k) ++ l)=List.length ((j ++ k) ++ l)) then
 bif decide (m.length=m.length) then
 bif decide (List.length ((j ++ k) ++ l)+m.length≤maxLen∧(List.length ((j ++ k) ++ l)+m.length) * 1≤140737488355328) then
 Option.bind (p38 fu (i,())) fun ⟨_,n⟩ =>
 bif decide (List.length (((j ++ k) ++ l) ++ m)=List.length (((j ++ k) ++ l) ++ m)) then
 bif decide (n.length=n.length) then
 bif decide (List.length (((j ++ k) ++ l) ++ m)+n.length≤maxLen∧(List.length (((j ++ k) ++ l) ++ m)+n.length) * 1≤140737488355328) then
 bif decide (List.length ((((j ++ k) ++ l) ++ m) ++ n)=List.length ((((j ++ k) ++ l) ++ m) ++ n)) then
 some ((),((((j ++ k) ++ l) ++ m) ++ n))
 else none
 else none
 else none
 else none
 else none
 else none
 else none
 else none
 else none
 else none
 else none
 else none
else none
def e69 (fu:Nat):Ent := ⟨69,(.cons Y5 .nil),.nil,(.own .own 5 (.int .u8)),p69 fu⟩
theorem g69 (fu:Nat):(e69 fu).Good Tryz.prog := Q0d Q0c Tryz.func69 fu [(4,(.ent (e38 fu))),(8,(.ent (e41 fu))),(9,(.ty (.int .u8))),(14,(.ent (e41 fu))),(15,(.ty (.int .u8))),(20,(.ent (e38 fu))),(21,(.ty (.int .u8))),(26,(.ent (e38 fu))),(27,(.ty (.int .u8)))] [] rs69 27 (l := [e38 fu,e41 fu,e41 fu,e38 fu,e38 fu]) ⟨g38 fu,g41 fu,g41 fu,g38 fu,g38 fu,trivial⟩
def rs39:List RVx := [(.tmp 2)]
def p39 (fu:Nat):(List (D_api_Record))×Unit→Option (Unit×(List Int)) := fun ⟨a,_⟩ =>
Option.bind (p38 fu (IntKind.wrap .u64 (a.length:Int),())) fun ⟨_,c⟩ =>
bif decide (c.length=c.length) then
 loopO (S := ((List Int)×(Int×Unit))×Unit) fu (fun ⟨⟨f,h,_⟩,_⟩ =>
 bif decide (h<(a.length:Int)) then
 bif decide ((0:Int)≤h∧h<(a.length:Int)) then
 bif decide (h.toNat<a.length) then
 Option.bind (p69 fu (((a.getD (h.toNat) (dflt T_api_Record)).1,((a.getD (h.toNat) (dflt T_api_Record)).2).1,(((a.getD (h.toNat) (dflt T_api_Record)).2).2).1,((((a.getD (h.toNat) (dflt T_api_Record)).2).2).2).1,((((a.getD (h.toNat) (dflt T_api_Record)).2).2).2).2,()),())) fun ⟨_,i⟩ =>
 bif decide (f.length=f.length) then
 bif decide (i.length=i.length) then
 bif decide (f.length+i.length≤maxLen∧(f.length+i.length) * 1≤140737488355328) then
 bif decide (List.length (f ++ i)=List.length (f ++ i)) then
 some (.inl (((f ++ i),IntKind.wrap .i64 (h+(1:Int)),()),()))
 else none
 else none
 else none
 else none
 else none
 else none
 else
 inrO (bif decide (f.length=f.length) then
 some ((),f)
 else none))
 ((c,(0:Int),()),())
else none
def e39 (fu:Nat):Ent := ⟨39,(.cons (.hole (.sl .any T_api_Record)) .nil),.nil,(.own .own 5 (.int .u8)),p39 fu⟩
theorem g39 (fu:Nat):(e39 fu).Good Tryz.prog := Q0d Q0c Tryz.func39 fu [(4,(.ent (e38 fu))),(16,(.ent (e69 fu))),(17,(.ty (.int .u8)))] [(4,⟨[3,4],(.cons (.own .own 5 (.int .u8)) (.cons hI .nil)),[],.nil,[0],[]⟩)] rs39 23 (l := [e38 fu,e69 fu]) ⟨g38 fu,g69 fu,trivial⟩
def rs40:List RVx := [(.tmp 2)]
def p40 (_:Nat):Bool×Unit→Option (Unit×(List Int)) := fun ⟨a,_⟩ =>
bif a then
 some ((),[(1:Int)])
else
 some ((),[(0:Int)])
def e40 (fu:Nat):Ent := ⟨40,(.cons (.hole .bool) .nil),.nil,(.own .own 5 (.int .u8)),p40 fu⟩
theorem g40 (fu:Nat):(e40 fu).Good Tryz.prog := Q0d Q0c Tryz.func40 fu [(2,(.ty (.int .u8))),(4,(.ty (.int .u8)))] [] rs40 6 (l := []) trivial
def rs8:List RVx := [(.tmp 2)]
def p8 (fu:Nat):(Z4)×Unit→Option (Unit×(List Int)) := fun ⟨⟨a,c,f,h,i,j,k,_⟩,_⟩ =>
Option.bind (p37 fu ((a,c,()),())) fun ⟨_,l⟩ =>
Option.bind (p38 fu (f,())) fun ⟨_,m⟩ =>
bif decide (l.length=l.length) then
 bif decide (m.length=m.length) then
 bif decide (l.length+m.length≤maxLen∧(l.length+m.length) * 1≤140737488355328) then
 Option.bind (p38 fu (h,())) fun ⟨_,n⟩ =>
 bif decide (List.length (l ++ m)=List.length (l ++ m)) then
 bif decide (n.length=n.length) then
 bif decide (List.length (l ++ m)+n.length≤maxLen∧(List.length (l ++ m)+n.length) * 1≤140737488355328) then
 Option.bind (p39 fu (i,())) fun ⟨_,o⟩ =>
 bif decide (List.length ((l ++ m) ++ n)=List.length ((l ++ m) ++ n)) then
 bif decide (o.length=o.length) then
 bif decide (List.length ((l ++ m) ++ n)+o.length≤maxLen∧(List.length ((l ++ m) ++ n)+o.length) * 1≤140737488355328) then
 Option.bind (p38 fu (IntKind.wrap .u64 (j.length:Int),())) fun ⟨_,q⟩ =>
 bif decide (List.length (((l ++ m) ++ n) ++ o)=List.length (((l ++ m) ++ n) ++ o)) then
 bif decide (q.length=q.length) then
 bif decide (List.length (((l ++ m) ++ n) ++ o)+q.length≤maxLen∧(List.length (((l ++ m) ++ n) ++ o)+q.length) * 1≤140737488355328) then
 bif decide (List.length ((((l ++ m) ++ n) ++ o) ++ q)=List.length ((((l ++ m) ++ n) ++ o) ++ q)) then
 loopO (S := ((List Int)×(Int×Unit))×Unit) fu (fun ⟨⟨s,t,_⟩,_⟩ =>
 bif decide (t<(j.length:Int)) then
 bif decide ((0:Int)≤t∧t<(j.length:Int)) then
 bif decide (t.toNat<j.length) then
 Option.bind (p38 fu ((j.getD (t.toNat) (dflt T_api_Producer)).1,())) fun ⟨_,u⟩ =>
 bif decide (s.length=s.length) then
 bif decide (u.length=u.length) then
 bif decide (s.length+u.length≤maxLen∧(s.length+u.length) * 1≤140737488355328) then
 Option.bind (p38 fu (((j.getD (t.toNat) (dflt T_api_Producer)).2).1,())) fun ⟨_,w⟩ =>
 bif decide (List.length (s ++ u)=List.length (s ++ u)) then
 bif decide (w.length=w.length) then
 bif decide (List.length (s ++ u)+w.length≤maxLen∧(List.length (s ++ u)+w.length) * 1≤140737488355328) then
 Option.bind (p40 fu ((((j.getD (t.toNat) (dflt T_api_Producer)).2).2).1,())) fun ⟨_,x⟩ =>
 bif decide (List.length ((s ++ u) ++ w)=List.length ((s ++ u) ++ w)) then
 bif decide (x.length=x.length) then
 bif decide (List.length ((s ++ u) ++ w)+x.length≤maxLen∧(List.length ((s ++ u) ++ w)+x.length) * 1≤140737488355328) then
 Option.bind (p38 fu ((((j.getD (t.toNat) (dflt T_api_Producer)).2).2).2,())) fun ⟨_,y⟩ =>
 bif decide (List.length (((s ++ u) ++ w) ++ x)=List.length (((s ++ u) ++ w) ++ x)) then
 bif decide (y.length=y.length) then
 bif decide (List.length (((s ++ u) ++ w) ++ x)+y.length≤maxLen∧(List.length (((s ++ u) ++ w) ++ x)+y.length) * 1≤140737488355328) then
 bif decide (List.length ((((s ++ u) ++ w) ++ x) ++ y)=List.length ((((s ++ u) ++ w) ++ x) ++ y)) then
 some (.inl ((((((s ++ u) ++ w) ++ x) ++ y),IntKind.wrap .i64 (t+(1:Int)),()),()))
 else none
 else none
 else none
 else none
 else none
 else none
 else none
 else none
 else none
 else none
 else none
 else none
 else none
 else none
 else none
 else
 inrO (Option.bind (p38 fu (IntKind.wrap .u64 (k.length:Int),())) fun ⟨_,z⟩ =>
 bif decide (s.length=s.length) then
 bif decide (z.length=z.length) then
 bif decide (s.length+z.length≤maxLen∧(s.length+z.length) * 1≤140737488355328) then
 bif decide (List.length (s ++ z)=List.length (s ++ z)) then
 loopO (S := ((List Int)×(Int×Unit))×Unit) fu (fun ⟨⟨s,a0,_⟩,_⟩ =>
 bif decide (a0<(k.length:Int)) then
 bif decide ((0:Int)≤a0∧a0<(k.length:Int)) then
 bif decide (a0.toNat<k.length) then
 Option.bind (p41 fu (numsOf ((k.getD (a0.toNat) (dflt T_runtime_errorAddressString)).1),())) fun ⟨_,c0⟩ =>
 bif decide (s.length=s.length) then
 bif decide (c0.length=c0.length) then
 bif decide (s.length+c0.length≤maxLen∧(s.length+c0.length) * 1≤140737488355328) then
 bif decide ((0:Int)≤a0∧a0<(k.length:Int)) then
 bif decide (a0.toNat<k.length) then
 Option.bind (p38 fu ((k.getD (a0.toNat) (dflt T_runtime_errorAddressString)).2,())) fun ⟨_,f0⟩ =>
 bif decide (List.length (s ++ c0)=List.length (s ++ c0)) then
 bif decide (f0.length=f0.length) then
 bif decide (List.length (s ++ c0)+f0.length≤maxLen∧(List.length (s ++ c0)+f0.length) * 1≤140737488355328) then
 bif decide (List.length ((s ++ c0) ++ f0)=List.length ((s ++ c0) ++ f0)) then
 some (.inl ((((s ++ c0) ++ f0),IntKind.wrap .i64 (a0+(1:Int)),()),()))
 else none
 else none
 else none
 else none
 else none
 else none
 else none
 else none
 else none
 else none
 else none
 else
 inrO (bif decide (s.length=s.length) then
 some ((),s)
 else none))
 (((s ++ z),(0:Int),()),())
 else none
 else none
 else none
 else none))
 ((((((l ++ m) ++ n) ++ o) ++ q),(0:Int),()),())
 else none
 else none
 else none
 else none
 else none
 else none
 else none
 else none
 else none
 else none
 else none
 else none
else none
def e8 (fu:Nat):Ent := ⟨8,(.cons Y6 .nil),.nil,(.own .own 5 (.int .u8)),p8 fu⟩
theorem g8 (fu:Nat):(e8 fu).Good Tryz.prog := Q0d Q0c Tryz.func8 fu [(4,(.ent (e37 fu))),(7,(.ent (e38 fu))),(8,(.ty (.int .u8))),(13,(.ent (e38 fu))),(14,(.ty (.int .u8))),(19,(.ent (e39 fu))),(20,(.ty (.int .u8))),(27,(.ent (e38 fu))),(28,(.ty (.int .u8))),(46,(.ent (e38 fu))),(47,(.ty (.int .u8))),(52,(.ent (e38 fu))),(53,(.ty (.int .u8))),(58,(.ent (e40 fu))),(59,(.ty (.int .u8))),(64,(.ent (e38 fu))),(65,(.ty (.int .u8))),(75,(.ent (e38 fu))),(76,(.ty (.int .u8))),(92,(.ent (e41 fu))),(93,(.ty (.int .u8))),(102,(.ent (e38 fu))),(103,(.ty (.int .u8)))] [(7,⟨[3,4],(.cons (.own .own 5 (.int .u8)) (.cons hI .nil)),[],.nil,[1],[0]⟩),(18,⟨[3,6],(.cons (.own .own 5 (.int .u8)) (.cons hI .nil)),[],.nil,[1],[0]⟩)] rs8 97 (l := [e37 fu,e38 fu,e38 fu,e39 fu,e38 fu,e38 fu,e38 fu,e40 fu,e38 fu,e38 fu,e41 fu,e38 fu]) ⟨g37 fu,g38 fu,g38 fu,g39 fu,g38 fu,g38 fu,g38 fu,g40 fu,g38 fu,g38 fu,g41 fu,g38 fu,trivial⟩
def rs67:List RVx := []
def p67 (_:Nat):((List Int)×(Int×(Int×(Int×Unit))))×(Int×(Int×Unit))→Option ((((List Int)×(Int×(Int×(Int×Unit))))×Unit)×Unit) := fun ⟨⟨a,c,f,h,_⟩,i,j,_⟩ =>
orK (E := (Bool×Unit)×Unit)
 (bif (f==(0:Int)) then
 some (.inl (((i != (0:Int)),()),()))
 else
 some (.inl ((false,()),())))
 fun ⟨⟨k,_⟩,_⟩ =>
bif k then
 some (((a,j,i,j,()),()),())
else
 some (((a,c,f,h,()),()),())
def e67 (fu:Nat):Ent := ⟨67,(.cons Y19 (.cons hI (.cons hI .nil))),(.cons Y20 .nil),(.tup 0 .nil),p67 fu⟩
theorem g67 (fu:Nat):(e67 fu).Good Tryz.prog := Q0d Q0c Tryz.func67 fu [] [(0,⟨[14],(.cons (.hole .bool) .nil),[],.nil,[0,1,2],[0]⟩)] rs67 27 (l := []) trivial
def rs31:List RVx := [(.tmp 2)]
def p31 (fu:Nat):((List Int)×(Int×(Int×(Int×Unit))))×Unit→Option ((((List Int)×(Int×(Int×(Int×Unit))))×Unit)×Int) := fun ⟨⟨a,c,f,h,_⟩,_⟩ =>
bif (f != (0:Int)) then
 some (((a,c,f,h,()),()),(0:Int))
else
 loopO (S := (Int×(Int×Unit))×Unit) fu (fun ⟨⟨i,j,_⟩,_⟩ =>
 bif decide ((IntKind.wrap .i64 (c+j))≥(a.length:Int)) then
 Option.bind (p67 fu ((a,c,f,h,()),(11:Int),c,())) fun ⟨⟨⟨k,l,m,n,_⟩,_⟩,_⟩ =>
 inrO (some (((k,l,m,n,()),()),(0:Int)))
 else
 bif decide ((0:Int)≤IntKind.wrap .i64 (c+j)∧IntKind.wrap .i64 (c+j)<(a.length:Int)) then
 bif decide (Int.toNat (IntKind.wrap .i64 (c+j))<a.length) then
 orK (E := (Bool×Unit)×Unit)
 (bif (j==(9:Int)) then
 some (.inl ((((a.getD (Int.toNat (IntKind.wrap .i64 (c+j))) (dflt (.int .u8))) != (1:Int)),()),()))
 else
 some (.inl ((false,()),())))
 fun ⟨⟨o,_⟩,_⟩ =>
 bif o then
 Option.bind (p67 fu ((a,c,f,h,()),(12:Int),c,())) fun ⟨⟨⟨q,s,t,u,_⟩,_⟩,_⟩ =>
 inrO (some (((q,s,t,u,()),()),(0:Int)))
 else
 bif decide ((0:Int)≤(IntKind.wrap .i64 ((7:Int) * j))) then
 bif decide ((a.getD (Int.toNat (IntKind.wrap .i64 (c+j))) (dflt (.int .u8)))<(128:Int)) then
 orK (E := (Bool×Unit)×Unit)
 (bif ((a.getD (Int.toNat (IntKind.wrap .i64 (c+j))) (dflt (.int .u8)))==(0:Int)) then
 some (.inl ((decide (j>(0:Int)),()),()))
 else
 some (.inl ((false,()),())))
 fun ⟨⟨w,_⟩,_⟩ =>
 bif w then
 Option.bind (p67 fu ((a,c,f,h,()),(12:Int),c,())) fun ⟨⟨⟨x,y,z,a0,_⟩,_⟩,_⟩ =>
 inrO (some (((x,y,z,a0,()),()),(0:Int)))
 else
 inrO (some (((a,IntKind.wrap .i64 ((IntKind.wrap .i64 (c+j))+(1:Int)),f,h,()),()),IntKind.wrap .u64 (i+(IntKind.wrap .u64 ((IntKind.wrap .u64 (IntKind.wrap .u8 ((BitVec.ofInt (IntKind.bits .u8) (a.getD (Int.toNat (IntKind.wrap .i64 (c+j))) (dflt (.int .u8))) &&& BitVec.ofInt (IntKind.bits .u8) (127:Int)).toNat:Int))) * 2 ^ (min (Int.toNat (IntKind.wrap .i64 ((7:Int) * j))) (IntKind.bits .u64)))))))
 else
 some (.inl ((IntKind.wrap .u64 (i+(IntKind.wrap .u64 ((IntKind.wrap .u64 (IntKind.wrap .u8 ((BitVec.ofInt (IntKind.bits .u8) (a.getD (Int.toNat (IntKind.wrap .i64 (c+j))) (dflt (.int .u8))) &&& BitVec.ofInt (IntKind.bits .u8) (127:Int)).toNat:Int))) * 2 ^ (min (Int.toNat (IntKind.wrap .i64 ((7:Int) * j))) (IntKind.bits .u64))))),IntKind.wrap .i64 (j+(1:Int)),()),()))
 else none
 else none
 else none)
 (((0:Int),(0:Int),()),())
def e31 (fu:Nat):Ent := ⟨31,(.cons Y19 .nil),(.cons Y20 .nil),hU,p31 fu⟩
theorem g31 (fu:Nat):(e31 fu).Good Tryz.prog := Q0d Q0c Tryz.func31 fu [(26,(.ent (e67 fu))),(52,(.ent (e67 fu))),(76,(.ent (e67 fu)))] [(6,⟨[3,4],(.cons hU (.cons hI .nil)),[],.nil,[0],[0]⟩),(14,⟨[48],(.cons (.hole .bool) .nil),[],.nil,[0,3,4,5],[0]⟩),(20,⟨[70],(.cons (.hole .bool) .nil),[],.nil,[0,3,4],[0]⟩)] rs31 88 (l := [e67 fu,e67 fu,e67 fu]) ⟨g67 fu,g67 fu,g67 fu,trivial⟩
def rs33:List RVx := [(.tmp 4)]
def p33 (fu:Nat):((List Int)×(Int×(Int×(Int×Unit))))×(Int×Unit)→Option ((((List Int)×(Int×(Int×(Int×Unit))))×Unit)×Int) := fun ⟨⟨a,c,f,h,_⟩,i,_⟩ =>
Option.bind (p31 fu ((a,c,f,h,()),())) fun ⟨⟨⟨j,k,l,m,_⟩,_⟩,n⟩ =>
bif (l != (0:Int)) then
 some (((j,k,l,m,()),()),(0:Int))
else
 orK (E := (Bool×Unit)×Unit)
 (bif decide (i<(0:Int)) then
 some (.inl ((true,()),()))
 else
 some (.inl ((decide (n>(IntKind.wrap .u64 i)),()),())))
 fun ⟨⟨o,_⟩,_⟩ =>
 bif o then
 Option.bind (p67 fu ((j,k,l,m,()),(13:Int),c,())) fun ⟨⟨⟨q,s,t,u,_⟩,_⟩,_⟩ =>
 some (((q,s,t,u,()),()),(0:Int))
 else
 bif decide (n>(IntKind.wrap .u64 (IntKind.wrap .i64 ((j.length:Int)-k)))) then
 Option.bind (p67 fu ((j,k,l,m,()),(11:Int),c,())) fun ⟨⟨⟨w,x,y,z,_⟩,_⟩,_⟩ =>
 some (((w,x,y,z,()),()),(0:Int))
 else
 some (((j,k,l,m,()),()),IntKind.wrap .i64 n)
def e33 (fu:Nat):Ent := ⟨33,(.cons Y19 (.cons hI .nil)),(.cons Y20 .nil),hI,p33 fu⟩
theorem g33 (fu:Nat):(e33 fu).Good Tryz.prog := Q0d Q0c Tryz.func33 fu [(7,(.ent (e31 fu))),(25,(.ent (e67 fu))),(42,(.ent (e67 fu)))] [(7,⟨[25],(.cons (.hole .bool) .nil),[],.nil,[0,5,6],[0]⟩)] rs33 47 (l := [e31 fu,e67 fu,e67 fu]) ⟨g31 fu,g67 fu,g67 fu,trivial⟩
def rs35:List RVx := [(.tmp 4)]
def p35 (fu:Nat):((List Int)×(Int×(Int×(Int×Unit))))×(Int×Unit)→Option ((((List Int)×(Int×(Int×(Int×Unit))))×Unit)×(List Int)) := fun ⟨⟨a,c,f,h,_⟩,i,_⟩ =>
Option.bind (p33 fu ((a,c,f,h,()),i,())) fun ⟨⟨⟨j,k,l,m,_⟩,_⟩,n⟩ =>
bif (l != (0:Int)) then
 some (((j,k,l,m,()),()),[])
else
 bif decide ((0:Int)≤IntKind.wrap .i64 ((IntKind.wrap .i64 (k+n))-n)) then
 bif decide ((0:Int)≤IntKind.wrap .i64 (k+n)) then
 bif decide (Int.toNat (IntKind.wrap .i64 ((IntKind.wrap .i64 (k+n))-n))≤Int.toNat (IntKind.wrap .i64 (k+n))∧Int.toNat (IntKind.wrap .i64 (k+n))≤j.length) then
 bif decide (0=List.length ([]:List Int)) then
 bif decide (List.length ([]:List Int)+List.length (slice' j (Int.toNat (IntKind.wrap .i64 ((IntKind.wrap .i64 (k+n))-n))) (some (Int.toNat (IntKind.wrap .i64 (k+n)))))≤maxLen∧(List.length ([]:List Int)+List.length (slice' j (Int.toNat (IntKind.wrap .i64 ((IntKind.wrap .i64 (k+n))-n))) (some (Int.toNat (IntKind.wrap .i64 (k+n)))))) * 1≤140737488355328) then
 bif decide (List.length (([]:List Int) ++ slice' j (Int.toNat (IntKind.wrap .i64 ((IntKind.wrap .i64 (k+n))-n))) (some (Int.toNat (IntKind.wrap .i64 (k+n)))))=List.length (([]:List Int) ++ slice' j (Int.toNat (IntKind.wrap .i64 ((IntKind.wrap .i64 (k+n))-n))) (some (Int.toNat (IntKind.wrap .i64 (k+n)))))) then
 some (((j,IntKind.wrap .i64 (k+n),l,m,()),()),(([]:List Int) ++ slice' j (Int.toNat (IntKind.wrap .i64 ((IntKind.wrap .i64 (k+n))-n))) (some (Int.toNat (IntKind.wrap .i64 (k+n))))))
 else none
 else none
 else none
 else none
 else none
 else none
def e35 (fu:Nat):Ent := ⟨35,(.cons Y19 (.cons hI .nil)),(.cons Y20 .nil),(.own .own 5 (.int .u8)),p35 fu⟩
theorem g35 (fu:Nat):(e35 fu).Good Tryz.prog := Q0d Q0c Tryz.func35 fu [(3,(.ent (e33 fu))),(21,(.ty (.int .u8))),(37,(.ty (.int .u8)))] [] rs35 40 (l := [e33 fu]) ⟨g33 fu,trivial⟩
def rs30:List RVx := [(.cell 2 true 2)]
def p30 (fu:Nat):((List Int)×(Int×(Int×(Int×Unit))))×Unit→Option ((((List Int)×(Int×(Int×(Int×Unit))))×Unit)×(ByteArray×(ByteArray×Unit))) := fun ⟨⟨a,c,f,h,_⟩,_⟩ =>
Option.bind (p35 fu ((a,c,f,h,()),(32:Int),())) fun ⟨⟨⟨i,j,k,l,_⟩,_⟩,m⟩ =>
bif decide (m.length=m.length) then
 Option.bind (p35 fu ((i,j,k,l,()),(32:Int),())) fun ⟨⟨⟨n,o,q,s,_⟩,_⟩,t⟩ =>
 bif decide (t.length=t.length) then
 bif (q != (0:Int)) then
 some (((n,o,q,s,()),()),((⟨#[]⟩:ByteArray),(⟨#[]⟩:ByteArray),()))
 else
 some (((n,o,q,s,()),()),(strOfNums m,strOfNums t,()))
 else none
else none
def e30 (fu:Nat):Ent := ⟨30,(.cons Y19 .nil),(.cons Y20 .nil),(.agg 2 (.cons hT (.cons hT .nil))),p30 fu⟩
theorem g30 (fu:Nat):(e30 fu).Good Tryz.prog := Q0d Q0c Tryz.func30 fu [(2,(.ent (e35 fu))),(8,(.ent (e35 fu)))] [] rs30 19 (l := [e35 fu,e35 fu]) ⟨g35 fu,g35 fu,trivial⟩
def rs68:List RVx := [(.cell 2 true 5)]
def p68 (fu:Nat):((List Int)×(Int×(Int×(Int×Unit))))×Unit→Option ((((List Int)×(Int×(Int×(Int×Unit))))×Unit)×(Int×(ByteArray×((List Int)×(Int×(Int×Unit)))))) := fun ⟨⟨a,c,f,h,_⟩,_⟩ =>
Option.bind (p31 fu ((a,c,f,h,()),())) fun ⟨⟨⟨i,j,k,l,_⟩,_⟩,m⟩ =>
Option.bind (p35 fu ((i,j,k,l,()),(32:Int),())) fun ⟨⟨⟨n,o,q,s,_⟩,_⟩,t⟩ =>
bif decide (t.length=t.length) then
 Option.bind (p35 fu ((n,o,q,s,()),(256:Int),())) fun ⟨⟨⟨u,w,x,y,_⟩,_⟩,z⟩ =>
 Option.bind (p31 fu ((u,w,x,y,()),())) fun ⟨⟨⟨a0,c0,f0,h0,_⟩,_⟩,i0⟩ =>
 Option.bind (p31 fu ((a0,c0,f0,h0,()),())) fun ⟨⟨⟨j0,k0,l0,m0,_⟩,_⟩,n0⟩ =>
 bif (l0 != (0:Int)) then
 some (((j0,k0,l0,m0,()),()),((0:Int),(⟨#[]⟩:ByteArray),[],(0:Int),(0:Int),()))
 else
 bif decide (z.length=z.length) then
 some (((j0,k0,l0,m0,()),()),(m,strOfNums t,z,i0,n0,()))
 else none
else none
def e68 (fu:Nat):Ent := ⟨68,(.cons Y19 .nil),(.cons Y20 .nil),Y14,p68 fu⟩
theorem g68 (fu:Nat):(e68 fu).Good Tryz.prog := Q0d Q0c Tryz.func68 fu [(2,(.ent (e31 fu))),(7,(.ent (e35 fu))),(12,(.ent (e35 fu))),(16,(.ent (e31 fu))),(20,(.ent (e31 fu)))] [] rs68 27 (l := [e31 fu,e35 fu,e35 fu,e31 fu,e31 fu]) ⟨g31 fu,g35 fu,g35 fu,g31 fu,g31 fu,trivial⟩
def rs32:List RVx := [(.tmp 4)]
def p32 (fu:Nat):((List Int)×(Int×(Int×(Int×Unit))))×(Int×Unit)→Option ((((List Int)×(Int×(Int×(Int×Unit))))×Unit)×(List (D_api_Record))) := fun ⟨⟨a,c,f,h,_⟩,i,_⟩ =>
Option.bind (p33 fu ((a,c,f,h,()),i,())) fun ⟨⟨⟨j,k,l,m,_⟩,_⟩,n⟩ =>
loopO (S := ((List (D_api_Record))×(Int×Unit))×(((List Int)×(Int×(Int×(Int×Unit))))×Unit)) fu (fun ⟨⟨o,q,_⟩,⟨⟨s,t,u,w,_⟩,_⟩⟩ =>
 bif decide (q<n) then
 bif (u==(0:Int)) then
 Option.bind (p68 fu ((s,t,u,w,()),())) fun ⟨⟨⟨x,y,z,a0,_⟩,_⟩,⟨c0,f0,h0,i0,j0,_⟩⟩ =>
 bif decide (h0.length=h0.length) then
 bif decide (o.length=o.length) then
 bif decide (o.length+List.length ([(c0,f0,h0,i0,j0)])≤maxLen∧(o.length+List.length ([(c0,f0,h0,i0,j0)])) * 64≤140737488355328) then
 bif decide (List.length (o ++ [(c0,f0,h0,i0,j0)])=List.length (o ++ [(c0,f0,h0,i0,j0)])) then
 some (.inl (((o ++ [(c0,f0,h0,i0,j0)]),IntKind.wrap .i64 (q+(1:Int)),()),((x,y,z,a0,()),())))
 else none
 else none
 else none
 else none
 else
 inrO (bif decide (o.length=o.length) then
 some (((s,t,u,w,()),()),o)
 else none)
 else
 inrO (bif decide (o.length=o.length) then
 some (((s,t,u,w,()),()),o)
 else none))
 (([],(0:Int),()),((j,k,l,m,()),()))
def e32 (fu:Nat):Ent := ⟨32,(.cons Y19 (.cons hI .nil)),(.cons Y20 .nil),(.own .own 49 T_api_Record_n),p32 fu⟩
theorem g32 (fu:Nat):(e32 fu).Good Tryz.prog := Q0d Q0c Tryz.func32 fu [(3,(.ent (e33 fu))),(19,(.ent (e68 fu))),(20,(.ty T_api_Record_n)),(21,(.ty T_api_Record_n))] [(5,⟨[6,7],(.cons (.own .own 49 T_api_Record_n) (.cons hI .nil)),[(0,67,4)],(.cons Y20 .nil),[0,5],[]⟩)] rs32 29 (l := [e33 fu,e68 fu]) ⟨g33 fu,g68 fu,trivial⟩
def rs34:List RVx := [(.tmp 2)]
def p34 (fu:Nat):((List Int)×(Int×(Int×(Int×Unit))))×Unit→Option ((((List Int)×(Int×(Int×(Int×Unit))))×Unit)×Bool) := fun ⟨⟨a,c,f,h,_⟩,_⟩ =>
bif (f != (0:Int)) then
 some (((a,c,f,h,()),()),false)
else
 bif decide (c≥(a.length:Int)) then
 Option.bind (p67 fu ((a,c,f,h,()),(11:Int),c,())) fun ⟨⟨⟨i,j,k,l,_⟩,_⟩,_⟩ =>
 some (((i,j,k,l,()),()),false)
 else
 bif decide ((0:Int)≤c∧c<(a.length:Int)) then
 bif decide (c.toNat<a.length) then
 bif decide ((a.getD (c.toNat) (dflt (.int .u8)))>(1:Int)) then
 Option.bind (p67 fu ((a,c,f,h,()),(16:Int),c,())) fun ⟨⟨⟨m,n,o,q,_⟩,_⟩,_⟩ =>
 some (((m,n,o,q,()),()),false)
 else
 bif decide ((0:Int)≤IntKind.wrap .i64 ((IntKind.wrap .i64 (c+(1:Int)))-(1:Int))∧IntKind.wrap .i64 ((IntKind.wrap .i64 (c+(1:Int)))-(1:Int))<(a.length:Int)) then
 bif decide (Int.toNat (IntKind.wrap .i64 ((IntKind.wrap .i64 (c+(1:Int)))-(1:Int)))<a.length) then
 some (((a,IntKind.wrap .i64 (c+(1:Int)),f,h,()),()),((a.getD (Int.toNat (IntKind.wrap .i64 ((IntKind.wrap .i64 (c+(1:Int)))-(1:Int)))) (dflt (.int .u8)))==(1:Int)))
 else none
 else none
 else none
 else none
def e34 (fu:Nat):Ent := ⟨34,(.cons Y19 .nil),(.cons Y20 .nil),(.hole .bool),p34 fu⟩
theorem g34 (fu:Nat):(e34 fu).Good Tryz.prog := Q0d Q0c Tryz.func34 fu [(22,(.ent (e67 fu))),(40,(.ent (e67 fu)))] [] rs34 60 (l := [e67 fu,e67 fu]) ⟨g67 fu,g67 fu,trivial⟩
def rs36:List RVx := [(.tmp 2)]
def p36 (_:Nat):((List Int)×(Int×(Int×(Int×Unit))))×Unit→Option (Unit×Int) := fun ⟨⟨a,c,f,_,_⟩,_⟩ =>
orK (E := Unit×Unit)
 (bif (f==(0:Int)) then
 bif decide (c<(a.length:Int)) then
 inrO (some ((),(15:Int)))
 else
 some (.inl ((),()))
 else
 some (.inl ((),())))
 fun ⟨_,_⟩ =>
some ((),f)
def e36 (fu:Nat):Ent := ⟨36,(.cons (.look (.cons (.hole (.sl .any (.int .u8))) (.cons hI (.cons hI (.cons hI .nil))))) .nil),.nil,hI,p36 fu⟩
theorem g36 (fu:Nat):(e36 fu).Good Tryz.prog := Q0d Q0c Tryz.func36 fu [] [(1,⟨[],.nil,[],.nil,[0],[]⟩)] rs36 24 (l := []) trivial
def rs7:List RVx := [(.cell 2 true 7),(.tmp 3)]
def p7 (fu:Nat):(List Int)×Unit→Option (Unit×((Z4)×(Int×Unit))) := fun ⟨a,_⟩ =>
Option.bind (p30 fu ((a,(0:Int),(0:Int),(0:Int),()),())) fun ⟨⟨⟨c,f,h,i,_⟩,_⟩,⟨j,k,_⟩⟩ =>
Option.bind (p31 fu ((c,f,h,i,()),())) fun ⟨⟨⟨l,m,n,o,_⟩,_⟩,q⟩ =>
Option.bind (p31 fu ((l,m,n,o,()),())) fun ⟨⟨⟨s,t,u,w,_⟩,_⟩,x⟩ =>
Option.bind (p32 fu ((s,t,u,w,()),(4096:Int),())) fun ⟨⟨⟨y,z,a0,c0,_⟩,_⟩,f0⟩ =>
Option.bind (p33 fu ((y,z,a0,c0,()),(256:Int),())) fun ⟨⟨⟨h0,i0,j0,k0,_⟩,_⟩,l0⟩ =>
orK (E := Unit×(((List Int)×(Int×(Int×(Int×Unit))))×((Z3)×Unit)))
 (bif decide (f0.length=f0.length) then
 loopO (S := (Int×Unit)×(((List Int)×(Int×(Int×(Int×Unit))))×((Z3)×Unit))) fu (fun ⟨⟨m0,_⟩,⟨⟨n0,o0,q0,s0,_⟩,⟨t0,u0,w0,x0,y0,z0,_,_⟩,_⟩⟩ =>
 bif decide (m0<l0) then
 bif (q0==(0:Int)) then
 Option.bind (p31 fu ((n0,o0,q0,s0,()),())) fun ⟨⟨⟨a1,c1,f1,h1,_⟩,_⟩,i1⟩ =>
 Option.bind (p31 fu ((a1,c1,f1,h1,()),())) fun ⟨⟨⟨j1,k1,l1,m1,_⟩,_⟩,n1⟩ =>
 Option.bind (p34 fu ((j1,k1,l1,m1,()),())) fun ⟨⟨⟨o1,q1,s1,t1,_⟩,_⟩,u1⟩ =>
 Option.bind (p31 fu ((o1,q1,s1,t1,()),())) fun ⟨⟨⟨w1,x1,y1,z1,_⟩,_⟩,a2⟩ =>
 bif decide (z0.length=z0.length) then
 bif decide (z0.length+List.length ([(i1,n1,u1,a2)])≤maxLen∧(z0.length+List.length ([(i1,n1,u1,a2)])) * 32≤140737488355328) then
 bif decide (y0.length=y0.length) then
 bif decide (List.length (z0 ++ [(i1,n1,u1,a2)])=List.length (z0 ++ [(i1,n1,u1,a2)])) then
 some (.inl ((IntKind.wrap .i64 (m0+(1:Int)),()),((w1,x1,y1,z1,()),(t0,u0,w0,x0,y0,(z0 ++ [(i1,n1,u1,a2)]),(),()),())))
 else none
 else none
 else none
 else none
 else
 inrO (bif decide (y0.length=y0.length) then
 bif decide (z0.length=z0.length) then
 some (.inl ((),((n0,o0,q0,s0,()),(t0,u0,w0,x0,y0,z0,(),()),())))
 else none
 else none)
 else
 inrO (bif decide (y0.length=y0.length) then
 bif decide (z0.length=z0.length) then
 some (.inl ((),((n0,o0,q0,s0,()),(t0,u0,w0,x0,y0,z0,(),()),())))
 else none
 else none))
 (((0:Int),()),((h0,i0,j0,k0,()),(j,k,q,x,f0,[],(),()),()))
 else none)
 fun ⟨_,⟨⟨n0,o0,q0,s0,_⟩,⟨t0,u0,w0,x0,y0,z0,_,_⟩,_⟩⟩ =>
Option.bind (p33 fu ((n0,o0,q0,s0,()),(64:Int),())) fun ⟨⟨⟨c2,f2,h2,i2,_⟩,_⟩,j2⟩ =>
orK (E := Unit×(((List Int)×(Int×(Int×(Int×Unit))))×((Z4)×Unit)))
 (bif decide (y0.length=y0.length) then
 bif decide (z0.length=z0.length) then
 loopO (S := (Int×Unit)×(((List Int)×(Int×(Int×(Int×Unit))))×((Z4)×Unit))) fu (fun ⟨⟨k2,_⟩,⟨⟨n0,o0,q0,s0,_⟩,⟨t0,u0,w0,x0,y0,z0,l2,_⟩,_⟩⟩ =>
 bif decide (k2<j2) then
 bif (q0==(0:Int)) then
 Option.bind (p35 fu ((n0,o0,q0,s0,()),(32:Int),())) fun ⟨⟨⟨m2,n2,o2,q2,_⟩,_⟩,s2⟩ =>
 bif decide (s2.length=s2.length) then
 Option.bind (p31 fu ((m2,n2,o2,q2,()),())) fun ⟨⟨⟨t2,u2,w2,x2,_⟩,_⟩,y2⟩ =>
 bif decide (l2.length=l2.length) then
 bif decide (l2.length+List.length ([(strOfNums s2,y2)])≤maxLen∧(l2.length+List.length ([(strOfNums s2,y2)])) * 24≤140737488355328) then
 bif decide (y0.length=y0.length) then
 bif decide (z0.length=z0.length) then
 bif decide (List.length (l2 ++ [(strOfNums s2,y2)])=List.length (l2 ++ [(strOfNums s2,y2)])) then
 some (.inl ((IntKind.wrap .i64 (k2+(1:Int)),()),((t2,u2,w2,x2,()),(t0,u0,w0,x0,y0,z0,(l2 ++ [(strOfNums s2,y2)]),()),())))
 else none
 else none
 else none
 else none
 else none
 else none
 else
 inrO (bif decide (y0.length=y0.length) then
 bif decide (z0.length=z0.length) then
 bif decide (l2.length=l2.length) then
 some (.inl ((),((n0,o0,q0,s0,()),(t0,u0,w0,x0,y0,z0,l2,()),())))
 else none
 else none
 else none)
 else
 inrO (bif decide (y0.length=y0.length) then
 bif decide (z0.length=z0.length) then
 bif decide (l2.length=l2.length) then
 some (.inl ((),((n0,o0,q0,s0,()),(t0,u0,w0,x0,y0,z0,l2,()),())))
 else none
 else none
 else none))
 (((0:Int),()),((c2,f2,h2,i2,()),(t0,u0,w0,x0,y0,z0,[],()),()))
 else none
 else none)
 fun ⟨_,⟨⟨n0,o0,q0,s0,_⟩,⟨t0,u0,w0,x0,y0,z0,l2,_⟩,_⟩⟩ =>
orK (E := (Bool×Unit)×Unit)
 (Option.bind (p36 fu ((n0,o0,q0,s0,()),())) fun ⟨_,z2⟩ =>
 bif (z2 != (0:Int)) then
 some (.inl ((true,()),()))
 else
 bif decide (y0.length=y0.length) then
 bif decide (z0.length=z0.length) then
 bif decide (l2.length=l2.length) then
 Option.bind (p6 fu ((t0,u0,w0,x0,y0,z0,l2,()),())) fun ⟨_,a3⟩ =>
 some (.inl (((a3 != (0:Int)),()),()))
 else none
 else none
 else none)
 fun ⟨⟨c3,_⟩,_⟩ =>
bif c3 then
 some ((),(((⟨#[]⟩:ByteArray),(⟨#[]⟩:ByteArray),(0:Int),(0:Int),[],[],[],()),(165:Int),()))
else
 bif decide (y0.length=y0.length) then
 bif decide (z0.length=z0.length) then
 bif decide (l2.length=l2.length) then
 some ((),((t0,u0,w0,x0,y0,z0,l2,()),(0:Int),()))
 else none
 else none
 else none
def e7 (fu:Nat):Ent := ⟨7,(.cons (.hole (.sl .any (.int .u8))) .nil),.nil,(.tup 2 (.cons Y10 (.cons hI .nil))),p7 fu⟩
theorem g7 (fu:Nat):(e7 fu).Good Tryz.prog := Q0d Q0c Tryz.func7 fu [(7,(.ent (e30 fu))),(12,(.ent (e31 fu))),(16,(.ent (e31 fu))),(20,(.ent (e32 fu))),(24,(.ent (e33 fu))),(38,(.ent (e31 fu))),(43,(.ent (e31 fu))),(47,(.ent (e34 fu))),(51,(.ent (e31 fu))),(57,(.ty T_api_Producer)),(58,(.ty T_api_Producer)),(65,(.ent (e33 fu))),(79,(.ent (e35 fu))),(85,(.ent (e31 fu))),(91,(.ty T_runtime_errorAddressString)),(92,(.ty T_runtime_errorAddressString)),(99,(.ent (e36 fu))),(103,(.ent (e6 fu)))] [(7,⟨[],.nil,[(64,67,4),(144,29,7)],(.cons Y20 (.cons Y21 .nil)),[2,4,5],[0]⟩),(9,⟨[7],(.cons hI .nil),[(64,67,4),(144,29,7)],(.cons Y20 (.cons Y21 .nil)),[2,4,5,6],[0]⟩),(18,⟨[],.nil,[(64,67,4),(144,29,7)],(.cons Y20 (.cons Y10 .nil)),[2,4,5],[0]⟩),(20,⟨[9],(.cons hI .nil),[(64,67,4),(144,29,7)],(.cons Y20 (.cons Y10 .nil)),[2,4,5,6],[0]⟩),(27,⟨[92],(.cons (.hole .bool) .nil),[],.nil,[2,5],[0,144,466,467,468]⟩)] rs7 95 (l := [e30 fu,e31 fu,e31 fu,e32 fu,e33 fu,e31 fu,e31 fu,e34 fu,e31 fu,e33 fu,e35 fu,e31 fu,e36 fu,e6 fu]) ⟨g30 fu,g31 fu,g31 fu,g32 fu,g33 fu,g31 fu,g31 fu,g34 fu,g31 fu,g33 fu,g35 fu,g31 fu,g36 fu,g6 fu,trivial⟩
def rs106:List RVx := [(.tmp 4)]
def p106 (fu:Nat):(List (D_api_Producer))×(Int×Unit)→Option (Unit×Int) := fun ⟨a,c,_⟩ =>
loopO (S := (Int×Unit)×Unit) fu (fun ⟨⟨f,_⟩,_⟩ =>
 bif decide (f<(a.length:Int)) then
 bif decide ((0:Int)≤f∧f<(a.length:Int)) then
 bif decide (f.toNat<a.length) then
 bif (((a.getD (f.toNat) (dflt T_api_Producer)).1)==c) then
 inrO (some ((),f))
 else
 some (.inl ((IntKind.wrap .i64 (f+(1:Int)),()),()))
 else none
 else none
 else
 inrO (some ((),((-1):Int))))
 (((0:Int),()),())
def e106 (fu:Nat):Ent := ⟨106,(.cons (.hole (.sl .any T_api_Producer)) (.cons hU .nil)),.nil,hI,p106 fu⟩
theorem g106 (fu:Nat):(e106 fu).Good Tryz.prog := Q0d Q0c Tryz.func106 fu [] [(3,⟨[5],(.cons hI .nil),[],.nil,[0,1],[]⟩)] rs106 20 (l := []) trivial
def rs86:List RVx := [(.tmp 6),(.tmp 7)]
def p86 (fu:Nat):(List (D_api_Producer))×(Int×(Int×Unit))→Option (Unit×(Int×(Int×Unit))) := fun ⟨a,c,f,_⟩ =>
bif (c==(0:Int)) then
 some ((),((4:Int),(0:Int),()))
else
 bif decide (f<(1:Int)) then
 some ((),((4:Int),(0:Int),()))
 else
 bif decide (f>(9223372036854775807:Int)) then
 some ((),((4:Int),(0:Int),()))
 else
 Option.bind (p106 fu (a,c,())) fun ⟨_,h⟩ =>
 orK (E := (Bool×Unit)×Unit)
 (bif decide (h<(0:Int)) then
 some (.inl ((true,()),()))
 else
 bif decide ((0:Int)≤h∧h<(a.length:Int)) then
 bif decide (h.toNat<a.length) then
 some (.inl ((decide (f>(((a.getD (h.toNat) (dflt T_api_Producer)).2).1)),()),()))
 else none
 else none)
 fun ⟨⟨i,_⟩,_⟩ =>
 bif i then
 some ((),((1:Int),(0:Int),()))
 else
 orK (E := (Bool×Unit)×Unit)
 (bif decide ((0:Int)≤h∧h<(a.length:Int)) then
 bif decide (h.toNat<a.length) then
 bif (f==(((a.getD (h.toNat) (dflt T_api_Producer)).2).1)) then
 bif decide ((0:Int)≤h∧h<(a.length:Int)) then
 bif decide (h.toNat<a.length) then
 some (.inl (((((a.getD (h.toNat) (dflt T_api_Producer)).2).2).1,()),()))
 else none
 else none
 else
 some (.inl ((false,()),()))
 else none
 else none)
 fun ⟨⟨j,_⟩,_⟩ =>
 bif j then
 bif decide ((0:Int)≤h∧h<(a.length:Int)) then
 bif decide (h.toNat<a.length) then
 some ((),((2:Int),(((a.getD (h.toNat) (dflt T_api_Producer)).2).2).2,()))
 else none
 else none
 else
 some ((),((3:Int),(0:Int),()))
def e86 (fu:Nat):Ent := ⟨86,(.cons (.hole (.sl .any T_api_Producer)) (.cons hU (.cons hU .nil))),.nil,(.tup 2 (.cons hI (.cons hU .nil))),p86 fu⟩
theorem g86 (fu:Nat):(e86 fu).Good Tryz.prog := Q0d Q0c Tryz.func86 fu [(16,(.ent (e106 fu)))] [(6,⟨[22],(.cons (.hole .bool) .nil),[],.nil,[0,2,8],[]⟩),(8,⟨[34],(.cons (.hole .bool) .nil),[],.nil,[0,8],[]⟩)] rs86 54 (l := [e106 fu]) ⟨g106 fu,trivial⟩
def rs46:List RVx := [(.tmp 2)]
def p46 (fu:Nat):(Z11)×Unit→Option (Unit×Bool) := fun ⟨⟨a,_,c,f,h,i,_,j,k,l,_⟩,_⟩ =>
bif (a==(1:Int)) then
 Option.bind (p86 fu ([],c,f,())) fun ⟨_,⟨m,_,_⟩⟩ =>
 bif (m != (4:Int)) then
 bif decide ((ByteArray.size h:Int)≤(32:Int)) then
 some ((),decide ((i.length:Int)≤(256:Int)))
 else
 some ((),false)
 else
 some ((),false)
else
 bif (a==(2:Int)) then
 bif decide (j≥(1:Int)) then
 some ((),decide (j≤(64:Int)))
 else
 some ((),false)
 else
 bif (a==(3:Int)) then
 Option.bind (p86 fu ([],c,f,())) fun ⟨_,⟨n,_,_⟩⟩ =>
 bif (n != (4:Int)) then
 Option.bind (p66 fu (k,())) fun ⟨_,o⟩ =>
 some ((),o)
 else
 some ((),false)
 else
 bif (a==(4:Int)) then
 Option.bind (p66 fu (k,())) fun ⟨_,q⟩ =>
 some ((),q)
 else
 orK (E := (Bool×Unit)×Unit)
 (bif (a==(5:Int)) then
 some (.inl ((true,()),()))
 else
 some (.inl (((a==(6:Int)),()),())))
 fun ⟨⟨s,_⟩,_⟩ =>
 bif s then
 some ((),(l != (0:Int)))
 else
 some ((),false)
def e46 (fu:Nat):Ent := ⟨46,(.cons Y8 .nil),.nil,(.hole .bool),p46 fu⟩
theorem g46 (fu:Nat):(e46 fu).Good Tryz.prog := Q0d Q0c Tryz.func46 fu [(10,(.ent (e86 fu))),(48,(.ent (e86 fu))),(59,(.ent (e66 fu))),(66,(.ent (e66 fu)))] [(13,⟨[65],(.cons (.hole .bool) .nil),[],.nil,[1],[0]⟩)] rs46 71 (l := [e86 fu,e86 fu,e66 fu,e66 fu]) ⟨g86 fu,g86 fu,g66 fu,g66 fu,trivial⟩
def rs47:List RVx := [(.cell 2 true 4)]
def p47 (_:Nat):Int×Unit→Option (Unit×(Int×(Int×(Bool×((List (D_api_Record))×Unit))))) := fun ⟨a,_⟩ =>
some ((),(a,(0:Int),false,[],()))
def e47 (fu:Nat):Ent := ⟨47,(.cons hI .nil),.nil,Y22,p47 fu⟩
theorem g47 (fu:Nat):(e47 fu).Good Tryz.prog := Q0d Q0c Tryz.func47 fu [] [] rs47 5 (l := []) trivial
def rs107:List RVx := [(.cell 4 true 5)]
def p107 (_:Nat):(Int×(ByteArray×((List Int)×(Int×(Int×Unit)))))×(Int×Unit)→Option (Unit×(Int×(ByteArray×((List Int)×(Int×(Int×Unit)))))) := fun ⟨⟨_,a,c,f,h,_⟩,i,_⟩ =>
bif decide (0=List.length ([]:List Int)) then
 bif decide (List.length ([]:List Int)+c.length≤maxLen∧(List.length ([]:List Int)+c.length) * 1≤140737488355328) then
 bif decide (List.length (([]:List Int) ++ c)=List.length (([]:List Int) ++ c)) then
 some ((),(IntKind.wrap .u64 i,a,(([]:List Int) ++ c),f,h,()))
 else none
 else none
else none
def e107 (fu:Nat):Ent := ⟨107,(.cons Y5 (.cons hI .nil)),.nil,Y14,p107 fu⟩
theorem g107 (fu:Nat):(e107 fu).Good Tryz.prog := Q0d Q0c Tryz.func107 fu [(6,(.ty (.int .u8))),(9,(.ty (.int .u8)))] [] rs107 14 (l := []) trivial
def rs87:List RVx := [(.tmp 4),(.tmp 5),(.tmp 6)]
def p87 (fu:Nat):(List (D_api_Record))×((Int×(ByteArray×((List Int)×(Int×(Int×Unit)))))×Unit)→Option (Unit×((List (D_api_Record))×(Int×(Int×Unit)))) := fun ⟨a,⟨c,f,h,i,j,_⟩,_⟩ =>
Option.bind (p24 fu (a,())) fun ⟨_,k⟩ =>
bif !k then
 some ((),([],(0:Int),(1:Int),()))
else
 bif decide ((ByteArray.size f:Int)>(32:Int)) then
 some ((),([],(0:Int),(131:Int),()))
 else
 bif decide ((h.length:Int)>(256:Int)) then
 some ((),([],(0:Int),(144:Int),()))
 else
 bif decide ((a.length:Int)≥(4096:Int)) then
 some ((),([],(0:Int),(143:Int),()))
 else
 bif decide (0=List.length ([]:List (D_api_Record))) then
 bif decide (List.length ([]:List (D_api_Record))+a.length≤maxLen∧(List.length ([]:List (D_api_Record))+a.length) * 64≤140737488355328) then
 Option.bind (p107 fu ((c,f,h,i,j,()),(a.length:Int),())) fun ⟨_,⟨l,m,n,o,q,_⟩⟩ =>
 bif decide (n.length=n.length) then
 bif decide (List.length (([]:List (D_api_Record)) ++ a)=List.length (([]:List (D_api_Record)) ++ a)) then
 bif decide (List.length (([]:List (D_api_Record)) ++ a)+List.length ([(l,m,n,o,q)])≤maxLen∧(List.length (([]:List (D_api_Record)) ++ a)+List.length ([(l,m,n,o,q)])) * 64≤140737488355328) then
 bif decide (List.length ((([]:List (D_api_Record)) ++ a) ++ [(l,m,n,o,q)])=List.length ((([]:List (D_api_Record)) ++ a) ++ [(l,m,n,o,q)])) then
 some ((),(((([]:List (D_api_Record)) ++ a) ++ [(l,m,n,o,q)]),IntKind.wrap .u64 (a.length:Int),(0:Int),()))
 else none
 else none
 else none
 else none
 else none
 else none
def e87 (fu:Nat):Ent := ⟨87,(.cons (.hole (.sl .saf T_api_Record_s)) (.cons Y23 .nil)),.nil,(.tup 3 (.cons (.own .own 49 T_api_Record_s) (.cons hU (.cons hI .nil)))),p87 fu⟩
theorem g87 (fu:Nat):(e87 fu).Good Tryz.prog := Q0d Q0c Tryz.func87 fu [(5,(.ent (e24 fu))),(36,(.ty T_api_Record_s)),(38,(.ty T_api_Record_s)),(44,(.ent (e107 fu))),(45,(.ty T_api_Record_s)),(46,(.ty T_api_Record_s))] [] rs87 41 (l := [e24 fu,e107 fu]) ⟨g24 fu,g107 fu,trivial⟩
def rs108:List RVx := [(.tmp 4)]
def p108 (fu:Nat):(List (D_api_Producer))×((Int×(Int×(Bool×(Int×Unit))))×Unit)→Option (Unit×(List (D_api_Producer))) := fun ⟨a,⟨c,f,h,i,_⟩,_⟩ =>
loopO (S := ((List (D_api_Producer))×(Bool×(Int×Unit)))×Unit) fu (fun ⟨⟨j,k,l,_⟩,_⟩ =>
 bif decide (l<(a.length:Int)) then
 orK (E := ((List (D_api_Producer))×(Bool×Unit))×Unit)
 (orK (E := (Bool×Unit)×Unit)
 (bif decide ((0:Int)≤l∧l<(a.length:Int)) then
 bif decide (l.toNat<a.length) then
 bif decide (((a.getD (l.toNat) (dflt T_api_Producer)).1)≥c) then
 some (.inl ((!k,()),()))
 else
 some (.inl ((false,()),()))
 else none
 else none)
 fun ⟨⟨m,_⟩,_⟩ =>
 bif m then
 bif decide (j.length=j.length) then
 bif decide (j.length+List.length ([(c,f,h,i)])≤maxLen∧(j.length+List.length ([(c,f,h,i)])) * 32≤140737488355328) then
 bif decide (List.length (j ++ [(c,f,h,i)])=List.length (j ++ [(c,f,h,i)])) then
 some (.inl (((j ++ [(c,f,h,i)]),true,()),()))
 else none
 else none
 else none
 else
 bif decide (j.length=j.length) then
 some (.inl ((j,k,()),()))
 else none)
 fun ⟨⟨j,k,_⟩,_⟩ =>
 bif decide ((0:Int)≤l∧l<(a.length:Int)) then
 bif decide (l.toNat<a.length) then
 bif (((a.getD (l.toNat) (dflt T_api_Producer)).1) != c) then
 bif decide ((0:Int)≤l∧l<(a.length:Int)) then
 bif decide (l.toNat<a.length) then
 bif decide (j.length=j.length) then
 bif decide (j.length+List.length ([((a.getD (l.toNat) (dflt T_api_Producer)).1,((a.getD (l.toNat) (dflt T_api_Producer)).2).1,(((a.getD (l.toNat) (dflt T_api_Producer)).2).2).1,(((a.getD (l.toNat) (dflt T_api_Producer)).2).2).2)])≤maxLen∧(j.length+List.length ([((a.getD (l.toNat) (dflt T_api_Producer)).1,((a.getD (l.toNat) (dflt T_api_Producer)).2).1,(((a.getD (l.toNat) (dflt T_api_Producer)).2).2).1,(((a.getD (l.toNat) (dflt T_api_Producer)).2).2).2)])) * 32≤140737488355328) then
 bif decide (List.length (j ++ [((a.getD (l.toNat) (dflt T_api_Producer)).1,((a.getD (l.toNat) (dflt T_api_Producer)).2).1,(((a.getD (l.toNat) (dflt T_api_Producer)).2).2).1,(((a.getD (l.toNat) (dflt T_api_Producer)).2).2).2)])=List.length (j ++ [((a.getD (l.toNat) (dflt T_api_Producer)).1,((a.getD (l.toNat) (dflt T_api_Producer)).2).1,(((a.getD (l.toNat) (dflt T_api_Producer)).2).2).1,(((a.getD (l.toNat) (dflt T_api_Producer)).2).2).2)])) then
 some (.inl (((j ++ [((a.getD (l.toNat) (dflt T_api_Producer)).1,((a.getD (l.toNat) (dflt T_api_Producer)).2).1,(((a.getD (l.toNat) (dflt T_api_Producer)).2).2).1,(((a.getD (l.toNat) (dflt T_api_Producer)).2).2).2)]),k,IntKind.wrap .i64 (l+(1:Int)),()),()))
 else none
 else none
 else none
 else none
 else none
 else
 bif decide (j.length=j.length) then
 some (.inl ((j,k,IntKind.wrap .i64 (l+(1:Int)),()),()))
 else none
 else none
 else none
 else
 inrO (bif !k then
 bif decide (j.length=j.length) then
 bif decide (j.length+List.length ([(c,f,h,i)])≤maxLen∧(j.length+List.length ([(c,f,h,i)])) * 32≤140737488355328) then
 bif decide (List.length (j ++ [(c,f,h,i)])=List.length (j ++ [(c,f,h,i)])) then
 some ((),(j ++ [(c,f,h,i)]))
 else none
 else none
 else none
 else
 bif decide (j.length=j.length) then
 some ((),j)
 else none))
 (([],false,(0:Int),()),())
def e108 (fu:Nat):Ent := ⟨108,(.cons (.hole (.sl .any T_api_Producer)) (.cons (.agg 4 (.cons hU (.cons hU (.cons (.hole .bool) (.cons hU .nil))))) .nil)),.nil,(.own .own 62 T_api_Producer),p108 fu⟩
theorem g108 (fu:Nat):(e108 fu).Good Tryz.prog := Q0d Q0c Tryz.func108 fu [(23,(.ty T_api_Producer)),(24,(.ty T_api_Producer)),(40,(.ty T_api_Producer)),(41,(.ty T_api_Producer)),(50,(.ty T_api_Producer)),(51,(.ty T_api_Producer))] [(5,⟨[5,6,7],(.cons (.own .own 62 T_api_Producer) (.cons (.hole .bool) (.cons hI .nil))),[],.nil,[0,3],[0]⟩),(9,⟨[5,6],(.cons (.own .own 62 T_api_Producer) (.cons (.hole .bool) .nil)),[],.nil,[0,3,7],[0]⟩),(10,⟨[25],(.cons (.hole .bool) .nil),[],.nil,[0,3,5,6,7],[0,80]⟩)] rs108 52 (l := []) trivial
def rs88:List RVx := [(.tmp 8),(.tmp 9)]
def p88 (fu:Nat):(List (D_api_Producer))×(Int×(Int×(Int×Unit)))→Option (Unit×((List (D_api_Producer))×(Int×Unit))) := fun ⟨a,c,f,h,_⟩ =>
Option.bind (p25 fu (a,())) fun ⟨_,i⟩ =>
Option.bind (p86 fu (a,c,f,())) fun ⟨_,⟨j,_,_⟩⟩ =>
orK (E := Unit×Unit)
 (bif !i then
 inrO (some ((),([],(1:Int),())))
 else
 bif (j==(4:Int)) then
 inrO (some ((),([],(151:Int),())))
 else
 bif (j != (1:Int)) then
 inrO (some ((),([],(152:Int),())))
 else
 bif decide ((a.length:Int)≥(256:Int)) then
 Option.bind (p106 fu (a,c,())) fun ⟨_,k⟩ =>
 bif decide (k<(0:Int)) then
 inrO (some ((),([],(153:Int),())))
 else
 some (.inl ((),()))
 else
 some (.inl ((),())))
 fun ⟨_,_⟩ =>
Option.bind (p108 fu (a,(c,f,true,h,()),())) fun ⟨_,l⟩ =>
bif decide (l.length=l.length) then
 some ((),(l,(0:Int),()))
else none
def e88 (fu:Nat):Ent := ⟨88,(.cons (.hole (.sl .any T_api_Producer)) (.cons hU (.cons hU (.cons hU .nil)))),.nil,(.tup 2 (.cons (.own .own 62 T_api_Producer) (.cons hI .nil))),p88 fu⟩
theorem g88 (fu:Nat):(e88 fu).Good Tryz.prog := Q0d Q0c Tryz.func88 fu [(3,(.ent (e25 fu))),(8,(.ent (e86 fu))),(35,(.ent (e106 fu))),(46,(.ent (e108 fu)))] [(3,⟨[],.nil,[],.nil,[0,1,2,3],[]⟩)] rs88 47 (l := [e25 fu,e86 fu,e106 fu,e108 fu]) ⟨g25 fu,g86 fu,g106 fu,g108 fu,trivial⟩
def rs48:List RVx := [(.cell 4 true 7),(.cell 5 true 4)]
def p48 (fu:Nat):(Z4)×((Z11)×Unit)→Option (Unit×((Z4)×((Int×(Int×(Bool×((List (D_api_Record))×Unit))))×Unit))) := fun ⟨⟨a,c,f,h,i,j,k,_⟩,⟨_,_,l,m,n,o,_,_,_,_,_⟩,_⟩ =>
Option.bind (p28 fu ((a,c,()),n,())) fun ⟨_,q⟩ =>
bif !q then
 Option.bind (p47 fu ((163:Int),())) fun ⟨_,⟨s,t,u,w,_⟩⟩ =>
 some ((),((a,c,f,h,i,j,k,()),(s,t,u,w,()),()))
else
 Option.bind (p86 fu (j,l,m,())) fun ⟨_,⟨x,y,_⟩⟩ =>
 bif (x==(2:Int)) then
 some ((),((a,c,f,h,i,j,k,()),((0:Int),y,true,[],()),()))
 else
 bif (x==(3:Int)) then
 Option.bind (p47 fu ((152:Int),())) fun ⟨_,⟨z,a0,c0,f0,_⟩⟩ =>
 some ((),((a,c,f,h,i,j,k,()),(z,a0,c0,f0,()),()))
 else
 bif (h != (0:Int)) then
 Option.bind (p47 fu ((164:Int),())) fun ⟨_,⟨h0,i0,j0,k0,_⟩⟩ =>
 some ((),((a,c,f,h,i,j,k,()),(h0,i0,j0,k0,()),()))
 else
 Option.bind (p87 fu (i,((0:Int),n,o,l,m,()),())) fun ⟨_,⟨l0,m0,n0,_⟩⟩ =>
 bif (n0 != (0:Int)) then
 Option.bind (p47 fu (n0,())) fun ⟨_,⟨o0,q0,s0,t0,_⟩⟩ =>
 some ((),((a,c,f,h,i,j,k,()),(o0,q0,s0,t0,()),()))
 else
 Option.bind (p88 fu (j,l,m,m0,())) fun ⟨_,⟨u0,w0,_⟩⟩ =>
 bif (w0 != (0:Int)) then
 Option.bind (p47 fu (w0,())) fun ⟨_,⟨x0,y0,z0,a1,_⟩⟩ =>
 some ((),((a,c,f,h,i,j,k,()),(x0,y0,z0,a1,()),()))
 else
 bif decide (l0.length=l0.length) then
 bif decide (u0.length=u0.length) then
 some ((),((a,c,f,h,l0,u0,k,()),((0:Int),m0,false,[],()),()))
 else none
 else none
def e48 (fu:Nat):Ent := ⟨48,(.cons Y24 (.cons Y25 .nil)),.nil,(.tup 2 (.cons Y24 (.cons Y22 .nil))),p48 fu⟩
theorem g48 (fu:Nat):(e48 fu).Good Tryz.prog := Q0d Q0c Tryz.func48 fu [(8,(.ent (e28 fu))),(13,(.ent (e47 fu))),(22,(.ent (e86 fu))),(38,(.ent (e47 fu))),(45,(.ent (e47 fu))),(59,(.ent (e87 fu))),(71,(.ent (e47 fu))),(81,(.ent (e88 fu))),(91,(.ent (e47 fu)))] [] rs48 89 (l := [e28 fu,e47 fu,e86 fu,e47 fu,e47 fu,e87 fu,e47 fu,e88 fu,e47 fu]) ⟨g28 fu,g47 fu,g86 fu,g47 fu,g47 fu,g87 fu,g47 fu,g88 fu,g47 fu,trivial⟩
def rs51:List RVx := [(.tmp 4),(.tmp 5)]
def p51 (fu:Nat):(List (D_runtime_errorAddressString))×(ByteArray×Unit)→Option (Unit×(Int×(Bool×Unit))) := fun ⟨a,c,_⟩ =>
loopO (S := (Int×Unit)×Unit) fu (fun ⟨⟨f,_⟩,_⟩ =>
 bif decide (f<(a.length:Int)) then
 bif decide ((0:Int)≤f∧f<(a.length:Int)) then
 bif decide (f.toNat<a.length) then
 bif ByteArray.toList ((a.getD (f.toNat) (dflt T_runtime_errorAddressString)).1)==ByteArray.toList c then
 bif decide ((0:Int)≤f∧f<(a.length:Int)) then
 bif decide (f.toNat<a.length) then
 inrO (some ((),((a.getD (f.toNat) (dflt T_runtime_errorAddressString)).2,true,())))
 else none
 else none
 else
 some (.inl ((IntKind.wrap .i64 (f+(1:Int)),()),()))
 else none
 else none
 else
 inrO (some ((),((0:Int),false,()))))
 (((0:Int),()),())
def e51 (fu:Nat):Ent := ⟨51,(.cons (.hole (.sl .any T_runtime_errorAddressString)) (.cons hT .nil)),.nil,(.tup 2 (.cons hU (.cons (.hole .bool) .nil))),p51 fu⟩
theorem g51 (fu:Nat):(e51 fu).Good Tryz.prog := Q0d Q0c Tryz.func51 fu [] [(3,⟨[6],(.cons hI .nil),[],.nil,[0,1],[]⟩)] rs51 25 (l := []) trivial
def rs109:List RVx := [(.tmp 4)]
def p109 (fu:Nat):(List (D_runtime_errorAddressString))×((ByteArray×(Int×Unit))×Unit)→Option (Unit×(List (D_runtime_errorAddressString))) := fun ⟨a,⟨c,f,_⟩,_⟩ =>
loopO (S := ((List (D_runtime_errorAddressString))×(Bool×(Int×Unit)))×Unit) fu (fun ⟨⟨h,i,j,_⟩,_⟩ =>
 bif decide (j<(a.length:Int)) then
 orK (E := ((List (D_runtime_errorAddressString))×(Bool×Unit))×Unit)
 (orK (E := (Bool×Unit)×Unit)
 (bif decide ((0:Int)≤j∧j<(a.length:Int)) then
 bif decide (j.toNat<a.length) then
 bif !Op.bytesLess (ByteArray.toList ((a.getD (j.toNat) (dflt T_runtime_errorAddressString)).1)) (ByteArray.toList c) then
 some (.inl ((!i,()),()))
 else
 some (.inl ((false,()),()))
 else none
 else none)
 fun ⟨⟨k,_⟩,_⟩ =>
 bif k then
 bif decide (h.length=h.length) then
 bif decide (h.length+List.length ([(c,f)])≤maxLen∧(h.length+List.length ([(c,f)])) * 24≤140737488355328) then
 bif decide (List.length (h ++ [(c,f)])=List.length (h ++ [(c,f)])) then
 some (.inl (((h ++ [(c,f)]),true,()),()))
 else none
 else none
 else none
 else
 bif decide (h.length=h.length) then
 some (.inl ((h,i,()),()))
 else none)
 fun ⟨⟨h,i,_⟩,_⟩ =>
 bif decide ((0:Int)≤j∧j<(a.length:Int)) then
 bif decide (j.toNat<a.length) then
 bif !(ByteArray.toList ((a.getD (j.toNat) (dflt T_runtime_errorAddressString)).1)==ByteArray.toList c) then
 bif decide ((0:Int)≤j∧j<(a.length:Int)) then
 bif decide (j.toNat<a.length) then
 bif decide (h.length=h.length) then
 bif decide (h.length+List.length ([((a.getD (j.toNat) (dflt T_runtime_errorAddressString)).1,(a.getD (j.toNat) (dflt T_runtime_errorAddressString)).2)])≤maxLen∧(h.length+List.length ([((a.getD (j.toNat) (dflt T_runtime_errorAddressString)).1,(a.getD (j.toNat) (dflt T_runtime_errorAddressString)).2)])) * 24≤140737488355328) then
 bif decide (List.length (h ++ [((a.getD (j.toNat) (dflt T_runtime_errorAddressString)).1,(a.getD (j.toNat) (dflt T_runtime_errorAddressString)).2)])=List.length (h ++ [((a.getD (j.toNat) (dflt T_runtime_errorAddressString)).1,(a.getD (j.toNat) (dflt T_runtime_errorAddressString)).2)])) then
 some (.inl (((h ++ [((a.getD (j.toNat) (dflt T_runtime_errorAddressString)).1,(a.getD (j.toNat) (dflt T_runtime_errorAddressString)).2)]),i,IntKind.wrap .i64 (j+(1:Int)),()),()))
 else none
 else none
 else none
 else none
 else none
 else
 bif decide (h.length=h.length) then
 some (.inl ((h,i,IntKind.wrap .i64 (j+(1:Int)),()),()))
 else none
 else none
 else none
 else
 inrO (bif !i then
 bif decide (h.length=h.length) then
 bif decide (h.length+List.length ([(c,f)])≤maxLen∧(h.length+List.length ([(c,f)])) * 24≤140737488355328) then
 bif decide (List.length (h ++ [(c,f)])=List.length (h ++ [(c,f)])) then
 some ((),(h ++ [(c,f)]))
 else none
 else none
 else none
 else
 bif decide (h.length=h.length) then
 some ((),h)
 else none))
 (([],false,(0:Int),()),())
def e109 (fu:Nat):Ent := ⟨109,(.cons (.hole (.sl .any T_runtime_errorAddressString)) (.cons (.agg 2 (.cons hT (.cons hU .nil))) .nil)),.nil,(.own .own 64 T_runtime_errorAddressString),p109 fu⟩
theorem g109 (fu:Nat):(e109 fu).Good Tryz.prog := Q0d Q0c Tryz.func109 fu [(23,(.ty T_runtime_errorAddressString)),(24,(.ty T_runtime_errorAddressString)),(40,(.ty T_runtime_errorAddressString)),(41,(.ty T_runtime_errorAddressString)),(50,(.ty T_runtime_errorAddressString)),(51,(.ty T_runtime_errorAddressString))] [(5,⟨[5,6,7],(.cons (.own .own 64 T_runtime_errorAddressString) (.cons (.hole .bool) (.cons hI .nil))),[],.nil,[0,3],[0]⟩),(9,⟨[5,6],(.cons (.own .own 64 T_runtime_errorAddressString) (.cons (.hole .bool) .nil)),[],.nil,[0,3,7],[0]⟩),(10,⟨[25],(.cons (.hole .bool) .nil),[],.nil,[0,3,5,6,7],[0,80]⟩)] rs109 52 (l := []) trivial
def rs89:List RVx := [(.tmp 6),(.tmp 7)]
def p89 (fu:Nat):(List (D_runtime_errorAddressString))×((ByteArray×(Int×Unit))×(Int×Unit))→Option (Unit×((List (D_runtime_errorAddressString))×(Int×Unit))) := fun ⟨a,⟨c,f,_⟩,h,_⟩ =>
Option.bind (p26 fu (a,())) fun ⟨_,i⟩ =>
Option.bind (p66 fu (c,())) fun ⟨_,j⟩ =>
Option.bind (p51 fu (a,c,())) fun ⟨_,⟨_,k,_⟩⟩ =>
orK (E := Unit×Unit)
 (bif !i then
 inrO (some ((),([],(1:Int),())))
 else
 bif !j then
 inrO (some ((),([],(142:Int),())))
 else
 bif decide (f>h) then
 inrO (some ((),([],(141:Int),())))
 else
 bif !k then
 bif decide ((a.length:Int)≥(64:Int)) then
 inrO (some ((),([],(143:Int),())))
 else
 some (.inl ((),()))
 else
 some (.inl ((),())))
 fun ⟨_,_⟩ =>
Option.bind (p109 fu (a,(c,f,()),())) fun ⟨_,l⟩ =>
bif decide (l.length=l.length) then
 some ((),(l,(0:Int),()))
else none
def e89 (fu:Nat):Ent := ⟨89,(.cons (.hole (.sl .any T_runtime_errorAddressString)) (.cons (.agg 2 (.cons hT (.cons hU .nil))) (.cons hU .nil))),.nil,(.tup 2 (.cons (.own .own 64 T_runtime_errorAddressString) (.cons hI .nil))),p89 fu⟩
theorem g89 (fu:Nat):(e89 fu).Good Tryz.prog := Q0d Q0c Tryz.func89 fu [(4,(.ent (e26 fu))),(8,(.ent (e66 fu))),(13,(.ent (e51 fu))),(48,(.ent (e109 fu)))] [(4,⟨[],.nil,[],.nil,[0,4],[0]⟩)] rs89 46 (l := [e26 fu,e66 fu,e51 fu,e109 fu]) ⟨g26 fu,g66 fu,g51 fu,g109 fu,trivial⟩
def rs90:List RVx := [(.tmp 6),(.tmp 7)]
def p90 (fu:Nat):(List (D_api_Producer))×(Int×(Int×Unit))→Option (Unit×((List (D_api_Producer))×(Int×Unit))) := fun ⟨a,c,f,_⟩ =>
Option.bind (p88 fu (a,c,f,(0:Int),())) fun ⟨_,⟨_,h,_⟩⟩ =>
bif (h != (0:Int)) then
 some ((),([],h,()))
else
 Option.bind (p108 fu (a,(c,f,false,(0:Int),()),())) fun ⟨_,i⟩ =>
 bif decide (i.length=i.length) then
 some ((),(i,(0:Int),()))
 else none
def e90 (fu:Nat):Ent := ⟨90,(.cons (.hole (.sl .any T_api_Producer)) (.cons hU (.cons hU .nil))),.nil,(.tup 2 (.cons (.own .own 62 T_api_Producer) (.cons hI .nil))),p90 fu⟩
theorem g90 (fu:Nat):(e90 fu).Good Tryz.prog := Q0d Q0c Tryz.func90 fu [(5,(.ent (e88 fu))),(20,(.ent (e108 fu)))] [] rs90 25 (l := [e88 fu,e108 fu]) ⟨g88 fu,g108 fu,trivial⟩
def rs49:List RVx := [(.cell 4 true 7),(.cell 5 true 4)]
def p49 (fu:Nat):(Z4)×((Z11)×Unit)→Option (Unit×((Z4)×((Int×(Int×(Bool×((List (D_api_Record))×Unit))))×Unit))) := fun ⟨⟨a,c,f,h,i,j,k,_⟩,⟨_,_,l,m,_,_,n,_,o,_,_⟩,_⟩ =>
Option.bind (p86 fu (j,l,m,())) fun ⟨_,⟨q,_,_⟩⟩ =>
bif (q != (1:Int)) then
 some ((),((a,c,f,h,i,j,k,()),((0:Int),(0:Int),true,[],()),()))
else
 bif (h != (0:Int)) then
 Option.bind (p47 fu ((164:Int),())) fun ⟨_,⟨s,t,u,w,_⟩⟩ =>
 some ((),((a,c,f,h,i,j,k,()),(s,t,u,w,()),()))
 else
 Option.bind (p89 fu (k,(o,n,()),IntKind.wrap .u64 (i.length:Int),())) fun ⟨_,⟨x,y,_⟩⟩ =>
 bif (y != (0:Int)) then
 Option.bind (p47 fu (y,())) fun ⟨_,⟨z,a0,c0,f0,_⟩⟩ =>
 some ((),((a,c,f,h,i,j,k,()),(z,a0,c0,f0,()),()))
 else
 Option.bind (p90 fu (j,l,m,())) fun ⟨_,⟨h0,i0,_⟩⟩ =>
 bif (i0 != (0:Int)) then
 Option.bind (p47 fu (i0,())) fun ⟨_,⟨j0,k0,l0,m0,_⟩⟩ =>
 some ((),((a,c,f,h,i,j,k,()),(j0,k0,l0,m0,()),()))
 else
 bif decide (h0.length=h0.length) then
 bif decide (x.length=x.length) then
 some ((),((a,c,f,h,i,h0,x,()),((0:Int),n,false,[],()),()))
 else none
 else none
def e49 (fu:Nat):Ent := ⟨49,(.cons Y24 (.cons Y25 .nil)),.nil,(.tup 2 (.cons Y24 (.cons Y22 .nil))),p49 fu⟩
theorem g49 (fu:Nat):(e49 fu).Good Tryz.prog := Q0d Q0c Tryz.func49 fu [(10,(.ent (e86 fu))),(26,(.ent (e47 fu))),(40,(.ent (e89 fu))),(50,(.ent (e47 fu))),(59,(.ent (e90 fu))),(69,(.ent (e47 fu)))] [] rs49 73 (l := [e86 fu,e47 fu,e89 fu,e47 fu,e90 fu,e47 fu]) ⟨g86 fu,g47 fu,g89 fu,g47 fu,g90 fu,g47 fu,trivial⟩
def rs50:List RVx := [(.tmp 6),(.tmp 7)]
def p50 (fu:Nat):(List (D_api_Record))×(Int×(Int×Unit))→Option (Unit×((List (D_api_Record))×(Int×Unit))) := fun ⟨a,c,f,_⟩ =>
Option.bind (p24 fu (a,())) fun ⟨_,h⟩ =>
bif !h then
 some ((),([],(1:Int),()))
else
 bif decide (c>(IntKind.wrap .u64 (a.length:Int))) then
 some ((),([],(141:Int),()))
 else
 bif decide ((0:Int)≤IntKind.wrap .i64 c) then
 bif decide ((0:Int)≤IntKind.wrap .i64 ((IntKind.wrap .i64 c)+(if IntKind.wrap .i64 ((a.length:Int)-(IntKind.wrap .i64 c))<(if (64:Int)<(if (0:Int)>f then (0:Int) else f) then (64:Int) else (if (0:Int)>f then (0:Int) else f)) then IntKind.wrap .i64 ((a.length:Int)-(IntKind.wrap .i64 c)) else (if (64:Int)<(if (0:Int)>f then (0:Int) else f) then (64:Int) else (if (0:Int)>f then (0:Int) else f))))) then
 bif decide (Int.toNat (IntKind.wrap .i64 c)≤Int.toNat (IntKind.wrap .i64 ((IntKind.wrap .i64 c)+(if IntKind.wrap .i64 ((a.length:Int)-(IntKind.wrap .i64 c))<(if (64:Int)<(if (0:Int)>f then (0:Int) else f) then (64:Int) else (if (0:Int)>f then (0:Int) else f)) then IntKind.wrap .i64 ((a.length:Int)-(IntKind.wrap .i64 c)) else (if (64:Int)<(if (0:Int)>f then (0:Int) else f) then (64:Int) else (if (0:Int)>f then (0:Int) else f)))))∧Int.toNat (IntKind.wrap .i64 ((IntKind.wrap .i64 c)+(if IntKind.wrap .i64 ((a.length:Int)-(IntKind.wrap .i64 c))<(if (64:Int)<(if (0:Int)>f then (0:Int) else f) then (64:Int) else (if (0:Int)>f then (0:Int) else f)) then IntKind.wrap .i64 ((a.length:Int)-(IntKind.wrap .i64 c)) else (if (64:Int)<(if (0:Int)>f then (0:Int) else f) then (64:Int) else (if (0:Int)>f then (0:Int) else f)))))≤a.length) then
 bif decide (0=List.length ([]:List (D_api_Record))) then
 bif decide (List.length ([]:List (D_api_Record))+List.length (slice' a (Int.toNat (IntKind.wrap .i64 c)) (some (Int.toNat (IntKind.wrap .i64 ((IntKind.wrap .i64 c)+(if IntKind.wrap .i64 ((a.length:Int)-(IntKind.wrap .i64 c))<(if (64:Int)<(if (0:Int)>f then (0:Int) else f) then (64:Int) else (if (0:Int)>f then (0:Int) else f)) then IntKind.wrap .i64 ((a.length:Int)-(IntKind.wrap .i64 c)) else (if (64:Int)<(if (0:Int)>f then (0:Int) else f) then (64:Int) else (if (0:Int)>f then (0:Int) else f))))))))≤maxLen∧(List.length ([]:List (D_api_Record))+List.length (slice' a (Int.toNat (IntKind.wrap .i64 c)) (some (Int.toNat (IntKind.wrap .i64 ((IntKind.wrap .i64 c)+(if IntKind.wrap .i64 ((a.length:Int)-(IntKind.wrap .i64 c))<(if (64:Int)<(if (0:Int)>f then (0:Int) else f) then (64:Int) else (if (0:Int)>f then (0:Int) else f)) then IntKind.wrap .i64 ((a.length:Int)-(IntKind.wrap .i64 c)) else (if (64:Int)<(if (0:Int)>f then (0:Int) else f) then (64:Int) else (if (0:Int)>f then (0:Int) else f))))))))) * 64≤140737488355328) then
 bif decide (List.length (([]:List (D_api_Record)) ++ slice' a (Int.toNat (IntKind.wrap .i64 c)) (some (Int.toNat (IntKind.wrap .i64 ((IntKind.wrap .i64 c)+(if IntKind.wrap .i64 ((a.length:Int)-(IntKind.wrap .i64 c))<(if (64:Int)<(if (0:Int)>f then (0:Int) else f) then (64:Int) else (if (0:Int)>f then (0:Int) else f)) then IntKind.wrap .i64 ((a.length:Int)-(IntKind.wrap .i64 c)) else (if (64:Int)<(if (0:Int)>f then (0:Int) else f) then (64:Int) else (if (0:Int)>f then (0:Int) else f))))))))=List.length (([]:List (D_api_Record)) ++ slice' a (Int.toNat (IntKind.wrap .i64 c)) (some (Int.toNat (IntKind.wrap .i64 ((IntKind.wrap .i64 c)+(if IntKind.wrap .i64 ((a.length:Int)-(IntKind.wrap .i64 c))<(if (64:Int)<(if (0:Int)>f then (0:Int) else f) then (64:Int) else (if (0:Int)>f then (0:Int) else f)) then IntKind.wrap .i64 ((a.length:Int)-(IntKind.wrap .i64 c)) else (if (64:Int)<(if (0:Int)>f then (0:Int) else f) then (64:Int) else (if (0:Int)>f then (0:Int) else f))))))))) then
 some ((),((([]:List (D_api_Record)) ++ slice' a (Int.toNat (IntKind.wrap .i64 c)) (some (Int.toNat (IntKind.wrap .i64 ((IntKind.wrap .i64 c)+(if IntKind.wrap .i64 ((a.length:Int)-(IntKind.wrap .i64 c))<(if (64:Int)<(if (0:Int)>f then (0:Int) else f) then (64:Int) else (if (0:Int)>f then (0:Int) else f)) then IntKind.wrap .i64 ((a.length:Int)-(IntKind.wrap .i64 c)) else (if (64:Int)<(if (0:Int)>f then (0:Int) else f) then (64:Int) else (if (0:Int)>f then (0:Int) else f)))))))),(0:Int),()))
 else none
 else none
 else none
 else none
 else none
 else none
def e50 (fu:Nat):Ent := ⟨50,(.cons (.hole (.sl .any T_api_Record)) (.cons hU (.cons hI .nil))),.nil,(.tup 2 (.cons (.own .own 49 T_api_Record) (.cons hI .nil))),p50 fu⟩
theorem g50 (fu:Nat):(e50 fu).Good Tryz.prog := Q0d Q0c Tryz.func50 fu [(3,(.ent (e24 fu))),(25,(.ty T_api_Record)),(34,(.ty T_api_Record))] [] rs50 37 (l := [e24 fu]) ⟨g24 fu,trivial⟩
def rs10:List RVx := [(.cell 4 true 7),(.cell 5 true 4)]
def p10 (fu:Nat):(Z4)×((Z11)×Unit)→Option (Unit×((Z4)×((Int×(Int×(Bool×((List (D_api_Record))×Unit))))×Unit))) := fun ⟨⟨a,c,f,h,i,j,k,_⟩,⟨l,m,n,o,q,s,t,u,w,x,_⟩,_⟩ =>
Option.bind (p46 fu ((l,m,n,o,q,s,t,u,w,x,()),())) fun ⟨_,y⟩ =>
Option.bind (p6 fu ((a,c,f,h,i,j,k,()),())) fun ⟨_,z⟩ =>
bif (z != (0:Int)) then
 Option.bind (p47 fu ((165:Int),())) fun ⟨_,⟨a0,c0,f0,h0,_⟩⟩ =>
 some ((),(((⟨#[]⟩:ByteArray),(⟨#[]⟩:ByteArray),(0:Int),(0:Int),[],[],[],()),(a0,c0,f0,h0,()),()))
else
 bif !y then
 Option.bind (p47 fu ((161:Int),())) fun ⟨_,⟨i0,j0,k0,l0,_⟩⟩ =>
 some ((),((a,c,f,h,i,j,k,()),(i0,j0,k0,l0,()),()))
 else
 bif (m != f) then
 Option.bind (p47 fu ((162:Int),())) fun ⟨_,⟨m0,n0,o0,q0,_⟩⟩ =>
 some ((),((a,c,f,h,i,j,k,()),(m0,n0,o0,q0,()),()))
 else
 bif (l==(1:Int)) then
 Option.bind (p48 fu ((a,c,f,h,i,j,k,()),(l,m,n,o,q,s,t,u,w,x,()),())) fun ⟨_,⟨⟨s0,t0,u0,w0,x0,y0,z0,_⟩,⟨a1,c1,f1,h1,_⟩,_⟩⟩ =>
 some ((),((s0,t0,u0,w0,x0,y0,z0,()),(a1,c1,f1,h1,()),()))
 else
 bif (l==(3:Int)) then
 Option.bind (p49 fu ((a,c,f,h,i,j,k,()),(l,m,n,o,q,s,t,u,w,x,()),())) fun ⟨_,⟨⟨i1,j1,k1,l1,m1,n1,o1,_⟩,⟨q1,s1,t1,u1,_⟩,_⟩⟩ =>
 some ((),((i1,j1,k1,l1,m1,n1,o1,()),(q1,s1,t1,u1,()),()))
 else
 bif (l==(5:Int)) then
 orK (E := (Bool×Unit)×Unit)
 (bif (h != (0:Int)) then
 some (.inl (((h != x),()),()))
 else
 some (.inl ((false,()),())))
 fun ⟨⟨w1,_⟩,_⟩ =>
 bif w1 then
 Option.bind (p47 fu ((164:Int),())) fun ⟨_,⟨x1,y1,z1,a2,_⟩⟩ =>
 some ((),((a,c,f,h,i,j,k,()),(x1,y1,z1,a2,()),()))
 else
 some ((),((a,c,f,x,i,j,k,()),((0:Int),(0:Int),(h==x),[],()),()))
 else
 bif (l==(6:Int)) then
 orK (E := (Bool×Unit)×Unit)
 (bif (h != (0:Int)) then
 some (.inl (((h != x),()),()))
 else
 some (.inl ((false,()),())))
 fun ⟨⟨c2,_⟩,_⟩ =>
 bif c2 then
 Option.bind (p47 fu ((164:Int),())) fun ⟨_,⟨f2,h2,i2,j2,_⟩⟩ =>
 some ((),((a,c,f,h,i,j,k,()),(f2,h2,i2,j2,()),()))
 else
 some ((),((a,c,f,(0:Int),i,j,k,()),((0:Int),(0:Int),(h==(0:Int)),[],()),()))
 else
 bif (h != (0:Int)) then
 Option.bind (p47 fu ((164:Int),())) fun ⟨_,⟨k2,l2,m2,n2,_⟩⟩ =>
 some ((),((a,c,f,h,i,j,k,()),(k2,l2,m2,n2,()),()))
 else
 bif (l==(2:Int)) then
 Option.bind (p50 fu (i,t,u,())) fun ⟨_,⟨o2,q2,_⟩⟩ =>
 bif (q2 != (0:Int)) then
 Option.bind (p47 fu (q2,())) fun ⟨_,⟨s2,t2,u2,w2,_⟩⟩ =>
 some ((),((a,c,f,h,i,j,k,()),(s2,t2,u2,w2,()),()))
 else
 bif decide (o2.length=o2.length) then
 some ((),((a,c,f,h,i,j,k,()),((0:Int),IntKind.wrap .u64 (t+(IntKind.wrap .u64 ((o2.length):Int))),false,o2,()),()))
 else none
 else
 Option.bind (p51 fu (k,w,())) fun ⟨_,⟨x2,y2,_⟩⟩ =>
 some ((),((a,c,f,h,i,j,k,()),((0:Int),x2,y2,[],()),()))
def e10 (fu:Nat):Ent := ⟨10,(.cons Y24 (.cons Y25 .nil)),.nil,(.tup 2 (.cons Y24 (.cons Y26 .nil))),p10 fu⟩
theorem g10 (fu:Nat):(e10 fu).Good Tryz.prog := Q0d Q0c Tryz.func10 fu [(5,(.ent (e46 fu))),(8,(.ent (e6 fu))),(12,(.ent (e47 fu))),(19,(.ent (e47 fu))),(29,(.ent (e47 fu))),(38,(.ent (e48 fu))),(49,(.ent (e49 fu))),(69,(.ent (e47 fu))),(102,(.ent (e47 fu))),(121,(.ent (e47 fu))),(134,(.ent (e50 fu))),(144,(.ent (e47 fu))),(162,(.ent (e51 fu)))] [(15,⟨[65],(.cons (.hole .bool) .nil),[],.nil,[2,3,4,5],[0,16,32,48]⟩),(22,⟨[92],(.cons (.hole .bool) .nil),[],.nil,[2,4,5],[0,32,48]⟩)] rs10 148 (l := [e46 fu,e6 fu,e47 fu,e47 fu,e47 fu,e48 fu,e49 fu,e47 fu,e47 fu,e47 fu,e50 fu,e47 fu,e51 fu]) ⟨g46 fu,g6 fu,g47 fu,g47 fu,g47 fu,g48 fu,g49 fu,g47 fu,g47 fu,g47 fu,g50 fu,g47 fu,g51 fu,trivial⟩
def rs52:List RVx := [(.tmp 4)]
def p52 (fu:Nat):(List (D_api_Record))×((List (D_api_Record))×Unit)→Option (Unit×Bool) := fun ⟨a,c,_⟩ =>
bif ((a.length:Int) != (c.length:Int)) then
 some ((),false)
else
 loopO (S := (Int×Unit)×Unit) fu (fun ⟨⟨f,_⟩,_⟩ =>
 bif decide (f<(a.length:Int)) then
 bif decide ((0:Int)≤f∧f<(a.length:Int)) then
 bif decide (f.toNat<a.length) then
 bif decide ((0:Int)≤f∧f<(c.length:Int)) then
 bif decide (f.toNat<c.length) then
 bif (((a.getD (f.toNat) (dflt T_api_Record)).1) != ((c.getD (f.toNat) (dflt T_api_Record)).1)) then
 inrO (some ((),false))
 else
 bif decide ((0:Int)≤f∧f<(a.length:Int)) then
 bif decide (f.toNat<a.length) then
 bif decide ((0:Int)≤f∧f<(c.length:Int)) then
 bif decide (f.toNat<c.length) then
 bif !(ByteArray.toList (((a.getD (f.toNat) (dflt T_api_Record)).2).1)==ByteArray.toList (((c.getD (f.toNat) (dflt T_api_Record)).2).1)) then
 inrO (some ((),false))
 else
 bif decide ((0:Int)≤f∧f<(a.length:Int)) then
 bif decide (f.toNat<a.length) then
 bif decide ((0:Int)≤f∧f<(c.length:Int)) then
 bif decide (f.toNat<c.length) then
 bif !(ByteArray.toList (strOfNums ((((a.getD (f.toNat) (dflt T_api_Record)).2).2).1))==ByteArray.toList (strOfNums ((((c.getD (f.toNat) (dflt T_api_Record)).2).2).1))) then
 inrO (some ((),false))
 else
 bif decide ((0:Int)≤f∧f<(a.length:Int)) then
 bif decide (f.toNat<a.length) then
 bif decide ((0:Int)≤f∧f<(c.length:Int)) then
 bif decide (f.toNat<c.length) then
 bif ((((((a.getD (f.toNat) (dflt T_api_Record)).2).2).2).1) != (((((c.getD (f.toNat) (dflt T_api_Record)).2).2).2).1)) then
 inrO (some ((),false))
 else
 bif decide ((0:Int)≤f∧f<(a.length:Int)) then
 bif decide (f.toNat<a.length) then
 bif decide ((0:Int)≤f∧f<(c.length:Int)) then
 bif decide (f.toNat<c.length) then
 bif ((((((a.getD (f.toNat) (dflt T_api_Record)).2).2).2).2) != (((((c.getD (f.toNat) (dflt T_api_Record)).2).2).2).2)) then
 inrO (some ((),false))
 else
 some (.inl ((IntKind.wrap .i64 (f+(1:Int)),()),()))
 else none
 else none
 else none
 else none
 else none
 else none
 else none
 else none
 else none
 else none
 else none
 else none
 else none
 else none
 else none
 else none
 else none
 else none
 else none
 else none
 else
 inrO (some ((),true)))
 (((0:Int),()),())
def e52 (fu:Nat):Ent := ⟨52,(.cons (.hole (.sl .any T_api_Record)) (.cons (.hole (.sl .any T_api_Record)) .nil)),.nil,(.hole .bool),p52 fu⟩
theorem g52 (fu:Nat):(e52 fu).Good Tryz.prog := Q0d Q0c Tryz.func52 fu [] [(6,⟨[5],(.cons hI .nil),[],.nil,[0,1],[]⟩)] rs52 82 (l := []) trivial
def rs53:List RVx := [(.tmp 4)]
def p53 (fu:Nat):(List (D_api_Producer))×((List (D_api_Producer))×Unit)→Option (Unit×Bool) := fun ⟨a,c,_⟩ =>
bif ((a.length:Int) != (c.length:Int)) then
 some ((),false)
else
 loopO (S := (Int×Unit)×Unit) fu (fun ⟨⟨f,_⟩,_⟩ =>
 bif decide (f<(a.length:Int)) then
 bif decide ((0:Int)≤f∧f<(a.length:Int)) then
 bif decide (f.toNat<a.length) then
 bif decide ((0:Int)≤f∧f<(c.length:Int)) then
 bif decide (f.toNat<c.length) then
 bif !(((a.getD (f.toNat) (dflt T_api_Producer)).1)==((c.getD (f.toNat) (dflt T_api_Producer)).1) && ((((a.getD (f.toNat) (dflt T_api_Producer)).2).1)==(((c.getD (f.toNat) (dflt T_api_Producer)).2).1) && (((((a.getD (f.toNat) (dflt T_api_Producer)).2).2).1)==((((c.getD (f.toNat) (dflt T_api_Producer)).2).2).1) && (((((a.getD (f.toNat) (dflt T_api_Producer)).2).2).2)==((((c.getD (f.toNat) (dflt T_api_Producer)).2).2).2) && true)))) then
 inrO (some ((),false))
 else
 some (.inl ((IntKind.wrap .i64 (f+(1:Int)),()),()))
 else none
 else none
 else none
 else none
 else
 inrO (some ((),true)))
 (((0:Int),()),())
def e53 (fu:Nat):Ent := ⟨53,(.cons (.hole (.sl .any T_api_Producer)) (.cons (.hole (.sl .any T_api_Producer)) .nil)),.nil,(.hole .bool),p53 fu⟩
theorem g53 (fu:Nat):(e53 fu).Good Tryz.prog := Q0d Q0c Tryz.func53 fu [] [(6,⟨[5],(.cons hI .nil),[],.nil,[0,1],[]⟩)] rs53 26 (l := []) trivial
def rs54:List RVx := [(.tmp 4)]
def p54 (fu:Nat):(List (D_runtime_errorAddressString))×((List (D_runtime_errorAddressString))×Unit)→Option (Unit×Bool) := fun ⟨a,c,_⟩ =>
bif ((a.length:Int) != (c.length:Int)) then
 some ((),false)
else
 loopO (S := (Int×Unit)×Unit) fu (fun ⟨⟨f,_⟩,_⟩ =>
 bif decide (f<(a.length:Int)) then
 bif decide ((0:Int)≤f∧f<(a.length:Int)) then
 bif decide (f.toNat<a.length) then
 bif decide ((0:Int)≤f∧f<(c.length:Int)) then
 bif decide (f.toNat<c.length) then
 bif !(((a.getD (f.toNat) (dflt T_runtime_errorAddressString)).1)==((c.getD (f.toNat) (dflt T_runtime_errorAddressString)).1) && (((a.getD (f.toNat) (dflt T_runtime_errorAddressString)).2)==((c.getD (f.toNat) (dflt T_runtime_errorAddressString)).2) && true)) then
 inrO (some ((),false))
 else
 some (.inl ((IntKind.wrap .i64 (f+(1:Int)),()),()))
 else none
 else none
 else none
 else none
 else
 inrO (some ((),true)))
 (((0:Int),()),())
def e54 (fu:Nat):Ent := ⟨54,(.cons (.hole (.sl .any T_runtime_errorAddressString)) (.cons (.hole (.sl .any T_runtime_errorAddressString)) .nil)),.nil,(.hole .bool),p54 fu⟩
theorem g54 (fu:Nat):(e54 fu).Good Tryz.prog := Q0d Q0c Tryz.func54 fu [] [(6,⟨[5],(.cons hI .nil),[],.nil,[0,1],[]⟩)] rs54 26 (l := []) trivial
def rs11:List RVx := [(.tmp 4)]
def p11 (fu:Nat):(Z4)×((Z4)×Unit)→Option (Unit×Bool) := fun ⟨⟨a,c,f,h,i,j,k,_⟩,⟨l,m,n,o,q,s,t,_⟩,_⟩ =>
Option.bind (p52 fu (i,q,())) fun ⟨_,u⟩ =>
Option.bind (p53 fu (j,s,())) fun ⟨_,w⟩ =>
Option.bind (p54 fu (k,t,())) fun ⟨_,x⟩ =>
bif u then
 bif w then
 bif x then
 bif (a==l && (c==m && true)) then
 bif (f==n) then
 some ((),(h==o))
 else
 some ((),false)
 else
 some ((),false)
 else
 some ((),false)
 else
 some ((),false)
else
 some ((),false)
def e11 (fu:Nat):Ent := ⟨11,(.cons Y6 (.cons Y6 .nil)),.nil,(.hole .bool),p11 fu⟩
theorem g11 (fu:Nat):(e11 fu).Good Tryz.prog := Q0d Q0c Tryz.func11 fu [(7,(.ent (e52 fu))),(13,(.ent (e53 fu))),(19,(.ent (e54 fu)))] [] rs11 51 (l := [e52 fu,e53 fu,e54 fu]) ⟨g52 fu,g53 fu,g54 fu,trivial⟩
def rs12:List RVx := [(.tmp 4)]
def p12 (fu:Nat):(Int×(Int×(Bool×((List (D_api_Record))×Unit))))×((Int×(Int×(Bool×((List (D_api_Record))×Unit))))×Unit)→Option (Unit×Bool) := fun ⟨⟨a,c,f,h,_⟩,⟨i,j,k,l,_⟩,_⟩ =>
Option.bind (p52 fu (h,l,())) fun ⟨_,m⟩ =>
bif m then
 bif (a==i) then
 bif (c==j) then
 some ((),f==k)
 else
 some ((),false)
 else
 some ((),false)
else
 some ((),false)
def e12 (fu:Nat):Ent := ⟨12,(.cons Y27 (.cons Y27 .nil)),.nil,(.hole .bool),p12 fu⟩
theorem g12 (fu:Nat):(e12 fu).Good Tryz.prog := Q0d Q0c Tryz.func12 fu [(7,(.ent (e52 fu)))] [] rs12 33 (l := [e52 fu]) ⟨g52 fu,trivial⟩
def p13 (fu:Nat):(Z4)×Unit→Option (Unit×Unit) := fun ⟨⟨_,_,_,_,a,c,f,_⟩,_⟩ =>
loopO (S := (Int×Unit)×Unit) fu (fun ⟨⟨h,_⟩,_⟩ =>
 bif decide (h<(a.length:Int)) then
 bif decide ((0:Int)≤h∧h<(a.length:Int)) then
 loopO (S := (Int×Unit)×Unit) fu (fun ⟨⟨i,_⟩,_⟩ =>
 bif decide ((0:Int)≤h∧h<(a.length:Int)) then
 bif decide (h.toNat<a.length) then
 bif decide (i<(List.length ((((a.getD (h.toNat) (dflt T_api_Record)).2).2).1):Int)) then
 bif decide ((0:Int)≤h∧h<(a.length:Int)) then
 bif decide (h.toNat<a.length) then
 bif decide ((0:Int)≤i∧i<(List.length ((((a.getD (h.toNat) (dflt T_api_Record)).2).2).1):Int)) then
 bif decide (i.toNat<List.length ((((a.getD (h.toNat) (dflt T_api_Record)).2).2).1)) then
 bif decide ((0:Int)≤i∧i<(List.length ((((a.getD (h.toNat) (dflt T_api_Record)).2).2).1):Int)) then
 some (.inl ((IntKind.wrap .i64 (i+(1:Int)),()),()))
 else none
 else none
 else none
 else none
 else none
 else
 inrO (some (.inl ((IntKind.wrap .i64 (h+(1:Int)),()),())))
 else none
 else none)
 (((0:Int),()),())
 else none
 else
 inrO (loopO (S := (Int×Unit)×Unit) fu (fun ⟨⟨j,_⟩,_⟩ =>
 bif decide (j<(c.length:Int)) then
 bif decide ((0:Int)≤j∧j<(c.length:Int)) then
 bif decide (j.toNat<c.length) then
 bif decide ((0:Int)≤j∧j<(c.length:Int)) then
 some (.inl ((IntKind.wrap .i64 (j+(1:Int)),()),()))
 else none
 else none
 else none
 else
 inrO (loopO (S := (Int×Unit)×Unit) fu (fun ⟨⟨k,_⟩,_⟩ =>
 bif decide (k<(f.length:Int)) then
 bif decide ((0:Int)≤k∧k<(f.length:Int)) then
 bif decide (k.toNat<f.length) then
 bif decide ((0:Int)≤k∧k<(f.length:Int)) then
 some (.inl ((IntKind.wrap .i64 (k+(1:Int)),()),()))
 else none
 else none
 else none
 else
 inrO (some ((),())))
 (((0:Int),()),())))
 (((0:Int),()),())))
 (((0:Int),()),())
def e13 (fu:Nat):Ent := ⟨13,(.cons Y28 .nil),.nil,(.tup 0 .nil),p13 fu⟩
def s13 (fu:Nat):Spo := ⟨13,true,(.pair .str (.pair .str (.pair (.int .u64) (.pair (.int .u64) (.pair (.sl .new T_api_Record_h) (.pair (.sl .new T_api_Producer_h) (.sl .new T_runtime_errorAddressString_h))))))),fun x=>(p13 fu (Tp.chainD (.pair .str (.pair .str (.pair (.int .u64) (.pair (.int .u64) (.pair (.sl .new T_api_Record_h) (.pair (.sl .new T_api_Producer_h) (.sl .new T_runtime_errorAddressString_h))))))) x .nil (),())).isSome⟩
theorem g13 (fu:Nat):(s13 fu).Good Tryz.prog := K2s Q0c (ash := (.cons Y28 .nil)) (vsh := (.tup 0 .nil)) (p := p13 fu) Tryz.func13 fu [] [(3,⟨[2],(.cons hI .nil),[],.nil,[1],[0]⟩),(9,⟨[3],(.cons hI .nil),[],.nil,[1,2],[0]⟩),(15,⟨[4],(.cons hI .nil),[],.nil,[1],[0]⟩),(20,⟨[5],(.cons hI .nil),[],.nil,[1],[0]⟩)] [] 72 (l := []) trivial (ls := []) trivial (K2q rfl) rfl
def rs15:List RVx := [(.cell 4 true 7),(.tmp 5)]
def p15 (fu:Nat):(ByteArray×(ByteArray×Unit))×(Int×Unit)→Option (Unit×((Z4)×(Int×Unit))) := fun ⟨⟨a,c,_⟩,f,_⟩ =>
orK (E := (Bool×Unit)×Unit)
 (Option.bind (p27 fu ((a,c,()),())) fun ⟨_,h⟩ =>
 bif (h != (0:Int)) then
 some (.inl ((true,()),()))
 else
 some (.inl (((f==(0:Int)),()),())))
 fun ⟨⟨i,_⟩,_⟩ =>
bif i then
 some ((),(((⟨#[]⟩:ByteArray),(⟨#[]⟩:ByteArray),(0:Int),(0:Int),[],[],[],()),(165:Int),()))
else
 some ((),((a,c,f,(0:Int),[],[],[],()),(0:Int),()))
def e15 (fu:Nat):Ent := ⟨15,(.cons (.agg 2 (.cons hT (.cons hT .nil))) (.cons hU .nil)),.nil,(.tup 2 (.cons Y7 (.cons hI .nil))),p15 fu⟩
theorem g15 (fu:Nat):(e15 fu).Good Tryz.prog := Q0d Q0c Tryz.func15 fu [(4,(.ent (e27 fu)))] [(2,⟨[12],(.cons (.hole .bool) .nil),[],.nil,[1,2,4],[0,16]⟩)] rs15 17 (l := [e27 fu]) ⟨g27 fu,trivial⟩
def rs3:List RVx := [(.tmp 4)]
def p3 (fu:Nat):(Z4)×((List (D_api_PartCommand))×Unit)→Option (Unit×Bool) := fun ⟨⟨a,c,f,h,i,j,k,_⟩,l,_⟩ =>
Option.bind (p4 fu ()) fun ⟨_,m⟩ =>
Option.bind (p5 fu ((a,c,f,h,i,j,k,()),())) fun ⟨_,n⟩ =>
Option.bind (p6 fu ((a,c,f,h,i,j,k,()),())) fun ⟨_,o⟩ =>
bif (n != o) then
 some ((),false)
else
 loopO (S := ((List (D_api_PartCommand))×(Unit×(Bool×(Int×Unit))))×((Z4)×Unit)) fu (fun ⟨⟨q,_,s,t,_⟩,⟨⟨u,w,x,y,z,a0,c0,_⟩,_⟩⟩ =>
 bif decide (t<(q.length:Int)) then
 orK (E := ((Z4)×(Int×Unit))×Unit)
 (Option.bind (p8 fu ((u,w,x,y,z,a0,c0,()),())) fun ⟨_,f0⟩ =>
 bif decide (f0.length=f0.length) then
 Option.bind (p7 fu (f0,())) fun ⟨_,⟨⟨h0,i0,j0,k0,l0,m0,n0,_⟩,o0,_⟩⟩ =>
 bif decide (l0.length=l0.length) then
 bif decide (m0.length=m0.length) then
 bif decide (n0.length=n0.length) then
 some (.inl (((h0,i0,j0,k0,l0,m0,n0,()),o0,()),()))
 else none
 else none
 else none
 else none)
 fun ⟨⟨⟨q0,s0,t0,u0,w0,x0,y0,_⟩,z0,_⟩,_⟩ =>
 orK (E := ((Z4)×((Int×(Int×(Bool×((List (D_api_Record))×Unit))))×Unit))×Unit)
 (bif decide ((0:Int)≤t∧t<(q.length:Int)) then
 bif decide (t.toNat<q.length) then
 Option.bind (p9 fu ((u,w,x,y,z,a0,c0,()),((q.getD (t.toNat) (dflt T_api_PartCommand)).1,((q.getD (t.toNat) (dflt T_api_PartCommand)).2).1,(((q.getD (t.toNat) (dflt T_api_PartCommand)).2).2).1,((((q.getD (t.toNat) (dflt T_api_PartCommand)).2).2).2).1,(((((q.getD (t.toNat) (dflt T_api_PartCommand)).2).2).2).2).1,((((((q.getD (t.toNat) (dflt T_api_PartCommand)).2).2).2).2).2).1,(((((((q.getD (t.toNat) (dflt T_api_PartCommand)).2).2).2).2).2).2).1,((((((((q.getD (t.toNat) (dflt T_api_PartCommand)).2).2).2).2).2).2).2).1,(((((((((q.getD (t.toNat) (dflt T_api_PartCommand)).2).2).2).2).2).2).2).2).1,(((((((((q.getD (t.toNat) (dflt T_api_PartCommand)).2).2).2).2).2).2).2).2).2,()),())) fun ⟨_,⟨⟨a1,c1,f1,h1,i1,j1,k1,_⟩,⟨l1,m1,n1,o1,_⟩,_⟩⟩ =>
 bif decide (j1.length=j1.length) then
 bif decide (k1.length=k1.length) then
 bif decide (o1.length=o1.length) then
 some (.inl (((a1,c1,f1,h1,i1,j1,k1,()),(l1,m1,n1,o1,()),()),()))
 else none
 else none
 else none
 else none
 else none)
 fun ⟨⟨⟨q1,s1,t1,u1,w1,x1,y1,_⟩,⟨z1,a2,c2,f2,_⟩,_⟩,_⟩ =>
 bif decide ((0:Int)≤t∧t<(q.length:Int)) then
 bif decide (t.toNat<q.length) then
 Option.bind (p10 fu ((u,w,x,y,z,a0,c0,()),((q.getD (t.toNat) (dflt T_api_PartCommand)).1,((q.getD (t.toNat) (dflt T_api_PartCommand)).2).1,(((q.getD (t.toNat) (dflt T_api_PartCommand)).2).2).1,((((q.getD (t.toNat) (dflt T_api_PartCommand)).2).2).2).1,(((((q.getD (t.toNat) (dflt T_api_PartCommand)).2).2).2).2).1,((((((q.getD (t.toNat) (dflt T_api_PartCommand)).2).2).2).2).2).1,(((((((q.getD (t.toNat) (dflt T_api_PartCommand)).2).2).2).2).2).2).1,((((((((q.getD (t.toNat) (dflt T_api_PartCommand)).2).2).2).2).2).2).2).1,(((((((((q.getD (t.toNat) (dflt T_api_PartCommand)).2).2).2).2).2).2).2).2).1,(((((((((q.getD (t.toNat) (dflt T_api_PartCommand)).2).2).2).2).2).2).2).2).2,()),())) fun ⟨_,⟨⟨h2,i2,j2,k2,l2,m2,n2,_⟩,⟨o2,q2,s2,t2,_⟩,_⟩⟩ =>
 Option.bind (p11 fu ((q1,s1,t1,u1,w1,x1,y1,()),(h2,i2,j2,k2,l2,m2,n2,()),())) fun ⟨_,u2⟩ =>
 bif decide (f2.length=f2.length) then
 Option.bind (p12 fu ((z1,a2,c2,f2,()),(o2,q2,s2,t2,()),())) fun ⟨_,w2⟩ =>
 orK (E := (Bool×Unit)×Unit)
 (bif !u2 then
 inrO (inrO (some ((),false)))
 else
 bif !w2 then
 inrO (inrO (some ((),false)))
 else
 some (.inl ((!w2,()),())))
 fun ⟨⟨_,_⟩,_⟩ =>
 bif Option.isSome (p13 fu ((q1,s1,t1,u1,w1,x1,y1,()),())) then
 bif decide (f2.length=f2.length) then
 loopO (S := (Int×Unit)×((Int×(Int×(Bool×((List (D_api_Record))×Unit))))×Unit)) fu (fun ⟨⟨x2,_⟩,⟨⟨y2,z2,a3,c3,_⟩,_⟩⟩ =>
 bif decide (x2<((c3.length):Int)) then
 bif decide ((0:Int)≤x2∧x2<(c3.length:Int)) then
 bif decide (x2.toNat<c3.length) then
 bif decide (c3.length=List.length (List.set c3 (x2.toNat) ((77:Int),(c3.getD (x2.toNat) (dflt T_api_Record)).2))) then
 some (.inl ((IntKind.wrap .i64 (x2+(1:Int)),()),((y2,z2,a3,(List.set c3 (x2.toNat) ((77:Int),(c3.getD (x2.toNat) (dflt T_api_Record)).2)),()),())))
 else none
 else none
 else none
 else
 inrO (orK (E := (Bool×Unit)×Unit)
 (bif (z0 != (0:Int)) then
 some (.inl ((true,()),()))
 else
 Option.bind (p11 fu ((u,w,x,y,z,a0,c0,()),(q0,s0,t0,u0,w0,x0,y0,()),())) fun ⟨_,f3⟩ =>
 some (.inl ((f3,()),())))
 fun ⟨⟨h3,_⟩,_⟩ =>
 bif !h3 then
 inrO (some ((),false))
 else
 some (.inl ((q,(),s,IntKind.wrap .i64 (t+(1:Int)),()),((h2,i2,j2,k2,l2,m2,n2,()),())))))
 (((0:Int),()),((z1,a2,c2,f2,()),()))
 else none
 else none
 else none
 else none
 else none
 else
 inrO (Option.bind (p14 fu ((u,w,()),x,())) fun ⟨_,⟨⟨i3,j3,k3,l3,m3,n3,o3,_⟩,q3,_⟩⟩ =>
 Option.bind (p15 fu ((u,w,()),x,())) fun ⟨_,⟨⟨s3,t3,u3,w3,x3,y3,z3,_⟩,a4,_⟩⟩ =>
 Option.bind (p11 fu ((i3,j3,k3,l3,m3,n3,o3,()),(s3,t3,u3,w3,x3,y3,z3,()),())) fun ⟨_,c4⟩ =>
 bif s then
 bif c4 then
 some ((),(q3==a4))
 else
 some ((),false)
 else
 some ((),false)))
 ((l,(),m,(0:Int),()),((a,c,f,h,i,j,k,()),()))
def e3 (fu:Nat):Ent := ⟨3,(.cons Y6 (.cons (.hole (.sl .any T_api_PartCommand)) .nil)),.nil,(.hole .bool),p3 fu⟩
theorem g3 (fu:Nat):(e3 fu).Good Tryz.prog := K2j Q0c Tryz.func3 fu [(2,(.ent (e4 fu))),(5,(.ent (e5 fu))),(7,(.ent (e6 fu))),(16,(.ent (e8 fu))),(17,(.ent (e7 fu))),(29,(.ent (e9 fu))),(42,(.ent (e10 fu))),(52,(.ent (e11 fu))),(56,(.ent (e12 fu))),(66,(.spo (s13 fu))),(87,(.ent (e11 fu))),(102,(.ent (e14 fu))),(113,(.ent (e15 fu))),(122,(.ent (e11 fu)))] [(7,⟨[1,2,5,6],(.cons (.hole (.sl .any T_api_PartCommand)) (.cons (.ptr 0) (.cons (.hole .bool) (.cons hI .nil)))),[(0,29,7)],(.cons Y6 .nil),[],[]⟩),(11,⟨[7,8],(.cons Y29 (.cons hI .nil)),[],.nil,[1,2,5,6],[0]⟩),(12,⟨[9,10],(.cons Y29 (.cons Y30 .nil)),[],.nil,[1,2,5,6,7,8],[0,224]⟩),(16,⟨[68],(.cons (.hole .bool) .nil),[],.nil,[1,2,5,6,7,8,9,10,11],[0,224,225,226,227,372]⟩),(22,⟨[15],(.cons hI .nil),[(226,39,4)],(.cons Y31 .nil),[1,2,5,6,7,8,10,11,68],[0,224,372]⟩),(26,⟨[16],(.cons (.hole .bool) .nil),[],.nil,[1,2,5,6,11,68],[0,372]⟩)] [(11,.zone),(12,.shut)] rs3 122 (l := [e4 fu,e5 fu,e6 fu,e8 fu,e7 fu,e9 fu,e10 fu,e11 fu,e12 fu,e11 fu,e14 fu,e15 fu,e11 fu]) ⟨g4 fu,g5 fu,g6 fu,g8 fu,g7 fu,g9 fu,g10 fu,g11 fu,g12 fu,g11 fu,g14 fu,g15 fu,g11 fu,trivial⟩ (ls := [s13 fu]) ⟨g13 fu,trivial⟩
end Go.Proofs.YtdkdhcakoccpfaaGreatDoor
