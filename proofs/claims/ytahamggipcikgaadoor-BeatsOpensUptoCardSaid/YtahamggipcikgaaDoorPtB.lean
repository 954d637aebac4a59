/-
  The functions, typed.
-/
import Derived.Test.YtahamggipcikgaaDoorDaN
import Derived.Test.YtahamggipcikgaaDoorRows
namespace Go.Proofs.YtahamggipcikgaaDoor.Bq
set_option maxRecDepth 1000000
open Go.RowKit
abbrev T_api_Conf:Tp := (.pair (.sl .any (.int .i64)) (.sl .any (.int .i64)))
abbrev D_api_Conf := (List (Int))×(List (Int))
abbrev T_api_Packet:Tp := (.pair (.int .i64) (.pair (.int .i64) (.pair (.int .i64) (.sl .any (.int .u8)))))
abbrev T_api_Entry:Tp := (.pair (.int .u64) (.pair (.int .u64) (.pair (.int .i64) (.pair (.sl .any (.int .u8)) T_api_Conf))))
abbrev D_api_Entry := (Int)×((Int)×((Int)×((List (Int))×(D_api_Conf))))
abbrev T_api_Msg:Tp := (.pair (.int .i64) (.pair (.int .i64) (.pair (.int .i64) (.pair (.int .u64) (.pair (.int .u64) (.pair (.int .u64) (.pair (.sl .any T_api_Entry) (.pair (.int .u64) (.pair .bool (.pair (.int .u64) (.pair T_api_Conf (.pair (.sl .any (.int .u8)) .bool))))))))))))
abbrev D_api_Msg := (Int)×((Int)×((Int)×((Int)×((Int)×((Int)×((List (D_api_Entry))×((Int)×((Bool)×((Int)×((D_api_Conf)×((List (Int))×(Bool))))))))))))
abbrev T_beats_Wire:Tp := (.pair (.int .u64) T_api_Msg)
abbrev D_beats_Wire := (Int)×(D_api_Msg)
theorem orders:Tryd.prog.follows .mixedOrders=true := by kernel_rfl
abbrev Z0:Type := (Int)×((Int)×((Int)×((Int)×((Int)×((Int)×((List (D_api_Entry))×((Int)×((Bool)×((Int)×((List (Int))×((List (Int))×((List (Int))×((Bool)×(Unit))))))))))))))
abbrev Y1:Sh := (.agg 14 (.cons (.hole (.int .i64)) (.cons (.hole (.int .i64)) (.cons (.hole (.int .i64)) (.cons (.hole (.int .u64)) (.cons (.hole (.int .u64)) (.cons (.hole (.int .u64)) (.cons (.hole (.sl .any T_api_Entry)) (.cons (.hole (.int .u64)) (.cons (.hole .bool) (.cons (.hole (.int .u64)) (.cons (.hole (.sl .any (.int .i64))) (.cons (.hole (.sl .any (.int .i64))) (.cons (.hole (.sl .any (.int .u8))) (.cons (.hole .bool) .nil)))))))))))))))
abbrev Z2:Type := (Int)×((Int)×((Int)×((List (Int))×((List (Int))×((List (Int))×(Unit))))))
abbrev Y3:Sh := (.agg 6 (.cons (.hole (.int .u64)) (.cons (.hole (.int .u64)) (.cons (.hole (.int .i64)) (.cons (.hole (.sl .any (.int .u8))) (.cons (.hole (.sl .any (.int .i64))) (.cons (.hole (.sl .any (.int .i64))) .nil)))))))
def rs15:List RVx := [(.tmp 2)]
def p15 (_:Nat):(Int)×(Unit)→Option ((Unit)×(Bool)) := fun ⟨a,_⟩ =>
bif decide (a≥(1:Int)) then
 some ((),decide (a≤(7:Int)))
else
 some ((),false)
def e15 (fu:Nat):Ent := ⟨15,(.cons (.hole (.int .i64)) .nil),.nil,(.hole .bool),p15 fu⟩
theorem g15 (fu:Nat):(e15 fu).Good Tryd.prog := good_fx orders Tryd.func15 fu [] [] rs15 9 (l := []) trivial
def rs43:List RVx := [(.tmp 2)]
def p43 (_:Nat):(Int)×(Unit)→Option ((Unit)×(Bool)) := fun ⟨a,_⟩ =>
bif decide (a≥(1:Int)) then
 some ((),decide (a≤(9:Int)))
else
 some ((),false)
def e43 (fu:Nat):Ent := ⟨43,(.cons (.hole (.int .i64)) .nil),.nil,(.hole .bool),p43 fu⟩
theorem g43 (fu:Nat):(e43 fu).Good Tryd.prog := good_fx orders Tryd.func43 fu [] [] rs43 9 (l := []) trivial
def rs70:List RVx := [(.tmp 2)]
def p70 (_:Nat):((List (Int))×((List (Int))×(Unit)))×(Unit)→Option ((Unit)×(Bool)) := fun ⟨⟨a,c,_⟩,_⟩ =>
bif decide ((List.length a:Int)>(7:Int)) then
 some ((),true)
else
 some ((),decide ((List.length c:Int)>(7:Int)))
def e70 (fu:Nat):Ent := ⟨70,(.cons (.agg 2 (.cons (.hole (.sl .any (.int .i64))) (.cons (.hole (.sl .any (.int .i64))) .nil))) .nil),.nil,(.hole .bool),p70 fu⟩
theorem g70 (fu:Nat):(e70 fu).Good Tryd.prog := good_fx orders Tryd.func70 fu [] [] rs70 13 (l := []) trivial
def rs54:List RVx := [(.tmp 2)]
def p54 (fu:Nat):(Z0)×(Unit)→Option ((Unit)×(Bool)) := fun ⟨⟨_,_,_,_,_,_,a,_,_,_,c,f,h,_,_⟩,_⟩ =>
bif decide ((List.length a:Int)>(8:Int)) then
 some ((),true)
else
 bif decide ((List.length h:Int)>(262144:Int)) then
 some ((),true)
 else
 Option.bind (p70 fu ((c,f,()),())) fun ⟨_,i⟩ =>
 bif i then
 some ((),true)
 else
 loopO (S := ((Int)×(Unit))×(Unit)) fu (fun ⟨⟨j,_⟩,_⟩ =>
 bif decide (j<(List.length a:Int)) then
 bif decide ((0:Int)≤j∧j<(List.length a:Int)) then
 bif decide (Int.toNat j<List.length a) then
 bif decide ((List.length (((((List.getD a (Int.toNat j) (dflt T_api_Entry)).2).2).2).1):Int)>(262144:Int)) then
 inrO (some ((),true))
 else
 Option.bind (p70 fu (((((((List.getD a (Int.toNat j) (dflt T_api_Entry)).2).2).2).2).1,(((((List.getD a (Int.toNat j) (dflt T_api_Entry)).2).2).2).2).2,()),())) fun ⟨_,k⟩ =>
 bif k then
 inrO (some ((),true))
 else
 bif decide (((((List.getD a (Int.toNat j) (dflt T_api_Entry)).2).2).1)<(1:Int)) then
 inrO (some ((),true))
 else
 bif decide (((((List.getD a (Int.toNat j) (dflt T_api_Entry)).2).2).1)>(3:Int)) then
 inrO (some ((),true))
 else
 some (.inl ((IntKind.wrap .i64 (j+(1:Int)),()),()))
 else none
 else none
 else
 inrO (some ((),false)))
 (((0:Int),()),())
def e54 (fu:Nat):Ent := ⟨54,(.cons Y1 .nil),.nil,(.hole .bool),p54 fu⟩
theorem g54 (fu:Nat):(e54 fu).Good Tryd.prog := good_fx orders Tryd.func54 fu [(15,(.ent (e70 fu))),(34,(.ent (e70 fu)))] [(6,⟨[23],(.cons (.hole (.int .i64)) .nil),[],.nil,[21,22],[]⟩)] rs54 47 (l := [e70 fu,e70 fu]) ⟨g70 fu,g70 fu,trivial⟩
def rs31:List RVx := [(.tmp 4)]
def p31 (fu:Nat):(Int)×((List (D_beats_Wire))×(Unit))→Option ((Unit)×(Int)) := fun ⟨a,c,_⟩ =>
Option.bind (p15 fu (a,())) fun ⟨_,f⟩ =>
bif !f then
 some ((),(1:Int))
else
 loopO (S := ((Int)×(Unit))×(Unit)) fu (fun ⟨⟨h,_⟩,_⟩ =>
 bif decide (h<(List.length c:Int)) then
 bif decide ((0:Int)≤h∧h<(List.length c:Int)) then
 bif decide (Int.toNat h<List.length c) then
 bif (((((List.getD c (Int.toNat h) (dflt T_beats_Wire)).2).2).1) != a) then
 inrO (some ((),(1:Int)))
 else
 Option.bind (p15 fu (((((List.getD c (Int.toNat h) (dflt T_beats_Wire)).2).2).2).1,())) fun ⟨_,i⟩ =>
 bif !i then
 inrO (some ((),(1:Int)))
 else
 bif ((((((List.getD c (Int.toNat h) (dflt T_beats_Wire)).2).2).2).1)==a) then
 inrO (some ((),(1:Int)))
 else
 Option.bind (p43 fu (((List.getD c (Int.toNat h) (dflt T_beats_Wire)).2).1,())) fun ⟨_,j⟩ =>
 bif !j then
 inrO (some ((),(1:Int)))
 else
 some (.inl ((IntKind.wrap .i64 (h+(1:Int)),()),()))
 else none
 else none
 else
 inrO (bif decide ((List.length c:Int)>(4096:Int)) then
 some ((),(2:Int))
 else
 loopO (S := ((Int)×(Unit))×(Unit)) fu (fun ⟨⟨k,_⟩,_⟩ =>
 bif decide (k<(List.length c:Int)) then
 bif decide ((0:Int)≤k∧k<(List.length c:Int)) then
 bif decide (Int.toNat k<List.length c) then
 Option.bind (p54 fu ((((List.getD c (Int.toNat k) (dflt T_beats_Wire)).2).1,(((List.getD c (Int.toNat k) (dflt T_beats_Wire)).2).2).1,((((List.getD c (Int.toNat k) (dflt T_beats_Wire)).2).2).2).1,(((((List.getD c (Int.toNat k) (dflt T_beats_Wire)).2).2).2).2).1,((((((List.getD c (Int.toNat k) (dflt T_beats_Wire)).2).2).2).2).2).1,(((((((List.getD c (Int.toNat k) (dflt T_beats_Wire)).2).2).2).2).2).2).1,((((((((List.getD c (Int.toNat k) (dflt T_beats_Wire)).2).2).2).2).2).2).2).1,(((((((((List.getD c (Int.toNat k) (dflt T_beats_Wire)).2).2).2).2).2).2).2).2).1,((((((((((List.getD c (Int.toNat k) (dflt T_beats_Wire)).2).2).2).2).2).2).2).2).2).1,(((((((((((List.getD c (Int.toNat k) (dflt T_beats_Wire)).2).2).2).2).2).2).2).2).2).2).1,(((((((((((((List.getD c (Int.toNat k) (dflt T_beats_Wire)).2).2).2).2).2).2).2).2).2).2).2).1).1,(((((((((((((List.getD c (Int.toNat k) (dflt T_beats_Wire)).2).2).2).2).2).2).2).2).2).2).2).1).2,(((((((((((((List.getD c (Int.toNat k) (dflt T_beats_Wire)).2).2).2).2).2).2).2).2).2).2).2).2).1,(((((((((((((List.getD c (Int.toNat k) (dflt T_beats_Wire)).2).2).2).2).2).2).2).2).2).2).2).2).2,()),())) fun ⟨_,l⟩ =>
 bif l then
 inrO (some ((),(2:Int)))
 else
 some (.inl ((IntKind.wrap .i64 (k+(1:Int)),()),()))
 else none
 else none
 else
 inrO (some ((),(0:Int))))
 (((0:Int),()),())))
 (((0:Int),()),())
def e31 (fu:Nat):Ent := ⟨31,(.cons (.hole (.int .i64)) (.cons (.hole (.sl .any T_beats_Wire)) .nil)),.nil,(.hole (.int .i64)),p31 fu⟩
theorem g31 (fu:Nat):(e31 fu).Good Tryd.prog := good_fx orders Tryd.func31 fu [(2,(.ent (e15 fu))),(24,(.ent (e15 fu))),(36,(.ent (e43 fu))),(56,(.ent (e54 fu)))] [(6,⟨[15],(.cons (.hole (.int .i64)) .nil),[],.nil,[0,1,13,14],[]⟩),(19,⟨[49],(.cons (.hole (.int .i64)) .nil),[],.nil,[47,48],[]⟩)] rs31 57 (l := [e15 fu,e15 fu,e43 fu,e54 fu]) ⟨g15 fu,g15 fu,g43 fu,g54 fu,trivial⟩
def rs55:List RVx := []
def p55 (fu:Nat):((Unit)×(Unit))×((Int)×(Unit))→Option ((((List (Int))×(Unit))×(Unit))×(Unit)) := fun ⟨⟨_,_⟩,a,_⟩ =>
loopO (S := ((Int)×(Unit))×(((List (Int))×(Unit))×(Unit))) fu (fun ⟨⟨c,_⟩,⟨⟨f,_⟩,_⟩⟩ =>
 bif decide (c≥(128:Int)) then
 bif decide (List.length f=List.length f) then
 bif decide (List.length f+List.length ([IntKind.wrap .u8 ((BitVec.ofInt (IntKind.bits .u8) (IntKind.wrap .u8 c) ||| BitVec.ofInt (IntKind.bits .u8) (128:Int)).toNat:Int)])≤maxLen∧(List.length f+List.length ([IntKind.wrap .u8 ((BitVec.ofInt (IntKind.bits .u8) (IntKind.wrap .u8 c) ||| BitVec.ofInt (IntKind.bits .u8) (128:Int)).toNat:Int)])) * 1≤140737488355328) then
 bif decide (List.length (f ++ [IntKind.wrap .u8 ((BitVec.ofInt (IntKind.bits .u8) (IntKind.wrap .u8 c) ||| BitVec.ofInt (IntKind.bits .u8) (128:Int)).toNat:Int)])=List.length (f ++ [IntKind.wrap .u8 ((BitVec.ofInt (IntKind.bits .u8) (IntKind.wrap .u8 c) ||| BitVec.ofInt (IntKind.bits .u8) (128:Int)).toNat:Int)])) then
 some (.inl ((Int.fdiv c (2 ^ (min (Int.toNat (7:Int)) (IntKind.bits .u64))),()),(((f ++ [IntKind.wrap .u8 ((BitVec.ofInt (IntKind.bits .u8) (IntKind.wrap .u8 c) ||| BitVec.ofInt (IntKind.bits .u8) (128:Int)).toNat:Int)]),()),())))
 else none
 else none
 else none
 else
 inrO (bif decide (List.length f=List.length f) then
 bif decide (List.length f+List.length ([IntKind.wrap .u8 c])≤maxLen∧(List.length f+List.length ([IntKind.wrap .u8 c])) * 1≤140737488355328) then
 bif decide (List.length (f ++ [IntKind.wrap .u8 c])=List.length (f ++ [IntKind.wrap .u8 c])) then
 some ((((f ++ [IntKind.wrap .u8 c]),()),()),())
 else none
 else none
 else none))
 ((a,()),(([],()),()))
def e55 (fu:Nat):Ent := ⟨55,(.cons (.box 102 1 (.cons .nils .nil)) (.cons (.hole (.int .u64)) .nil)),(.cons (.agg 1 (.cons (.own .own 5 (.int .u8)) .nil)) .nil),(.tup 0 .nil),p55 fu⟩
theorem g55 (fu:Nat):(e55 fu).Good Tryd.prog := good_fx orders Tryd.func55 fu [(10,(.ty (.int .u8))),(11,(.ty (.int .u8))),(25,(.ty (.int .u8))),(26,(.ty (.int .u8)))] [(1,⟨[1],(.cons (.hole (.int .u64)) .nil),[(0,102,1)],(.cons (.agg 1 (.cons (.own .own 5 (.int .u8)) .nil)) .nil),[0],[]⟩)] rs55 31 (l := []) trivial
def p55_1 (fu:Nat):((List (Int))×(Unit))×((Int)×(Unit))→Option ((((List (Int))×(Unit))×((Unit)×(Unit)))×(Unit)) := fun ⟨⟨a,_⟩,c,_⟩ =>
bif decide (List.length a=List.length a) then
 loopO (S := ((Int)×(Unit))×(((List (Int))×(Unit))×(Unit))) fu (fun ⟨⟨f,_⟩,⟨⟨h,_⟩,_⟩⟩ =>
 bif decide (f≥(128:Int)) then
 bif decide (List.length h=List.length h) then
 bif decide (List.length h+List.length ([IntKind.wrap .u8 ((BitVec.ofInt (IntKind.bits .u8) (IntKind.wrap .u8 f) ||| BitVec.ofInt (IntKind.bits .u8) (128:Int)).toNat:Int)])≤maxLen∧(List.length h+List.length ([IntKind.wrap .u8 ((BitVec.ofInt (IntKind.bits .u8) (IntKind.wrap .u8 f) ||| BitVec.ofInt (IntKind.bits .u8) (128:Int)).toNat:Int)])) * 1≤140737488355328) then
 bif decide (List.length (h ++ [IntKind.wrap .u8 ((BitVec.ofInt (IntKind.bits .u8) (IntKind.wrap .u8 f) ||| BitVec.ofInt (IntKind.bits .u8) (128:Int)).toNat:Int)])=List.length (h ++ [IntKind.wrap .u8 ((BitVec.ofInt (IntKind.bits .u8) (IntKind.wrap .u8 f) ||| BitVec.ofInt (IntKind.bits .u8) (128:Int)).toNat:Int)])) then
 some (.inl ((Int.fdiv f (2 ^ (min (Int.toNat (7:Int)) (IntKind.bits .u64))),()),(((h ++ [IntKind.wrap .u8 ((BitVec.ofInt (IntKind.bits .u8) (IntKind.wrap .u8 f) ||| BitVec.ofInt (IntKind.bits .u8) (128:Int)).toNat:Int)]),()),())))
 else none
 else none
 else none
 else
 inrO (bif decide (List.length h=List.length h) then
 bif decide (List.length h+List.length ([IntKind.wrap .u8 f])≤maxLen∧(List.length h+List.length ([IntKind.wrap .u8 f])) * 1≤140737488355328) then
 bif decide (List.length (h ++ [IntKind.wrap .u8 f])=List.length (h ++ [IntKind.wrap .u8 f])) then
 some ((((h ++ [IntKind.wrap .u8 f]),()),(),()),())
 else none
 else none
 else none))
 ((c,()),((a,()),()))
else none
def e55_1 (fu:Nat):Ent := ⟨55,(.cons (.box 102 1 (.cons (.own .own 5 (.int .u8)) .nil)) (.cons (.hole (.int .u64)) .nil)),(.cons (.agg 1 (.cons (.own .own 5 (.int .u8)) .nil)) (.cons .dead .nil)),(.tup 0 .nil),p55_1 fu⟩
theorem g55_1 (fu:Nat):(e55_1 fu).Good Tryd.prog := good_fx orders Tryd.func55 fu [(10,(.ty (.int .u8))),(11,(.ty (.int .u8))),(25,(.ty (.int .u8))),(26,(.ty (.int .u8)))] [(1,⟨[1],(.cons (.hole (.int .u64)) .nil),[(0,102,1)],(.cons (.agg 1 (.cons (.own .own 5 (.int .u8)) .nil)) .nil),[0],[1]⟩)] rs55 31 (l := []) trivial
def rs71:List RVx := []
def p71 (_:Nat):((List (Int))×(Unit))×((Bool)×(Unit))→Option ((((List (Int))×(Unit))×((Unit)×(Unit)))×(Unit)) := fun ⟨⟨a,_⟩,c,_⟩ =>
bif c then
 bif decide (List.length a=List.length a) then
 bif decide (List.length a+List.length ([(1:Int)])≤maxLen∧(List.length a+List.length ([(1:Int)])) * 1≤140737488355328) then
 bif decide (List.length (a ++ [(1:Int)])=List.length (a ++ [(1:Int)])) then
 some ((((a ++ [(1:Int)]),()),(),()),())
 else none
 else none
 else none
else
 bif decide (List.length a=List.length a) then
 bif decide (List.length a+List.length ([(0:Int)])≤maxLen∧(List.length a+List.length ([(0:Int)])) * 1≤140737488355328) then
 bif decide (List.length (a ++ [(0:Int)])=List.length (a ++ [(0:Int)])) then
 some ((((a ++ [(0:Int)]),()),(),()),())
 else none
 else none
 else none
def e71 (fu:Nat):Ent := ⟨71,(.cons (.box 102 1 (.cons (.own .own 5 (.int .u8)) .nil)) (.cons (.hole .bool) .nil)),(.cons (.agg 1 (.cons (.own .own 5 (.int .u8)) .nil)) (.cons .dead .nil)),(.tup 0 .nil),p71 fu⟩
theorem g71 (fu:Nat):(e71 fu).Good Tryd.prog := good_fx orders Tryd.func71 fu [(6,(.ty (.int .u8))),(7,(.ty (.int .u8))),(16,(.ty (.int .u8))),(17,(.ty (.int .u8)))] [] rs71 23 (l := []) trivial
def rs56:List RVx := []
def p56 (fu:Nat):((List (Int))×(Unit))×((Z0)×(Unit))→Option ((((List (Int))×(Unit))×((Unit)×(Unit)))×(Unit)) := fun ⟨⟨a,_⟩,⟨c,_,_,f,h,i,_,j,_,_,_,_,_,_,_⟩,_⟩ =>
bif decide (List.length a=List.length a) then
 Option.bind (p71 fu ((a,()),(c==(6:Int)),())) fun ⟨⟨⟨k,_⟩,_,_⟩,_⟩ =>
 bif decide (List.length k=List.length k) then
 Option.bind (p55_1 fu ((k,()),f,())) fun ⟨⟨⟨l,_⟩,_,_⟩,_⟩ =>
 bif decide (List.length l=List.length l) then
 Option.bind (p55_1 fu ((l,()),h,())) fun ⟨⟨⟨m,_⟩,_,_⟩,_⟩ =>
 bif !(c==(6:Int)) then
 bif decide (List.length m=List.length m) then
 Option.bind (p55_1 fu ((m,()),i,())) fun ⟨⟨⟨n,_⟩,_,_⟩,_⟩ =>
 bif decide (List.length n=List.length n) then
 Option.bind (p55_1 fu ((n,()),j,())) fun ⟨⟨⟨o,_⟩,_,_⟩,_⟩ =>
 bif decide (List.length o=List.length o) then
 some (((o,()),(),()),())
 else none
 else none
 else none
 else
 bif decide (List.length m=List.length m) then
 some (((m,()),(),()),())
 else none
 else none
 else none
else none
def e56 (fu:Nat):Ent := ⟨56,(.cons (.box 102 1 (.cons (.own .own 5 (.int .u8)) .nil)) (.cons Y1 .nil)),(.cons (.agg 1 (.cons (.own .own 5 (.int .u8)) .nil)) (.cons .dead .nil)),(.tup 0 .nil),p56 fu⟩
theorem g56 (fu:Nat):(e56 fu).Good Tryd.prog := good_fx orders Tryd.func56 fu [(7,(.ent (e71 fu))),(11,(.ent (e55_1 fu))),(15,(.ent (e55_1 fu))),(21,(.ent (e55_1 fu))),(25,(.ent (e55_1 fu)))] [] rs56 29 (l := [e71 fu,e55_1 fu,e55_1 fu,e55_1 fu,e55_1 fu]) ⟨g71 fu,g55_1 fu,g55_1 fu,g55_1 fu,g55_1 fu,trivial⟩
def rs72:List RVx := []
def p72 (fu:Nat):((List (Int))×(Unit))×((Int)×(Unit))→Option ((((List (Int))×(Unit))×((Unit)×(Unit)))×(Unit)) := fun ⟨⟨a,_⟩,c,_⟩ =>
bif decide (List.length a=List.length a) then
 Option.bind (p55_1 fu ((a,()),IntKind.wrap .u64 ((BitVec.ofInt (IntKind.bits .u64) (IntKind.wrap .u64 ((IntKind.wrap .u64 c) * 2 ^ (min (Int.toNat (1:Int)) (IntKind.bits .u64)))) ^^^ BitVec.ofInt (IntKind.bits .u64) (IntKind.wrap .u64 (Int.fdiv c (2 ^ (min (Int.toNat (63:Int)) (IntKind.bits .i64)))))).toNat:Int),())) fun ⟨⟨⟨f,_⟩,_,_⟩,_⟩ =>
 bif decide (List.length f=List.length f) then
 some (((f,()),(),()),())
 else none
else none
def e72 (fu:Nat):Ent := ⟨72,(.cons (.box 102 1 (.cons (.own .own 5 (.int .u8)) .nil)) (.cons (.hole (.int .i64)) .nil)),(.cons (.agg 1 (.cons (.own .own 5 (.int .u8)) .nil)) (.cons .dead .nil)),(.tup 0 .nil),p72 fu⟩
theorem g72 (fu:Nat):(e72 fu).Good Tryd.prog := good_fx orders Tryd.func72 fu [(8,(.ent (e55_1 fu)))] [] rs72 13 (l := [e55_1 fu]) ⟨g55_1 fu,trivial⟩
def rs75:List RVx := []
def p75 (fu:Nat):((List (Int))×(Unit))×((List (Int))×(Unit))→Option ((((List (Int))×(Unit))×((Unit)×(Unit)))×(Unit)) := fun ⟨⟨a,_⟩,c,_⟩ =>
bif decide (List.length a=List.length a) then
 Option.bind (p55_1 fu ((a,()),IntKind.wrap .u64 (List.length c:Int),())) fun ⟨⟨⟨f,_⟩,_,_⟩,_⟩ =>
 bif decide (List.length f=List.length f) then
 bif decide (List.length f+List.length c≤maxLen∧(List.length f+List.length c) * 1≤140737488355328) then
 bif decide (List.length (f ++ c)=List.length (f ++ c)) then
 some ((((f ++ c),()),(),()),())
 else none
 else none
 else none
else none
def e75 (fu:Nat):Ent := ⟨75,(.cons (.box 102 1 (.cons (.own .own 5 (.int .u8)) .nil)) (.cons (.hole (.sl .any (.int .u8))) .nil)),(.cons (.agg 1 (.cons (.own .own 5 (.int .u8)) .nil)) (.cons .dead .nil)),(.tup 0 .nil),p75 fu⟩
theorem g75 (fu:Nat):(e75 fu).Good Tryd.prog := good_fx orders Tryd.func75 fu [(4,(.ent (e55_1 fu))),(11,(.ty (.int .u8)))] [] rs75 18 (l := [e55_1 fu]) ⟨g55_1 fu,trivial⟩
def rs81:List RVx := []
def p81 (fu:Nat):((List (Int))×(Unit))×((List (Int))×(Unit))→Option ((((List (Int))×(Unit))×((Unit)×(Unit)))×(Unit)) := fun ⟨⟨a,_⟩,c,_⟩ =>
bif decide (List.length a=List.length a) then
 Option.bind (p55_1 fu ((a,()),IntKind.wrap .u64 (List.length c:Int),())) fun ⟨⟨⟨f,_⟩,_,_⟩,_⟩ =>
 bif decide (List.length f=List.length f) then
 loopO (S := ((Int)×(Unit))×(((List (Int))×(Unit))×(Unit))) fu (fun ⟨⟨h,_⟩,⟨⟨i,_⟩,_⟩⟩ =>
 bif decide (h<(List.length c:Int)) then
 bif decide ((0:Int)≤h∧h<(List.length c:Int)) then
 bif decide (Int.toNat h<List.length c) then
 bif decide (List.length i=List.length i) then
 Option.bind (p72 fu ((i,()),(List.getD c (Int.toNat h) (dflt (.int .i64))),())) fun ⟨⟨⟨j,_⟩,_,_⟩,_⟩ =>
 bif decide (List.length j=List.length j) then
 some (.inl ((IntKind.wrap .i64 (h+(1:Int)),()),((j,()),())))
 else none
 else none
 else none
 else none
 else
 inrO (bif decide (List.length i=List.length i) then
 some (((i,()),(),()),())
 else none))
 (((0:Int),()),((f,()),()))
 else none
else none
def e81 (fu:Nat):Ent := ⟨81,(.cons (.box 102 1 (.cons (.own .own 5 (.int .u8)) .nil)) (.cons (.hole (.sl .any (.int .i64))) .nil)),(.cons (.agg 1 (.cons (.own .own 5 (.int .u8)) .nil)) (.cons .dead .nil)),(.tup 0 .nil),p81 fu⟩
theorem g81 (fu:Nat):(e81 fu).Good Tryd.prog := good_fx orders Tryd.func81 fu [(4,(.ent (e55_1 fu))),(14,(.ent (e72 fu)))] [(2,⟨[13],(.cons (.hole (.int .i64)) .nil),[(0,102,1)],(.cons (.agg 1 (.cons (.own .own 5 (.int .u8)) .nil)) .nil),[0,11,12],[1]⟩)] rs81 21 (l := [e55_1 fu,e72 fu]) ⟨g55_1 fu,g72 fu,trivial⟩
def rs74:List RVx := []
def p74 (fu:Nat):((List (Int))×(Unit))×(((List (Int))×((List (Int))×(Unit)))×(Unit))→Option ((((List (Int))×(Unit))×((Unit)×(Unit)))×(Unit)) := fun ⟨⟨a,_⟩,⟨c,f,_⟩,_⟩ =>
bif decide (List.length a=List.length a) then
 Option.bind (p81 fu ((a,()),c,())) fun ⟨⟨⟨h,_⟩,_,_⟩,_⟩ =>
 bif decide (List.length h=List.length h) then
 Option.bind (p81 fu ((h,()),f,())) fun ⟨⟨⟨i,_⟩,_,_⟩,_⟩ =>
 bif decide (List.length i=List.length i) then
 some (((i,()),(),()),())
 else none
 else none
else none
def e74 (fu:Nat):Ent := ⟨74,(.cons (.box 102 1 (.cons (.own .own 5 (.int .u8)) .nil)) (.cons (.agg 2 (.cons (.hole (.sl .any (.int .i64))) (.cons (.hole (.sl .any (.int .i64))) .nil))) .nil)),(.cons (.agg 1 (.cons (.own .own 5 (.int .u8)) .nil)) (.cons .dead .nil)),(.tup 0 .nil),p74 fu⟩
theorem g74 (fu:Nat):(e74 fu).Good Tryd.prog := good_fx orders Tryd.func74 fu [(4,(.ent (e81 fu))),(8,(.ent (e81 fu)))] [] rs74 12 (l := [e81 fu,e81 fu]) ⟨g81 fu,g81 fu,trivial⟩
def rs73:List RVx := []
def p73 (fu:Nat):((List (Int))×(Unit))×((Z2)×(Unit))→Option ((((List (Int))×(Unit))×((Unit)×(Unit)))×(Unit)) := fun ⟨⟨a,_⟩,⟨c,f,h,i,j,k,_⟩,_⟩ =>
bif decide (List.length a=List.length a) then
 Option.bind (p55_1 fu ((a,()),c,())) fun ⟨⟨⟨l,_⟩,_,_⟩,_⟩ =>
 bif decide (List.length l=List.length l) then
 Option.bind (p55_1 fu ((l,()),f,())) fun ⟨⟨⟨m,_⟩,_,_⟩,_⟩ =>
 bif decide (List.length m=List.length m) then
 Option.bind (p72 fu ((m,()),h,())) fun ⟨⟨⟨n,_⟩,_,_⟩,_⟩ =>
 bif decide (List.length n=List.length n) then
 Option.bind (p75 fu ((n,()),i,())) fun ⟨⟨⟨o,_⟩,_,_⟩,_⟩ =>
 bif decide (List.length o=List.length o) then
 Option.bind (p74 fu ((o,()),(j,k,()),())) fun ⟨⟨⟨q,_⟩,_,_⟩,_⟩ =>
 bif decide (List.length q=List.length q) then
 some (((q,()),(),()),())
 else none
 else none
 else none
 else none
 else none
else none
def e73 (fu:Nat):Ent := ⟨73,(.cons (.box 102 1 (.cons (.own .own 5 (.int .u8)) .nil)) (.cons Y3 .nil)),(.cons (.agg 1 (.cons (.own .own 5 (.int .u8)) .nil)) (.cons .dead .nil)),(.tup 0 .nil),p73 fu⟩
theorem g73 (fu:Nat):(e73 fu).Good Tryd.prog := good_fx orders Tryd.func73 fu [(4,(.ent (e55_1 fu))),(8,(.ent (e55_1 fu))),(12,(.ent (e72 fu))),(16,(.ent (e75 fu))),(20,(.ent (e74 fu)))] [] rs73 24 (l := [e55_1 fu,e55_1 fu,e72 fu,e75 fu,e74 fu]) ⟨g55_1 fu,g55_1 fu,g72 fu,g75 fu,g74 fu,trivial⟩
def rs57:List RVx := []
def p57 (fu:Nat):((List (Int))×(Unit))×((Z0)×(Unit))→Option ((((List (Int))×(Unit))×((Unit)×(Unit)))×(Unit)) := fun ⟨⟨a,_⟩,⟨c,_,_,f,h,i,j,k,l,m,n,o,q,s,_⟩,_⟩ =>
bif decide (List.length a=List.length a) then
 Option.bind (p72 fu ((a,()),c,())) fun ⟨⟨⟨t,_⟩,_,_⟩,_⟩ =>
 bif decide (List.length t=List.length t) then
 Option.bind (p55_1 fu ((t,()),f,())) fun ⟨⟨⟨u,_⟩,_,_⟩,_⟩ =>
 bif decide (List.length u=List.length u) then
 Option.bind (p55_1 fu ((u,()),h,())) fun ⟨⟨⟨w,_⟩,_,_⟩,_⟩ =>
 bif decide (List.length w=List.length w) then
 Option.bind (p55_1 fu ((w,()),i,())) fun ⟨⟨⟨x,_⟩,_,_⟩,_⟩ =>
 bif decide (List.length x=List.length x) then
 Option.bind (p55_1 fu ((x,()),IntKind.wrap .u64 (List.length j:Int),())) fun ⟨⟨⟨y,_⟩,_,_⟩,_⟩ =>
 bif decide (List.length y=List.length y) then
 loopO (S := ((Int)×(Unit))×(((List (Int))×(Unit))×(Unit))) fu (fun ⟨⟨z,_⟩,⟨⟨a0,_⟩,_⟩⟩ =>
 bif decide (z<(List.length j:Int)) then
 bif decide ((0:Int)≤z∧z<(List.length j:Int)) then
 bif decide (Int.toNat z<List.length j) then
 bif decide (List.length a0=List.length a0) then
 Option.bind (p73 fu ((a0,()),((List.getD j (Int.toNat z) (dflt T_api_Entry)).1,((List.getD j (Int.toNat z) (dflt T_api_Entry)).2).1,(((List.getD j (Int.toNat z) (dflt T_api_Entry)).2).2).1,((((List.getD j (Int.toNat z) (dflt T_api_Entry)).2).2).2).1,(((((List.getD j (Int.toNat z) (dflt T_api_Entry)).2).2).2).2).1,(((((List.getD j (Int.toNat z) (dflt T_api_Entry)).2).2).2).2).2,()),())) fun ⟨⟨⟨c0,_⟩,_,_⟩,_⟩ =>
 bif decide (List.length c0=List.length c0) then
 some (.inl ((IntKind.wrap .i64 (z+(1:Int)),()),((c0,()),())))
 else none
 else none
 else none
 else none
 else
 inrO (bif decide (List.length a0=List.length a0) then
 Option.bind (p55_1 fu ((a0,()),k,())) fun ⟨⟨⟨f0,_⟩,_,_⟩,_⟩ =>
 bif decide (List.length f0=List.length f0) then
 Option.bind (p71 fu ((f0,()),l,())) fun ⟨⟨⟨h0,_⟩,_,_⟩,_⟩ =>
 bif decide (List.length h0=List.length h0) then
 Option.bind (p55_1 fu ((h0,()),m,())) fun ⟨⟨⟨i0,_⟩,_,_⟩,_⟩ =>
 bif decide (List.length i0=List.length i0) then
 Option.bind (p74 fu ((i0,()),(n,o,()),())) fun ⟨⟨⟨j0,_⟩,_,_⟩,_⟩ =>
 bif decide (List.length j0=List.length j0) then
 Option.bind (p75 fu ((j0,()),q,())) fun ⟨⟨⟨k0,_⟩,_,_⟩,_⟩ =>
 bif decide (List.length k0=List.length k0) then
 Option.bind (p71 fu ((k0,()),s,())) fun ⟨⟨⟨l0,_⟩,_,_⟩,_⟩ =>
 bif decide (List.length l0=List.length l0) then
 some (((l0,()),(),()),())
 else none
 else none
 else none
 else none
 else none
 else none
 else none))
 (((0:Int),()),((y,()),()))
 else none
 else none
 else none
 else none
 else none
else none
def e57 (fu:Nat):Ent := ⟨57,(.cons (.box 102 1 (.cons (.own .own 5 (.int .u8)) .nil)) (.cons Y1 .nil)),(.cons (.agg 1 (.cons (.own .own 5 (.int .u8)) .nil)) (.cons .dead .nil)),(.tup 0 .nil),p57 fu⟩
theorem g57 (fu:Nat):(e57 fu).Good Tryd.prog := good_fx orders Tryd.func57 fu [(4,(.ent (e72 fu))),(8,(.ent (e55_1 fu))),(12,(.ent (e55_1 fu))),(16,(.ent (e55_1 fu))),(22,(.ent (e55_1 fu))),(34,(.ent (e73 fu))),(40,(.ent (e55_1 fu))),(44,(.ent (e71 fu))),(48,(.ent (e55_1 fu))),(52,(.ent (e74 fu))),(56,(.ent (e75 fu))),(60,(.ent (e71 fu)))] [(8,⟨[31],(.cons (.hole (.int .i64)) .nil),[(0,102,1)],(.cons (.agg 1 (.cons (.own .own 5 (.int .u8)) .nil)) .nil),[0,3,29,30],[1,4]⟩)] rs57 63 (l := [e72 fu,e55_1 fu,e55_1 fu,e55_1 fu,e55_1 fu,e73 fu,e55_1 fu,e71 fu,e55_1 fu,e74 fu,e75 fu,e71 fu]) ⟨g72 fu,g55_1 fu,g55_1 fu,g55_1 fu,g55_1 fu,g73 fu,g55_1 fu,g71 fu,g55_1 fu,g74 fu,g75 fu,g71 fu,trivial⟩
def rs58:List RVx := [(.tmp 2)]
def p58 (_:Nat):((List (Int))×(Unit))×(Unit)→Option ((Unit)×(List (Int))) := fun ⟨⟨a,_⟩,_⟩ =>
bif decide (List.length a≤maxLen∧List.length a * 1≤140737488355328) then
 bif decide (List.length a=List.length a) then
 some ((),a)
 else none
else none
def e58 (fu:Nat):Ent := ⟨58,(.cons (.look (.cons (.hole (.sl .any (.int .u8))) .nil)) .nil),.nil,(.own .own 5 (.int .u8)),p58 fu⟩
theorem g58 (fu:Nat):(e58 fu).Good Tryd.prog := good_fx orders Tryd.func58 fu [(5,(.ty (.int .u8)))] [] rs58 8 (l := []) trivial
def rs33:List RVx := [(.tmp 4)]
def p33 (fu:Nat):(Int)×((List (D_beats_Wire))×(Unit))→Option ((Unit)×(List (Int))) := fun ⟨a,c,_⟩ =>
Option.bind (p55 fu (((),()),IntKind.wrap .u64 (List.length c:Int),())) fun ⟨⟨⟨f,_⟩,_⟩,_⟩ =>
bif decide (List.length f=List.length f) then
 loopO (S := ((Int)×(Unit))×(((List (Int))×(Unit))×(Unit))) fu (fun ⟨⟨h,_⟩,⟨⟨i,_⟩,_⟩⟩ =>
 bif decide (h<(List.length c:Int)) then
 bif decide ((0:Int)≤h∧h<(List.length c:Int)) then
 bif decide (Int.toNat h<List.length c) then
 bif decide (List.length i=List.length i) then
 Option.bind (p55_1 fu ((i,()),(List.getD c (Int.toNat h) (dflt T_beats_Wire)).1,())) fun ⟨⟨⟨j,_⟩,_,_⟩,_⟩ =>
 bif (a==(2:Int)) then
 bif decide (List.length j=List.length j) then
 Option.bind (p56 fu ((j,()),(((List.getD c (Int.toNat h) (dflt T_beats_Wire)).2).1,(((List.getD c (Int.toNat h) (dflt T_beats_Wire)).2).2).1,((((List.getD c (Int.toNat h) (dflt T_beats_Wire)).2).2).2).1,(((((List.getD c (Int.toNat h) (dflt T_beats_Wire)).2).2).2).2).1,((((((List.getD c (Int.toNat h) (dflt T_beats_Wire)).2).2).2).2).2).1,(((((((List.getD c (Int.toNat h) (dflt T_beats_Wire)).2).2).2).2).2).2).1,((((((((List.getD c (Int.toNat h) (dflt T_beats_Wire)).2).2).2).2).2).2).2).1,(((((((((List.getD c (Int.toNat h) (dflt T_beats_Wire)).2).2).2).2).2).2).2).2).1,((((((((((List.getD c (Int.toNat h) (dflt T_beats_Wire)).2).2).2).2).2).2).2).2).2).1,(((((((((((List.getD c (Int.toNat h) (dflt T_beats_Wire)).2).2).2).2).2).2).2).2).2).2).1,(((((((((((((List.getD c (Int.toNat h) (dflt T_beats_Wire)).2).2).2).2).2).2).2).2).2).2).2).1).1,(((((((((((((List.getD c (Int.toNat h) (dflt T_beats_Wire)).2).2).2).2).2).2).2).2).2).2).2).1).2,(((((((((((((List.getD c (Int.toNat h) (dflt T_beats_Wire)).2).2).2).2).2).2).2).2).2).2).2).2).1,(((((((((((((List.getD c (Int.toNat h) (dflt T_beats_Wire)).2).2).2).2).2).2).2).2).2).2).2).2).2,()),())) fun ⟨⟨⟨k,_⟩,_,_⟩,_⟩ =>
 bif decide (List.length k=List.length k) then
 some (.inl ((IntKind.wrap .i64 (h+(1:Int)),()),((k,()),())))
 else none
 else none
 else
 bif decide (List.length j=List.length j) then
 Option.bind (p57 fu ((j,()),(((List.getD c (Int.toNat h) (dflt T_beats_Wire)).2).1,(((List.getD c (Int.toNat h) (dflt T_beats_Wire)).2).2).1,((((List.getD c (Int.toNat h) (dflt T_beats_Wire)).2).2).2).1,(((((List.getD c (Int.toNat h) (dflt T_beats_Wire)).2).2).2).2).1,((((((List.getD c (Int.toNat h) (dflt T_beats_Wire)).2).2).2).2).2).1,(((((((List.getD c (Int.toNat h) (dflt T_beats_Wire)).2).2).2).2).2).2).1,((((((((List.getD c (Int.toNat h) (dflt T_beats_Wire)).2).2).2).2).2).2).2).1,(((((((((List.getD c (Int.toNat h) (dflt T_beats_Wire)).2).2).2).2).2).2).2).2).1,((((((((((List.getD c (Int.toNat h) (dflt T_beats_Wire)).2).2).2).2).2).2).2).2).2).1,(((((((((((List.getD c (Int.toNat h) (dflt T_beats_Wire)).2).2).2).2).2).2).2).2).2).2).1,(((((((((((((List.getD c (Int.toNat h) (dflt T_beats_Wire)).2).2).2).2).2).2).2).2).2).2).2).1).1,(((((((((((((List.getD c (Int.toNat h) (dflt T_beats_Wire)).2).2).2).2).2).2).2).2).2).2).2).1).2,(((((((((((((List.getD c (Int.toNat h) (dflt T_beats_Wire)).2).2).2).2).2).2).2).2).2).2).2).2).1,(((((((((((((List.getD c (Int.toNat h) (dflt T_beats_Wire)).2).2).2).2).2).2).2).2).2).2).2).2).2,()),())) fun ⟨⟨⟨l,_⟩,_,_⟩,_⟩ =>
 bif decide (List.length l=List.length l) then
 some (.inl ((IntKind.wrap .i64 (h+(1:Int)),()),((l,()),())))
 else none
 else none
 else none
 else none
 else none
 else
 inrO (bif decide (List.length i=List.length i) then
 Option.bind (p58 fu ((i,()),())) fun ⟨_,m⟩ =>
 bif decide (List.length m=List.length m) then
 some ((),m)
 else none
 else none))
 (((0:Int),()),((f,()),()))
else none
def e33 (fu:Nat):Ent := ⟨33,(.cons (.hole (.int .i64)) (.cons (.hole (.sl .any T_beats_Wire)) .nil)),.nil,(.own .own 5 (.int .u8)),p33 fu⟩
theorem g33 (fu:Nat):(e33 fu).Good Tryd.prog := good_fx orders Tryd.func33 fu [(8,(.ent (e55 fu))),(20,(.ent (e55_1 fu))),(26,(.ent (e56 fu))),(30,(.ent (e57 fu))),(34,(.ent (e58 fu)))] [(5,⟨[17],(.cons (.hole (.int .i64)) .nil),[(32,102,1)],(.cons (.agg 1 (.cons (.own .own 5 (.int .u8)) .nil)) .nil),[0,5,15,16],[]⟩)] rs33 38 (l := [e55 fu,e55_1 fu,e56 fu,e57 fu,e58 fu]) ⟨g55 fu,g55_1 fu,g56 fu,g57 fu,g58 fu,trivial⟩
def rs32:List RVx := [(.tmp 2)]
def p32 (_:Nat):(Z0)×(Unit)→Option ((Unit)×(Bool)) := fun ⟨⟨a,_,_,_,_,c,f,h,i,j,k,l,m,n,_⟩,_⟩ =>
orK (E := ((Bool)×(Unit))×(Unit))
 (bif ((IntKind.wrap .i64 ((IntKind.wrap .i64 ((IntKind.wrap .i64 ((List.length f:Int)+(List.length k:Int)))+(List.length l:Int)))+(List.length m:Int)))==(0:Int)) then
 bif !i then
 bif (j==(0:Int)) then
 some (.inl ((!n,()),()))
 else
 some (.inl ((false,()),()))
 else
 some (.inl ((false,()),()))
 else
 some (.inl ((false,()),())))
 fun ⟨⟨o,_⟩,_⟩ =>
bif (a==(5:Int)) then
 some ((),o)
else
 bif (a==(6:Int)) then
 bif o then
 bif (c==(0:Int)) then
 some ((),(h==(0:Int)))
 else
 some ((),false)
 else
 some ((),false)
 else
 some ((),false)
def e32 (fu:Nat):Ent := ⟨32,(.cons Y1 .nil),.nil,(.hole .bool),p32 fu⟩
theorem g32 (fu:Nat):(e32 fu).Good Tryd.prog := good_fx orders Tryd.func32 fu [] [(1,⟨[3],(.cons (.hole .bool) .nil),[],.nil,[1],[0]⟩)] rs32 55 (l := []) trivial
end Go.Proofs.YtahamggipcikgaaDoor.Bq
