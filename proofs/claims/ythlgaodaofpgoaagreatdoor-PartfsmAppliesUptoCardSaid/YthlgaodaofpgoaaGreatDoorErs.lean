/-
  errors.As and errors.Is at the errors that this program makes: closed facts, and Go's own text walked.
-/
import Derived.Test.YthlgaodaofpgoaaGreatDoorProg
import Derived.LaidEql
import Derived.Stop.Asserts
import Derived.RowKitTokens
import Derived.WalkKit
namespace Go.Proofs.YthlgaodaofpgoaaGreatDoor
open Go.RowKit Go.Extern.Stop Go.Stop Go.Extern
theorem X4z (t:Value) (w:World) :
  Calls Tryz.prog 64 #[.nilIface,t] w fun e w' => e = .returned (.bool false)∧w' = w := by
 go_enter Tryz.func64,Tryz.ntmps64
 go_wp2
 go_ret
 exact ⟨rfl,rfl⟩
theorem as.methodKind (h : Value) (w : World) : (Go.method 360 190 (.agg #[h]) "Kind").run Tryz.prog w = .ok (193, h) w := by kernel_rfl
theorem rlm (z:Sem Value) (f:TypeId→Addr→Nat→Nat→Sem Value) (v:Value) :
  ReflectliteValue.method z f #[v]=(do match ← ReflectliteValue.parts v with | none=>z | some (t,a,fl)=>f t a fl (fl % 32)) := rfl
theorem as.methodElem (h : Value) (w : World) : (Go.method 360 190 (.agg #[h]) "Elem").run Tryz.prog w = .ok (205, .agg #[h]) w := by kernel_rfl
theorem as.methodImplements (h : Value) (w : World) : (Go.method 360 190 (.agg #[h]) "Implements").run Tryz.prog w = .ok (206, .agg #[h]) w := by kernel_rfl
theorem as.methodAssignableTo (h : Value) (w : World) : (Go.method 360 190 (.agg #[h]) "AssignableTo").run Tryz.prog w = .ok (203, .agg #[h]) w := by kernel_rfl
theorem rls (v x:Value):ReflectliteValue.set #[v,x]=(do
  let (some (dst,a,fl),some (src,b,_)) := (← ReflectliteValue.parts v,← ReflectliteValue.parts x)
   | unsupported (.noEntry "extern/(internal/reflectlite.Value).Set.zeroValue")
  if fl / ReflectliteValue.flagAddr % 2 == 0 then unsupported (.noEntry "extern/(internal/reflectlite.Value).Set.unaddressable")
  let val ← loadVar src b
  if ← Rtype.directlyAssignable dst src then storeVar dst a val
  else if ← Rtype.implements dst src then
   if (← Rtype.kind src)==20 then
    match val with
    | .nilIface => unsupported (.noEntry "extern/reflectlite: a nil value of one interface type handed on as a value of another")
    | _=>storeVar dst a val
   else storeVar dst a (.iface src val)
  else panicString ("reflectlite.Set: value of type " ++ (← Rtype.spelt src) ++ " is not assignable to type " ++ (← Rtype.spelt dst))
  pure (.tuple #[])) := rfl
theorem asR.valueOfPP (t:Addr) (w:World):(ReflectliteValue.unpack (.iface 104 (.pointer (some t)))).run Tryz.prog w
  = .ok (.agg #[.pointer (some ⟨3,104,none⟩),.pointer (some ⟨w.heap.size,0,none⟩),.int .u64 150]) (w.alloc (.cells #[.pointer (some t)] 104)) := by kernel_rfl
theorem asR.typePP (a : Addr) (w : World) : (ReflectliteValue.methodAny (ReflectliteValue.valueError "reflectlite.Value.Type" 0) (fun t _ _ _ => ReflectliteType.toType t) #[.agg #[.pointer (some ⟨3, 104, none⟩), .pointer (some a), .int .u64 150]]).run Tryz.prog w
  = .ok (.iface 190 (.agg #[.pointer (some ⟨3,104,none⟩)])) w := by kernel_rfl
theorem asR.kindPP (w:World):((ReflectliteType.abiMethod fun t=>(fun a:Nat=>Value.int IntKind.u8 (a:Int)) <$> Rtype.kind t) #[.pointer (some ⟨3,104,none⟩)]).run Tryz.prog w = .ok (.int .u8 22) w := by kernel_rfl
theorem asR.kindP (w:World):((ReflectliteType.abiMethod fun t=>(fun a:Nat=>Value.int IntKind.u8 (a:Int)) <$> Rtype.kind t) #[.pointer (some ⟨3,101,none⟩)]).run Tryz.prog w = .ok (.int .u8 22) w := by kernel_rfl
theorem asR.partsPP (a:Addr) (w:World):(ReflectliteValue.parts (.agg #[.pointer (some ⟨3,104,none⟩),.pointer (some a),.int .u64 150])).run Tryz.prog w = .ok (some (104,a,150)) w := by kernel_rfl
theorem asR.isNilPP (a p:Addr) (W:World) (ha:W.cell? a=some (.pointer (some p))) :
  (ReflectliteValue.method (ReflectliteValue.valueError "reflectlite.Value.IsNil" 0) ReflectliteValue.isNil #[.agg #[.pointer (some ⟨3, 104, none⟩), .pointer (some a), .int .u64 150]]).run Tryz.prog W = .ok (.bool false) W := by
 rw [rlm]
 simp only [Sem.run_bind,asR.partsPP,Result.andThen]
 simp [ReflectliteValue.isNil,loadVar,isAgg,underlying,Tryz.underlying104,ha,Result.andThen]
theorem asR.elemPP (w:World):(ReflectliteType.method ReflectliteType.elem #[.agg #[.pointer (some ⟨3,104,none⟩)]]).run Tryz.prog w = .ok (.iface 190 (.agg #[.pointer (some ⟨3,101,none⟩)])) w := by kernel_rfl
theorem asR.implementsP (w : World) : (ReflectliteType.relation "Implements" ReflectliteType.implements_ #[.agg #[.pointer (some ⟨3, 101, none⟩)], .iface 190 (.agg #[.pointer (some ⟨3, 99, none⟩)])]).run Tryz.prog w = .ok (.bool true) w := by kernel_rfl
theorem asR.typeOfP (v:Value) (w:World):(ReflectliteType.typeOf #[.iface 101 v]).run Tryz.prog w = .ok (.iface 190 (.agg #[.pointer (some ⟨3,101,none⟩)])) w := by kernel_rfl
theorem asR.assignableP (w : World) : (ReflectliteType.relation "AssignableTo" ReflectliteType.assignableTo #[.agg #[.pointer (some ⟨3, 101, none⟩)], .iface 190 (.agg #[.pointer (some ⟨3, 101, none⟩)])]).run Tryz.prog w = .ok (.bool true) w := by kernel_rfl
theorem asR.valueOfP (e:Addr) (w:World):(ReflectliteValue.unpack (.iface 101 (.pointer (some e)))).run Tryz.prog w
  = .ok (.agg #[.pointer (some ⟨3,101,none⟩),.pointer (some ⟨w.heap.size,0,none⟩),.int .u64 150]) (w.alloc (.cells #[.pointer (some e)] 101)) := by kernel_rfl
theorem asR.elemOfPP (w:World):(Rtype.elem? 104).run Tryz.prog w = .ok (some 101) w := by kernel_rfl
theorem asR.mkP (p:Addr) (w:World):(ReflectliteValue.mk 101 p ReflectliteValue.flagAddr).run Tryz.prog w = .ok (.agg #[.pointer (some ⟨3,101,none⟩),.pointer (some p),.int .u64 406]) w := by kernel_rfl
theorem asR.elemVPP (a p:Addr) (W:World) (ha:W.cell? a=some (.pointer (some p))) :
  (ReflectliteValue.method (ReflectliteValue.valueError "reflectlite.Value.Elem" 0) ReflectliteValue.elem #[.agg #[.pointer (some ⟨3, 104, none⟩), .pointer (some a), .int .u64 150]]).run Tryz.prog W
   = .ok (.agg #[.pointer (some ⟨3,101,none⟩),.pointer (some p),.int .u64 406]) W := by
 rw [rlm]
 simp only [Sem.run_bind,asR.partsPP,Result.andThen]
 simp [ReflectliteValue.elem,loadVar,isAgg,underlying,Tryz.underlying104,ha,Result.andThen,asR.elemOfPP,asR.mkP]
theorem asR.partsPa (a:Addr) (w:World):(ReflectliteValue.parts (.agg #[.pointer (some ⟨3,101,none⟩),.pointer (some a),.int .u64 406])).run Tryz.prog w = .ok (some (101,a,406)) w := by kernel_rfl
theorem asR.partsP (a:Addr) (w:World):(ReflectliteValue.parts (.agg #[.pointer (some ⟨3,101,none⟩),.pointer (some a),.int .u64 150])).run Tryz.prog w = .ok (some (101,a,150)) w := by kernel_rfl
theorem asR.directP (w:World):(Rtype.directlyAssignable 101 101).run Tryz.prog w = .ok true w := by kernel_rfl
theorem asR.setP (ta b e:Addr) (old:Value) (W:World) (hb:W.cell? b=some (.pointer (some e))) (ht:W.cell? ta=some old) (hf:W.frozen? ta=false) :
  (ReflectliteValue.set #[.agg #[.pointer (some ⟨3,101,none⟩),.pointer (some ta),.int .u64 406],.agg #[.pointer (some ⟨3,101,none⟩),.pointer (some b),.int .u64 150]]).run Tryz.prog W
   = .ok (.tuple #[]) (W.setCell ta (.pointer (some e))) := by
 rw [rls]
 simp only [Sem.run_bind,asR.partsPa,asR.partsP,Result.andThen]
 simp [ReflectliteValue.flagAddr,loadVar,isAgg,underlying,Tryz.underlying101,hb,Result.andThen,asR.directP,storeVar,Value.cells,storeCells,Addr.add]
 rw [run_store Tryz.prog W ta _ _ (by rfl)]
 simp [ht,hf]
set_option maxHeartbeats 4000000 in
theorem K7m (e t:Addr) (old:Value) (w:World) (hg:w.cell? ⟨1,0,none⟩=some (.iface 190 (.agg #[.pointer (some ⟨3,99,none⟩)]))) (ht0:w.cell? t=some old) (hf0:w.frozen? t=false) :
  Calls Tryz.prog 64 #[.iface 101 (.pointer (some e)),.iface 104 (.pointer (some t))] w fun ev w' => ev = .returned (.bool true)∧w' = ((((w.alloc (.cells #[.pointer (some t)] 104)).alloc (.cells #[.pointer (some ⟨3,104,none⟩),.pointer (some ⟨w.heap.size,0,none⟩),.int .u64 150] 160)).alloc (.cells #[.pointer (some ⟨3,104,none⟩),.pointer (some ⟨w.heap.size,0,none⟩),.int .u64 150] 160)).alloc (.cells #[.pointer (some e)] 101)).setCell t (.pointer (some e)) := by
 have h6 := @run_callFunc_extern Tryz.prog 121 _ (fun args=>ReflectliteValue.unpack (args.getD 0 (.tuple #[]))) Tryz.func121 (by kernel_rfl) (by kernel_rfl) (by kernel_rfl) (by kernel_rfl)
 have h7 := @run_callFunc_extern Tryz.prog 122 _ (ReflectliteValue.methodAny (ReflectliteValue.valueError "reflectlite.Value.Type" 0) (fun t _ _ _ => ReflectliteType.toType t)) Tryz.func122 (by kernel_rfl) (by kernel_rfl) (by kernel_rfl) (by kernel_rfl)
 have h8 := @run_callFunc_extern Tryz.prog 123 _ (ReflectliteValue.method (ReflectliteValue.valueError "reflectlite.Value.IsNil" 0) ReflectliteValue.isNil) Tryz.func123 (by kernel_rfl) (by kernel_rfl) (by kernel_rfl) (by kernel_rfl)
 have h27 := @run_callFunc_extern Tryz.prog 193 _ (ReflectliteType.abiMethod fun t=>do pure (.int .u8 (← Rtype.kind t))) Tryz.func193 (by kernel_rfl) (by kernel_rfl) (by kernel_rfl) (by kernel_rfl)
 have h37 := @run_callFunc_extern Tryz.prog 205 _ (ReflectliteType.method ReflectliteType.elem) Tryz.func205 (by kernel_rfl) (by kernel_rfl) (by kernel_rfl) (by kernel_rfl)
 have h38 := @run_callFunc_extern Tryz.prog 206 _ (ReflectliteType.relation "Implements" ReflectliteType.implements_) Tryz.func206 (by kernel_rfl) (by kernel_rfl) (by kernel_rfl) (by kernel_rfl)
 have h10 := @run_callFunc_extern Tryz.prog 119 _ ReflectliteType.typeOf Tryz.func119 (by kernel_rfl) (by kernel_rfl) (by kernel_rfl) (by kernel_rfl)
 have h35 := @run_callFunc_extern Tryz.prog 203 _ (ReflectliteType.relation "AssignableTo" ReflectliteType.assignableTo) Tryz.func203 (by kernel_rfl) (by kernel_rfl) (by kernel_rfl) (by kernel_rfl)
 have mA := as.methodAssignableTo
 have f6 := asR.valueOfPP
 have f7 := asR.typePP
 have mK := as.methodKind
 have mE := as.methodElem
 have mI := as.methodImplements
 have k27 := asR.kindPP
 have k25 := asR.kindP
 have e27 := asR.elemPP
 have i25 := asR.implementsP
 have n8 := asR.isNilPP ⟨w.heap.size,0,none⟩ t ((w.alloc (.cells #[.pointer (some t)] 104)).alloc (.cells #[.pointer (some ⟨3,104,none⟩),.pointer (some ⟨w.heap.size,0,none⟩),.int .u64 150] 160)) (by simp)
 have hlt:1<w.heap.size := World.block_lt_of_cell? w _ hg
 have hg2:((w.alloc (.cells #[.pointer (some t)] 104)).alloc (.cells #[.pointer (some ⟨3,104,none⟩),.pointer (some ⟨w.heap.size,0,none⟩),.int .u64 150] 160)).cell? ⟨1,0,none⟩=some (.iface 190 (.agg #[.pointer (some ⟨3,99,none⟩)])) := by
  rw [World.cell?_alloc_lt _ _ ⟨1,0,none⟩ (by simp; omega),World.cell?_alloc_lt _ _ ⟨1,0,none⟩ hlt]; exact hg
 have h11 := @run_callFunc_extern Tryz.prog 152 _ (ReflectliteValue.method (ReflectliteValue.valueError "reflectlite.Value.Elem" 0) ReflectliteValue.elem) Tryz.func152 (by kernel_rfl) (by kernel_rfl) (by kernel_rfl) (by kernel_rfl)
 have h12 := @run_callFunc_extern Tryz.prog 153 _ ReflectliteValue.set Tryz.func153 (by kernel_rfl) (by kernel_rfl) (by kernel_rfl) (by kernel_rfl)
 have tO := asR.typeOfP
 have a25 := asR.assignableP
 have v25 := asR.valueOfP
 have htl:t.block<w.heap.size := by
  rcases Nat.lt_or_ge t.block w.heap.size with h | h
  ·exact h
  ·simp [World.cell?,Array.getElem?_eq_none h] at ht0
 have el := asR.elemVPP ⟨w.heap.size,0,none⟩ t (((w.alloc (.cells #[.pointer (some t)] 104)).alloc (.cells #[.pointer (some ⟨3,104,none⟩),.pointer (some ⟨w.heap.size,0,none⟩),.int .u64 150] 160)).alloc (.cells #[.pointer (some ⟨3,104,none⟩),.pointer (some ⟨w.heap.size,0,none⟩),.int .u64 150] 160)) (by rw [World.cell?_alloc_lt _ _ ⟨w.heap.size,0,none⟩ (by simp; omega)]; simp)
 have st := asR.setP t ⟨w.heap.size+1+1+1,0,none⟩ e old ((((w.alloc (.cells #[.pointer (some t)] 104)).alloc (.cells #[.pointer (some ⟨3,104,none⟩),.pointer (some ⟨w.heap.size,0,none⟩),.int .u64 150] 160)).alloc (.cells #[.pointer (some ⟨3,104,none⟩),.pointer (some ⟨w.heap.size,0,none⟩),.int .u64 150] 160)).alloc (.cells #[.pointer (some e)] 101))
  (by rw [World.cell?_alloc_at _ _ _ _ (by simp)]; rfl)
  (by rw [World.cell?_alloc_lt _ _ t (by simp; omega),World.cell?_alloc_lt _ _ t (by simp; omega),World.cell?_alloc_lt _ _ t (by simp; omega),World.cell?_alloc_lt _ _ t htl]; exact ht0)
  (by rw [World.frozen?_alloc_old _ _ t (by simp; omega),World.frozen?_alloc_old _ _ t (by simp; omega),World.frozen?_alloc_old _ _ t (by simp; omega),World.frozen?_alloc_old _ _ t (Nat.ne_of_lt htl)]; exact hf0)
 go_enter Tryz.func64,Tryz.ntmps64
 go_wp2
 refine wp_loop_rounds 1 ?_
 rw [rounds_succ]
 go_wp2
 go_ret
 exact ⟨rfl,rfl⟩
theorem asR.typeOfQ (v:Value) (w:World):(ReflectliteType.typeOf #[.iface 227 v]).run Tryz.prog w = .ok (.iface 190 (.agg #[.pointer (some ⟨3,227,none⟩)])) w := by kernel_rfl
theorem asR.assignableQ (w : World) : (ReflectliteType.relation "AssignableTo" ReflectliteType.assignableTo #[.agg #[.pointer (some ⟨3, 227, none⟩)], .iface 190 (.agg #[.pointer (some ⟨3, 101, none⟩)])]).run Tryz.prog w = .ok (.bool false) w := by kernel_rfl
theorem asR.noAsQ (v:Value) (xT:TypeId) (w:World):(Instr.typeAssert (.iface 227 v) xT 201 true).run Tryz.prog w = .ok (.tuple #[.nilIface,.bool false]) w := run_typeAssert_lacksB Tryz.underlying201 (by kernel_rfl) (by kernel_rfl) v xT w
theorem asR.noUnQ (v:Value) (xT:TypeId) (w:World):(Instr.typeAssert (.iface 227 v) xT 195 true).run Tryz.prog w = .ok (.tuple #[.nilIface,.bool false]) w := run_typeAssert_lacksB Tryz.underlying195 (by kernel_rfl) (by kernel_rfl) v xT w
theorem asR.noUsQ (v:Value) (xT:TypeId) (w:World):(Instr.typeAssert (.iface 227 v) xT 196 true).run Tryz.prog w = .ok (.tuple #[.nilIface,.bool false]) w := run_typeAssert_lacksB Tryz.underlying196 (by kernel_rfl) (by kernel_rfl) v xT w
set_option maxHeartbeats 4000000 in
theorem K7n (e t:Addr) (w:World) (hg:w.cell? ⟨1,0,none⟩=some (.iface 190 (.agg #[.pointer (some ⟨3,99,none⟩)]))) :
  Calls Tryz.prog 64 #[.iface 227 (.pointer (some e)),.iface 104 (.pointer (some t))] w fun ev w' => ev = .returned (.bool false)∧w' = ((w.alloc (.cells #[.pointer (some t)] 104)).alloc (.cells #[.pointer (some ⟨3,104,none⟩),.pointer (some ⟨w.heap.size,0,none⟩),.int .u64 150] 160)).alloc (.cells #[.pointer (some ⟨3,104,none⟩),.pointer (some ⟨w.heap.size,0,none⟩),.int .u64 150] 160) := by
 have h6 := @run_callFunc_extern Tryz.prog 121 _ (fun args=>ReflectliteValue.unpack (args.getD 0 (.tuple #[]))) Tryz.func121 (by kernel_rfl) (by kernel_rfl) (by kernel_rfl) (by kernel_rfl)
 have h7 := @run_callFunc_extern Tryz.prog 122 _ (ReflectliteValue.methodAny (ReflectliteValue.valueError "reflectlite.Value.Type" 0) (fun t _ _ _ => ReflectliteType.toType t)) Tryz.func122 (by kernel_rfl) (by kernel_rfl) (by kernel_rfl) (by kernel_rfl)
 have h8 := @run_callFunc_extern Tryz.prog 123 _ (ReflectliteValue.method (ReflectliteValue.valueError "reflectlite.Value.IsNil" 0) ReflectliteValue.isNil) Tryz.func123 (by kernel_rfl) (by kernel_rfl) (by kernel_rfl) (by kernel_rfl)
 have h27 := @run_callFunc_extern Tryz.prog 193 _ (ReflectliteType.abiMethod fun t=>do pure (.int .u8 (← Rtype.kind t))) Tryz.func193 (by kernel_rfl) (by kernel_rfl) (by kernel_rfl) (by kernel_rfl)
 have h37 := @run_callFunc_extern Tryz.prog 205 _ (ReflectliteType.method ReflectliteType.elem) Tryz.func205 (by kernel_rfl) (by kernel_rfl) (by kernel_rfl) (by kernel_rfl)
 have h38 := @run_callFunc_extern Tryz.prog 206 _ (ReflectliteType.relation "Implements" ReflectliteType.implements_) Tryz.func206 (by kernel_rfl) (by kernel_rfl) (by kernel_rfl) (by kernel_rfl)
 have h10 := @run_callFunc_extern Tryz.prog 119 _ ReflectliteType.typeOf Tryz.func119 (by kernel_rfl) (by kernel_rfl) (by kernel_rfl) (by kernel_rfl)
 have h35 := @run_callFunc_extern Tryz.prog 203 _ (ReflectliteType.relation "AssignableTo" ReflectliteType.assignableTo) Tryz.func203 (by kernel_rfl) (by kernel_rfl) (by kernel_rfl) (by kernel_rfl)
 have mA := as.methodAssignableTo
 have f6 := asR.valueOfPP
 have f7 := asR.typePP
 have mK := as.methodKind
 have mE := as.methodElem
 have mI := as.methodImplements
 have k27 := asR.kindPP
 have k25 := asR.kindP
 have e27 := asR.elemPP
 have i25 := asR.implementsP
 have n8 := asR.isNilPP ⟨w.heap.size,0,none⟩ t ((w.alloc (.cells #[.pointer (some t)] 104)).alloc (.cells #[.pointer (some ⟨3,104,none⟩),.pointer (some ⟨w.heap.size,0,none⟩),.int .u64 150] 160)) (by simp)
 have hlt:1<w.heap.size := World.block_lt_of_cell? w _ hg
 have hg2:((w.alloc (.cells #[.pointer (some t)] 104)).alloc (.cells #[.pointer (some ⟨3,104,none⟩),.pointer (some ⟨w.heap.size,0,none⟩),.int .u64 150] 160)).cell? ⟨1,0,none⟩=some (.iface 190 (.agg #[.pointer (some ⟨3,99,none⟩)])) := by
  rw [World.cell?_alloc_lt _ _ ⟨1,0,none⟩ (by simp; omega),World.cell?_alloc_lt _ _ ⟨1,0,none⟩ hlt]; exact hg
 have tO := asR.typeOfQ
 have a25 := asR.assignableQ
 have n1 := asR.noAsQ
 have n2 := asR.noUnQ
 have n3 := asR.noUsQ
 go_enter Tryz.func64,Tryz.ntmps64
 go_wp2
 refine wp_loop_rounds 1 ?_
 rw [rounds_succ]
 go_wp2
 go_ret
 exact ⟨rfl,rfl⟩
theorem asM.valueOfPP (t:Addr) (w:World):(ReflectliteValue.unpack (.iface 208 (.pointer (some t)))).run Tryz.prog w
  = .ok (.agg #[.pointer (some ⟨3,208,none⟩),.pointer (some ⟨w.heap.size,0,none⟩),.int .u64 150]) (w.alloc (.cells #[.pointer (some t)] 208)) := by kernel_rfl
theorem asM.typePP (a : Addr) (w : World) : (ReflectliteValue.methodAny (ReflectliteValue.valueError "reflectlite.Value.Type" 0) (fun t _ _ _ => ReflectliteType.toType t) #[.agg #[.pointer (some ⟨3, 208, none⟩), .pointer (some a), .int .u64 150]]).run Tryz.prog w
  = .ok (.iface 190 (.agg #[.pointer (some ⟨3,208,none⟩)])) w := by kernel_rfl
theorem asM.kindPP (w:World):((ReflectliteType.abiMethod fun t=>(fun a:Nat=>Value.int IntKind.u8 (a:Int)) <$> Rtype.kind t) #[.pointer (some ⟨3,208,none⟩)]).run Tryz.prog w = .ok (.int .u8 22) w := by kernel_rfl
theorem asM.kindP (w:World):((ReflectliteType.abiMethod fun t=>(fun a:Nat=>Value.int IntKind.u8 (a:Int)) <$> Rtype.kind t) #[.pointer (some ⟨3,207,none⟩)]).run Tryz.prog w = .ok (.int .u8 22) w := by kernel_rfl
theorem asM.partsPP (a:Addr) (w:World):(ReflectliteValue.parts (.agg #[.pointer (some ⟨3,208,none⟩),.pointer (some a),.int .u64 150])).run Tryz.prog w = .ok (some (208,a,150)) w := by kernel_rfl
theorem asM.isNilPP (a p:Addr) (W:World) (ha:W.cell? a=some (.pointer (some p))) :
  (ReflectliteValue.method (ReflectliteValue.valueError "reflectlite.Value.IsNil" 0) ReflectliteValue.isNil #[.agg #[.pointer (some ⟨3, 208, none⟩), .pointer (some a), .int .u64 150]]).run Tryz.prog W = .ok (.bool false) W := by
 rw [rlm]
 simp only [Sem.run_bind,asM.partsPP,Result.andThen]
 simp [ReflectliteValue.isNil,loadVar,isAgg,underlying,Tryz.underlying208,ha,Result.andThen]
theorem asM.elemPP (w:World):(ReflectliteType.method ReflectliteType.elem #[.agg #[.pointer (some ⟨3,208,none⟩)]]).run Tryz.prog w = .ok (.iface 190 (.agg #[.pointer (some ⟨3,207,none⟩)])) w := by kernel_rfl
theorem asM.implementsP (w : World) : (ReflectliteType.relation "Implements" ReflectliteType.implements_ #[.agg #[.pointer (some ⟨3, 207, none⟩)], .iface 190 (.agg #[.pointer (some ⟨3, 99, none⟩)])]).run Tryz.prog w = .ok (.bool true) w := by kernel_rfl
theorem asM.typeOfP (v:Value) (w:World):(ReflectliteType.typeOf #[.iface 207 v]).run Tryz.prog w = .ok (.iface 190 (.agg #[.pointer (some ⟨3,207,none⟩)])) w := by kernel_rfl
theorem asM.assignableP (w : World) : (ReflectliteType.relation "AssignableTo" ReflectliteType.assignableTo #[.agg #[.pointer (some ⟨3, 207, none⟩)], .iface 190 (.agg #[.pointer (some ⟨3, 207, none⟩)])]).run Tryz.prog w = .ok (.bool true) w := by kernel_rfl
theorem asM.valueOfP (e:Addr) (w:World):(ReflectliteValue.unpack (.iface 207 (.pointer (some e)))).run Tryz.prog w
  = .ok (.agg #[.pointer (some ⟨3,207,none⟩),.pointer (some ⟨w.heap.size,0,none⟩),.int .u64 150]) (w.alloc (.cells #[.pointer (some e)] 207)) := by kernel_rfl
theorem asM.elemOfPP (w:World):(Rtype.elem? 208).run Tryz.prog w = .ok (some 207) w := by kernel_rfl
theorem asM.mkP (p:Addr) (w:World):(ReflectliteValue.mk 207 p ReflectliteValue.flagAddr).run Tryz.prog w = .ok (.agg #[.pointer (some ⟨3,207,none⟩),.pointer (some p),.int .u64 406]) w := by kernel_rfl
theorem asM.elemVPP (a p:Addr) (W:World) (ha:W.cell? a=some (.pointer (some p))) :
  (ReflectliteValue.method (ReflectliteValue.valueError "reflectlite.Value.Elem" 0) ReflectliteValue.elem #[.agg #[.pointer (some ⟨3, 208, none⟩), .pointer (some a), .int .u64 150]]).run Tryz.prog W
   = .ok (.agg #[.pointer (some ⟨3,207,none⟩),.pointer (some p),.int .u64 406]) W := by
 rw [rlm]
 simp only [Sem.run_bind,asM.partsPP,Result.andThen]
 simp [ReflectliteValue.elem,loadVar,isAgg,underlying,Tryz.underlying208,ha,Result.andThen,asM.elemOfPP,asM.mkP]
theorem asM.partsPa (a:Addr) (w:World):(ReflectliteValue.parts (.agg #[.pointer (some ⟨3,207,none⟩),.pointer (some a),.int .u64 406])).run Tryz.prog w = .ok (some (207,a,406)) w := by kernel_rfl
theorem asM.partsP (a:Addr) (w:World):(ReflectliteValue.parts (.agg #[.pointer (some ⟨3,207,none⟩),.pointer (some a),.int .u64 150])).run Tryz.prog w = .ok (some (207,a,150)) w := by kernel_rfl
theorem asM.directP (w:World):(Rtype.directlyAssignable 207 207).run Tryz.prog w = .ok true w := by kernel_rfl
theorem asM.setP (ta b e:Addr) (old:Value) (W:World) (hb:W.cell? b=some (.pointer (some e))) (ht:W.cell? ta=some old) (hf:W.frozen? ta=false) :
  (ReflectliteValue.set #[.agg #[.pointer (some ⟨3,207,none⟩),.pointer (some ta),.int .u64 406],.agg #[.pointer (some ⟨3,207,none⟩),.pointer (some b),.int .u64 150]]).run Tryz.prog W
   = .ok (.tuple #[]) (W.setCell ta (.pointer (some e))) := by
 rw [rls]
 simp only [Sem.run_bind,asM.partsPa,asM.partsP,Result.andThen]
 simp [ReflectliteValue.flagAddr,loadVar,isAgg,underlying,Tryz.underlying207,hb,Result.andThen,asM.directP,storeVar,Value.cells,storeCells,Addr.add]
 rw [run_store Tryz.prog W ta _ _ (by rfl)]
 simp [ht,hf]
set_option maxHeartbeats 4000000 in
theorem K7o (e t:Addr) (old:Value) (w:World) (hg:w.cell? ⟨1,0,none⟩=some (.iface 190 (.agg #[.pointer (some ⟨3,99,none⟩)]))) (ht0:w.cell? t=some old) (hf0:w.frozen? t=false) :
  Calls Tryz.prog 64 #[.iface 207 (.pointer (some e)),.iface 208 (.pointer (some t))] w fun ev w' => ev = .returned (.bool true)∧w' = ((((w.alloc (.cells #[.pointer (some t)] 208)).alloc (.cells #[.pointer (some ⟨3,208,none⟩),.pointer (some ⟨w.heap.size,0,none⟩),.int .u64 150] 160)).alloc (.cells #[.pointer (some ⟨3,208,none⟩),.pointer (some ⟨w.heap.size,0,none⟩),.int .u64 150] 160)).alloc (.cells #[.pointer (some e)] 207)).setCell t (.pointer (some e)) := by
 have h6 := @run_callFunc_extern Tryz.prog 121 _ (fun args=>ReflectliteValue.unpack (args.getD 0 (.tuple #[]))) Tryz.func121 (by kernel_rfl) (by kernel_rfl) (by kernel_rfl) (by kernel_rfl)
 have h7 := @run_callFunc_extern Tryz.prog 122 _ (ReflectliteValue.methodAny (ReflectliteValue.valueError "reflectlite.Value.Type" 0) (fun t _ _ _ => ReflectliteType.toType t)) Tryz.func122 (by kernel_rfl) (by kernel_rfl) (by kernel_rfl) (by kernel_rfl)
 have h8 := @run_callFunc_extern Tryz.prog 123 _ (ReflectliteValue.method (ReflectliteValue.valueError "reflectlite.Value.IsNil" 0) ReflectliteValue.isNil) Tryz.func123 (by kernel_rfl) (by kernel_rfl) (by kernel_rfl) (by kernel_rfl)
 have h27 := @run_callFunc_extern Tryz.prog 193 _ (ReflectliteType.abiMethod fun t=>do pure (.int .u8 (← Rtype.kind t))) Tryz.func193 (by kernel_rfl) (by kernel_rfl) (by kernel_rfl) (by kernel_rfl)
 have h37 := @run_callFunc_extern Tryz.prog 205 _ (ReflectliteType.method ReflectliteType.elem) Tryz.func205 (by kernel_rfl) (by kernel_rfl) (by kernel_rfl) (by kernel_rfl)
 have h38 := @run_callFunc_extern Tryz.prog 206 _ (ReflectliteType.relation "Implements" ReflectliteType.implements_) Tryz.func206 (by kernel_rfl) (by kernel_rfl) (by kernel_rfl) (by kernel_rfl)
 have h10 := @run_callFunc_extern Tryz.prog 119 _ ReflectliteType.typeOf Tryz.func119 (by kernel_rfl) (by kernel_rfl) (by kernel_rfl) (by kernel_rfl)
 have h35 := @run_callFunc_extern Tryz.prog 203 _ (ReflectliteType.relation "AssignableTo" ReflectliteType.assignableTo) Tryz.func203 (by kernel_rfl) (by kernel_rfl) (by kernel_rfl) (by kernel_rfl)
 have mA := as.methodAssignableTo
 have f6 := asM.valueOfPP
 have f7 := asM.typePP
 have mK := as.methodKind
 have mE := as.methodElem
 have mI := as.methodImplements
 have k27 := asM.kindPP
 have k25 := asM.kindP
 have e27 := asM.elemPP
 have i25 := asM.implementsP
 have n8 := asM.isNilPP ⟨w.heap.size,0,none⟩ t ((w.alloc (.cells #[.pointer (some t)] 208)).alloc (.cells #[.pointer (some ⟨3,208,none⟩),.pointer (some ⟨w.heap.size,0,none⟩),.int .u64 150] 160)) (by simp)
 have hlt:1<w.heap.size := World.block_lt_of_cell? w _ hg
 have hg2:((w.alloc (.cells #[.pointer (some t)] 208)).alloc (.cells #[.pointer (some ⟨3,208,none⟩),.pointer (some ⟨w.heap.size,0,none⟩),.int .u64 150] 160)).cell? ⟨1,0,none⟩=some (.iface 190 (.agg #[.pointer (some ⟨3,99,none⟩)])) := by
  rw [World.cell?_alloc_lt _ _ ⟨1,0,none⟩ (by simp; omega),World.cell?_alloc_lt _ _ ⟨1,0,none⟩ hlt]; exact hg
 have h11 := @run_callFunc_extern Tryz.prog 152 _ (ReflectliteValue.method (ReflectliteValue.valueError "reflectlite.Value.Elem" 0) ReflectliteValue.elem) Tryz.func152 (by kernel_rfl) (by kernel_rfl) (by kernel_rfl) (by kernel_rfl)
 have h12 := @run_callFunc_extern Tryz.prog 153 _ ReflectliteValue.set Tryz.func153 (by kernel_rfl) (by kernel_rfl) (by kernel_rfl) (by kernel_rfl)
 have tO := asM.typeOfP
 have a25 := asM.assignableP
 have v25 := asM.valueOfP
 have htl:t.block<w.heap.size := by
  rcases Nat.lt_or_ge t.block w.heap.size with h | h
  ·exact h
  ·simp [World.cell?,Array.getElem?_eq_none h] at ht0
 have el := asM.elemVPP ⟨w.heap.size,0,none⟩ t (((w.alloc (.cells #[.pointer (some t)] 208)).alloc (.cells #[.pointer (some ⟨3,208,none⟩),.pointer (some ⟨w.heap.size,0,none⟩),.int .u64 150] 160)).alloc (.cells #[.pointer (some ⟨3,208,none⟩),.pointer (some ⟨w.heap.size,0,none⟩),.int .u64 150] 160)) (by rw [World.cell?_alloc_lt _ _ ⟨w.heap.size,0,none⟩ (by simp; omega)]; simp)
 have st := asM.setP t ⟨w.heap.size+1+1+1,0,none⟩ e old ((((w.alloc (.cells #[.pointer (some t)] 208)).alloc (.cells #[.pointer (some ⟨3,208,none⟩),.pointer (some ⟨w.heap.size,0,none⟩),.int .u64 150] 160)).alloc (.cells #[.pointer (some ⟨3,208,none⟩),.pointer (some ⟨w.heap.size,0,none⟩),.int .u64 150] 160)).alloc (.cells #[.pointer (some e)] 207))
  (by rw [World.cell?_alloc_at _ _ _ _ (by simp)]; rfl)
  (by rw [World.cell?_alloc_lt _ _ t (by simp; omega),World.cell?_alloc_lt _ _ t (by simp; omega),World.cell?_alloc_lt _ _ t (by simp; omega),World.cell?_alloc_lt _ _ t htl]; exact ht0)
  (by rw [World.frozen?_alloc_old _ _ t (by simp; omega),World.frozen?_alloc_old _ _ t (by simp; omega),World.frozen?_alloc_old _ _ t (by simp; omega),World.frozen?_alloc_old _ _ t (Nat.ne_of_lt htl)]; exact hf0)
 go_enter Tryz.func64,Tryz.ntmps64
 go_wp2
 refine wp_loop_rounds 1 ?_
 rw [rounds_succ]
 go_wp2
 go_ret
 exact ⟨rfl,rfl⟩
theorem is.size:(Tryz.prog.info? 248).map (·.size)=some 1 := by kernel_rfl
theorem is.typeOf (v:Value) (w:World):(ReflectliteType.typeOf #[.iface 227 v]).run Tryz.prog w = .ok (.iface 190 (.agg #[.pointer (some ⟨3,227,none⟩)])) w := by kernel_rfl
def is.cmp : Array Value → Sem Value := ReflectliteType.method fun t => do Rtype.noPackHeld "Comparable" t; pure (.bool (← typeInfo t).comparable)
theorem is.comparable (w:World):(is.cmp #[.agg #[.pointer (some ⟨3,227,none⟩)]]).run Tryz.prog w = .ok (.bool true) w := by kernel_rfl
theorem is.methodComparable (v : Value) (w : World) : (Go.method 360 190 v "Comparable").run Tryz.prog w = .ok (204, v) w := by kernel_rfl
theorem is.comp:(Tryz.prog.info? 227).map (·.comparable)=some true := by kernel_rfl
theorem is.noIsE (v:Value) (xT:TypeId) (w:World):(Instr.typeAssert (.iface 32 v) xT 192 true).run Tryz.prog w = .ok (.tuple #[.nilIface,.bool false]) w := run_typeAssert_lacksB Tryz.underlying192 (by kernel_rfl) (by kernel_rfl) v xT w
theorem is.noUnE (v:Value) (xT:TypeId) (w:World):(Instr.typeAssert (.iface 32 v) xT 195 true).run Tryz.prog w = .ok (.tuple #[.nilIface,.bool false]) w := run_typeAssert_lacksB Tryz.underlying195 (by kernel_rfl) (by kernel_rfl) v xT w
theorem is.noUsE (v:Value) (xT:TypeId) (w:World):(Instr.typeAssert (.iface 32 v) xT 196 true).run Tryz.prog w = .ok (.tuple #[.nilIface,.bool false]) w := run_typeAssert_lacksB Tryz.underlying196 (by kernel_rfl) (by kernel_rfl) v xT w
theorem is.noIsP (v:Value) (xT:TypeId) (w:World):(Instr.typeAssert (.iface 101 v) xT 192 true).run Tryz.prog w = .ok (.tuple #[.nilIface,.bool false]) w := run_typeAssert_lacksB Tryz.underlying192 (by kernel_rfl) (by kernel_rfl) v xT w
theorem is.hasUnP (v:Value) (xT:TypeId) (w:World):(Instr.typeAssert (.iface 101 v) xT 195 true).run Tryz.prog w = .ok (.tuple #[.iface 101 v,.bool true]) w := run_typeAssert_hasB Tryz.underlying195 (by kernel_rfl) v xT w
theorem is.methodUnwrap (v : Value) (w : World) : (Go.method 360 101 v "Unwrap").run Tryz.prog w = .ok (198, v) w := by kernel_rfl
set_option maxRecDepth 10000 in
theorem K7p (b:Addr) (w:World) :
  Calls Tryz.prog 63 #[.nilIface,.iface 227 (.pointer (some b))] w fun e w' => e = .returned (.bool false)∧w' = w := by
 have hn := run_eql_iface_nil_left (P := Tryz.prog) w 227 (.pointer (some b)) Tryz.underlying99
 go_enter Tryz.func63,Tryz.ntmps63
 go_wp2
 go_ret
 exact ⟨rfl,rfl⟩
set_option maxRecDepth 10000 in
theorem K7q (a:Addr) (w:World) :
  Calls Tryz.prog 63 #[.iface 227 (.pointer (some a)),.iface 227 (.pointer (some a))] w fun e w' => e = .returned (.bool true)∧w' = w := by
 obtain ⟨i,hi,hcmp⟩ := Option.map_eq_some_iff.1 is.comp
 obtain ⟨j,hj,hjs⟩ := Option.map_eq_some_iff.1 is.size
 have h8 := @run_callFunc_extern Tryz.prog 119 _ ReflectliteType.typeOf Tryz.func119 (by kernel_rfl) (by kernel_rfl) (by kernel_rfl) (by kernel_rfl)
 have h32 := @run_callFunc_extern Tryz.prog 204 _ is.cmp Tryz.func204 (by kernel_rfl) (by kernel_rfl) (by kernel_rfl) (by kernel_rfl)
 have tT := is.typeOf
 have cT := is.comparable
 have mR := is.methodComparable
 have heq := run_eql_iface_ptr_same (P := Tryz.prog) w a Tryz.underlying99 Tryz.underlying227 hi hcmp hj
 go_enter Tryz.func63,Tryz.ntmps63
 go_wp2
 refine wp_loop_rounds 1 ?_
 rw [rounds_succ]
 go_wp2
 go_ret
 exact ⟨rfl,rfl⟩
set_option maxHeartbeats 4000000 in
set_option maxRecDepth 10000 in
theorem K7r (pb po:Nat) (b:Addr) (z:Int) (w:World) (h1:w.cell? ⟨pb,po+1,none⟩=some (.int .i64 z)) :
  Calls Tryz.prog 63 #[.iface 101 (.pointer (some ⟨pb,po,none⟩)),.iface 227 (.pointer (some b))] w fun e w' => e = .returned (.bool false)∧w' = w := by
 have h8 := @run_callFunc_extern Tryz.prog 119 _ ReflectliteType.typeOf Tryz.func119 (by kernel_rfl) (by kernel_rfl) (by kernel_rfl) (by kernel_rfl)
 have h32 := @run_callFunc_extern Tryz.prog 204 _ is.cmp Tryz.func204 (by kernel_rfl) (by kernel_rfl) (by kernel_rfl) (by kernel_rfl)
 have tT := is.typeOf
 have cT := is.comparable
 have mR := is.methodComparable
 have n1 := is.noIsE
 have n2 := is.noUnE
 have n3 := is.noUsE
 have n4 := is.noIsP
 have n5 := is.hasUnP
 have mU := is.methodUnwrap
 have hty := run_eql_iface_types (P := Tryz.prog) 101 227 (.pointer (some ⟨pb,po,none⟩)) (.pointer (some b)) Tryz.underlying99 (by decide) w
 have hty2 := run_eql_iface_types (P := Tryz.prog) 32 227 (.int .i64 z) (.pointer (some b)) Tryz.underlying99 (by decide) w
 go_enter Tryz.func63,Tryz.ntmps63
 go_wp2
 refine wp_loop_rounds 2 ?_
 rw [rounds_succ]
 go_wp2
 rw [rounds_succ]
 go_wp2
 go_ret
 exact ⟨rfl,rfl⟩
end Go.Proofs.YthlgaodaofpgoaaGreatDoor
