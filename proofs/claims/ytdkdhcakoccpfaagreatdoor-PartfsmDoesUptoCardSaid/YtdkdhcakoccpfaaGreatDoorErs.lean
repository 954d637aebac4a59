/-
  errors.As and errors.Is at the errors that this program makes: closed facts, and Go's own text walked.
-/
import Derived.Test.YtdkdhcakoccpfaaGreatDoorProg
import Derived.LaidEql
import Derived.Stop.Asserts
import Derived.RowKitTokens
import Derived.WalkKit
namespace Go.Proofs.YtdkdhcakoccpfaaGreatDoor
open Go.RowKit Go.Extern.Stop Go.Stop Go.Extern
theorem K8k (t:Value) (w:World) :
  Calls Tryz.prog 45 #[.nilIface,t] w fun e w' => e = .returned (.bool false)∧w' = w := by
 go_enter Tryz.func45,Tryz.ntmps45
 go_wp2
 go_ret
 exact ⟨rfl,rfl⟩
theorem as.methodKind (h : Value) (w : World) : (Go.method 315 149 (.agg #[h]) "Kind").run Tryz.prog w = .ok (145, h) w := by kernel_rfl
theorem rlm (z:Sem Value) (f:TypeId→Addr→Nat→Nat→Sem Value) (v:Value) :
  ReflectliteValue.method z f #[v]=(do match ← ReflectliteValue.parts v with | none=>z | some (t,a,fl)=>f t a fl (fl % 32)) := rfl
theorem as.methodElem (h : Value) (w : World) : (Go.method 315 149 (.agg #[h]) "Elem").run Tryz.prog w = .ok (157, .agg #[h]) w := by kernel_rfl
theorem as.methodImplements (h : Value) (w : World) : (Go.method 315 149 (.agg #[h]) "Implements").run Tryz.prog w = .ok (158, .agg #[h]) w := by kernel_rfl
theorem as.methodAssignableTo (h : Value) (w : World) : (Go.method 315 149 (.agg #[h]) "AssignableTo").run Tryz.prog w = .ok (155, .agg #[h]) w := by kernel_rfl
theorem rls (v x:Value):ReflectliteValue.set #[v,x]=(do
  let (some (dst,a,fl),some (src,b,_)) := (← ReflectliteValue.parts v,← ReflectliteValue.parts x)
   | unsupported (.noEntry "extern/(internal/reflectlite.Value).Set.zeroValue")
  if fl / ReflectliteValue.flagAddr % 2 == 0 then unsupported (.noEntry "extern/(internal/reflectlite.Value).Set.unaddressable")
  let val ← loadVar src b
  if ← Rtype.directlyAssignable dst src then storeVar dst a val
  else if ← Rtype.implements dst src then
   if (← Rtype.kind src)==20 then
    match val with
    | .nilIface => unsupported (.noEntry "extern/reflectlite: a nil value of one interface type handed on as a value of another")
    | _=>storeVar dst a val
   else storeVar dst a (.iface src val)
  else panicString ("reflectlite.Set: value of type " ++ (← Rtype.spelt src) ++ " is not assignable to type " ++ (← Rtype.spelt dst))
  pure (.tuple #[])) := rfl
theorem asR.valueOfPP (t:Addr) (w:World):(ReflectliteValue.unpack (.iface 89 (.pointer (some t)))).run Tryz.prog w
  = .ok (.agg #[.pointer (some ⟨3,89,none⟩),.pointer (some ⟨w.heap.size,0,none⟩),.int .u64 150]) (w.alloc (.cells #[.pointer (some t)] 89)) := by kernel_rfl
theorem asR.typePP (a : Addr) (w : World) : (ReflectliteValue.methodAny (ReflectliteValue.valueError "reflectlite.Value.Type" 0) (fun t _ _ _ => ReflectliteType.toType t) #[.agg #[.pointer (some ⟨3, 89, none⟩), .pointer (some a), .int .u64 150]]).run Tryz.prog w
  = .ok (.iface 149 (.agg #[.pointer (some ⟨3,89,none⟩)])) w := by kernel_rfl
theorem asR.kindPP (w:World):((ReflectliteType.abiMethod fun t=>(fun a:Nat=>Value.int IntKind.u8 (a:Int)) <$> Rtype.kind t) #[.pointer (some ⟨3,89,none⟩)]).run Tryz.prog w = .ok (.int .u8 22) w := by kernel_rfl
theorem asR.kindP (w:World):((ReflectliteType.abiMethod fun t=>(fun a:Nat=>Value.int IntKind.u8 (a:Int)) <$> Rtype.kind t) #[.pointer (some ⟨3,86,none⟩)]).run Tryz.prog w = .ok (.int .u8 22) w := by kernel_rfl
theorem asR.partsPP (a:Addr) (w:World):(ReflectliteValue.parts (.agg #[.pointer (some ⟨3,89,none⟩),.pointer (some a),.int .u64 150])).run Tryz.prog w = .ok (some (89,a,150)) w := by kernel_rfl
theorem asR.isNilPP (a p:Addr) (W:World) (ha:W.cell? a=some (.pointer (some p))) :
  (ReflectliteValue.method (ReflectliteValue.valueError "reflectlite.Value.IsNil" 0) ReflectliteValue.isNil #[.agg #[.pointer (some ⟨3, 89, none⟩), .pointer (some a), .int .u64 150]]).run Tryz.prog W = .ok (.bool false) W := by
 rw [rlm]
 simp only [Sem.run_bind,asR.partsPP,Result.andThen]
 simp [ReflectliteValue.isNil,loadVar,isAgg,underlying,Tryz.underlying89,ha,Result.andThen]
theorem asR.elemPP (w:World):(ReflectliteType.method ReflectliteType.elem #[.agg #[.pointer (some ⟨3,89,none⟩)]]).run Tryz.prog w = .ok (.iface 149 (.agg #[.pointer (some ⟨3,86,none⟩)])) w := by kernel_rfl
theorem asR.implementsP (w : World) : (ReflectliteType.relation "Implements" ReflectliteType.implements_ #[.agg #[.pointer (some ⟨3, 86, none⟩)], .iface 149 (.agg #[.pointer (some ⟨3, 84, none⟩)])]).run Tryz.prog w = .ok (.bool true) w := by kernel_rfl
theorem asR.typeOfP (v:Value) (w:World):(ReflectliteType.typeOf #[.iface 86 v]).run Tryz.prog w = .ok (.iface 149 (.agg #[.pointer (some ⟨3,86,none⟩)])) w := by kernel_rfl
theorem asR.assignableP (w : World) : (ReflectliteType.relation "AssignableTo" ReflectliteType.assignableTo #[.agg #[.pointer (some ⟨3, 86, none⟩)], .iface 149 (.agg #[.pointer (some ⟨3, 86, none⟩)])]).run Tryz.prog w = .ok (.bool true) w := by kernel_rfl
theorem asR.valueOfP (e:Addr) (w:World):(ReflectliteValue.unpack (.iface 86 (.pointer (some e)))).run Tryz.prog w
  = .ok (.agg #[.pointer (some ⟨3,86,none⟩),.pointer (some ⟨w.heap.size,0,none⟩),.int .u64 150]) (w.alloc (.cells #[.pointer (some e)] 86)) := by kernel_rfl
theorem asR.elemOfPP (w:World):(Rtype.elem? 89).run Tryz.prog w = .ok (some 86) w := by kernel_rfl
theorem asR.mkP (p:Addr) (w:World):(ReflectliteValue.mk 86 p ReflectliteValue.flagAddr).run Tryz.prog w = .ok (.agg #[.pointer (some ⟨3,86,none⟩),.pointer (some p),.int .u64 406]) w := by kernel_rfl
theorem asR.elemVPP (a p:Addr) (W:World) (ha:W.cell? a=some (.pointer (some p))) :
  (ReflectliteValue.method (ReflectliteValue.valueError "reflectlite.Value.Elem" 0) ReflectliteValue.elem #[.agg #[.pointer (some ⟨3, 89, none⟩), .pointer (some a), .int .u64 150]]).run Tryz.prog W
   = .ok (.agg #[.pointer (some ⟨3,86,none⟩),.pointer (some p),.int .u64 406]) W := by
 rw [rlm]
 simp only [Sem.run_bind,asR.partsPP,Result.andThen]
 simp [ReflectliteValue.elem,loadVar,isAgg,underlying,Tryz.underlying89,ha,Result.andThen,asR.elemOfPP,asR.mkP]
theorem asR.partsPa (a:Addr) (w:World):(ReflectliteValue.parts (.agg #[.pointer (some ⟨3,86,none⟩),.pointer (some a),.int .u64 406])).run Tryz.prog w = .ok (some (86,a,406)) w := by kernel_rfl
theorem asR.partsP (a:Addr) (w:World):(ReflectliteValue.parts (.agg #[.pointer (some ⟨3,86,none⟩),.pointer (some a),.int .u64 150])).run Tryz.prog w = .ok (some (86,a,150)) w := by kernel_rfl
theorem asR.directP (w:World):(Rtype.directlyAssignable 86 86).run Tryz.prog w = .ok true w := by kernel_rfl
theorem asR.setP (ta b e:Addr) (old:Value) (W:World) (hb:W.cell? b=some (.pointer (some e))) (ht:W.cell? ta=some old) (hf:W.frozen? ta=false) :
  (ReflectliteValue.set #[.agg #[.pointer (some ⟨3,86,none⟩),.pointer (some ta),.int .u64 406],.agg #[.pointer (some ⟨3,86,none⟩),.pointer (some b),.int .u64 150]]).run Tryz.prog W
   = .ok (.tuple #[]) (W.setCell ta (.pointer (some e))) := by
 rw [rls]
 simp only [Sem.run_bind,asR.partsPa,asR.partsP,Result.andThen]
 simp [ReflectliteValue.flagAddr,loadVar,isAgg,underlying,Tryz.underlying86,hb,Result.andThen,asR.directP,storeVar,Value.cells,storeCells,Addr.add]
 rw [run_store Tryz.prog W ta _ _ (by rfl)]
 simp [ht,hf]
set_option maxHeartbeats 4000000 in
theorem K8l (e t:Addr) (old:Value) (w:World) (hg:w.cell? ⟨1,0,none⟩=some (.iface 149 (.agg #[.pointer (some ⟨3,84,none⟩)]))) (ht0:w.cell? t=some old) (hf0:w.frozen? t=false) :
  Calls Tryz.prog 45 #[.iface 86 (.pointer (some e)),.iface 89 (.pointer (some t))] w fun ev w' => ev = .returned (.bool true)∧w' = ((((w.alloc (.cells #[.pointer (some t)] 89)).alloc (.cells #[.pointer (some ⟨3,89,none⟩),.pointer (some ⟨w.heap.size,0,none⟩),.int .u64 150] 127)).alloc (.cells #[.pointer (some ⟨3,89,none⟩),.pointer (some ⟨w.heap.size,0,none⟩),.int .u64 150] 127)).alloc (.cells #[.pointer (some e)] 86)).setCell t (.pointer (some e)) := by
 have h6 := @run_callFunc_extern Tryz.prog 82 _ (fun args=>ReflectliteValue.unpack (args.getD 0 (.tuple #[]))) Tryz.func82 (by kernel_rfl) (by kernel_rfl) (by kernel_rfl) (by kernel_rfl)
 have h7 := @run_callFunc_extern Tryz.prog 83 _ (ReflectliteValue.methodAny (ReflectliteValue.valueError "reflectlite.Value.Type" 0) (fun t _ _ _ => ReflectliteType.toType t)) Tryz.func83 (by kernel_rfl) (by kernel_rfl) (by kernel_rfl) (by kernel_rfl)
 have h8 := @run_callFunc_extern Tryz.prog 84 _ (ReflectliteValue.method (ReflectliteValue.valueError "reflectlite.Value.IsNil" 0) ReflectliteValue.isNil) Tryz.func84 (by kernel_rfl) (by kernel_rfl) (by kernel_rfl) (by kernel_rfl)
 have h27 := @run_callFunc_extern Tryz.prog 145 _ (ReflectliteType.abiMethod fun t=>do pure (.int .u8 (← Rtype.kind t))) Tryz.func145 (by kernel_rfl) (by kernel_rfl) (by kernel_rfl) (by kernel_rfl)
 have h37 := @run_callFunc_extern Tryz.prog 157 _ (ReflectliteType.method ReflectliteType.elem) Tryz.func157 (by kernel_rfl) (by kernel_rfl) (by kernel_rfl) (by kernel_rfl)
 have h38 := @run_callFunc_extern Tryz.prog 158 _ (ReflectliteType.relation "Implements" ReflectliteType.implements_) Tryz.func158 (by kernel_rfl) (by kernel_rfl) (by kernel_rfl) (by kernel_rfl)
 have h10 := @run_callFunc_extern Tryz.prog 80 _ ReflectliteType.typeOf Tryz.func80 (by kernel_rfl) (by kernel_rfl) (by kernel_rfl) (by kernel_rfl)
 have h35 := @run_callFunc_extern Tryz.prog 155 _ (ReflectliteType.relation "AssignableTo" ReflectliteType.assignableTo) Tryz.func155 (by kernel_rfl) (by kernel_rfl) (by kernel_rfl) (by kernel_rfl)
 have mA := as.methodAssignableTo
 have f6 := asR.valueOfPP
 have f7 := asR.typePP
 have mK := as.methodKind
 have mE := as.methodElem
 have mI := as.methodImplements
 have k27 := asR.kindPP
 have k25 := asR.kindP
 have e27 := asR.elemPP
 have i25 := asR.implementsP
 have n8 := asR.isNilPP ⟨w.heap.size,0,none⟩ t ((w.alloc (.cells #[.pointer (some t)] 89)).alloc (.cells #[.pointer (some ⟨3,89,none⟩),.pointer (some ⟨w.heap.size,0,none⟩),.int .u64 150] 127)) (by simp)
 have hlt:1<w.heap.size := World.block_lt_of_cell? w _ hg
 have hg2:((w.alloc (.cells #[.pointer (some t)] 89)).alloc (.cells #[.pointer (some ⟨3,89,none⟩),.pointer (some ⟨w.heap.size,0,none⟩),.int .u64 150] 127)).cell? ⟨1,0,none⟩=some (.iface 149 (.agg #[.pointer (some ⟨3,84,none⟩)])) := by
  rw [World.cell?_alloc_lt _ _ ⟨1,0,none⟩ (by simp <;> omega),World.cell?_alloc_lt _ _ ⟨1,0,none⟩ hlt]; exact hg
 have h11 := @run_callFunc_extern Tryz.prog 104 _ (ReflectliteValue.method (ReflectliteValue.valueError "reflectlite.Value.Elem" 0) ReflectliteValue.elem) Tryz.func104 (by kernel_rfl) (by kernel_rfl) (by kernel_rfl) (by kernel_rfl)
 have h12 := @run_callFunc_extern Tryz.prog 105 _ ReflectliteValue.set Tryz.func105 (by kernel_rfl) (by kernel_rfl) (by kernel_rfl) (by kernel_rfl)
 have tO := asR.typeOfP
 have a25 := asR.assignableP
 have v25 := asR.valueOfP
 have htl:t.block<w.heap.size := by
  rcases Nat.lt_or_ge t.block w.heap.size with h | h
  ·exact h
  ·simp [World.cell?,Array.getElem?_eq_none h] at ht0
 have el := asR.elemVPP ⟨w.heap.size,0,none⟩ t (((w.alloc (.cells #[.pointer (some t)] 89)).alloc (.cells #[.pointer (some ⟨3,89,none⟩),.pointer (some ⟨w.heap.size,0,none⟩),.int .u64 150] 127)).alloc (.cells #[.pointer (some ⟨3,89,none⟩),.pointer (some ⟨w.heap.size,0,none⟩),.int .u64 150] 127)) (by rw [World.cell?_alloc_lt _ _ ⟨w.heap.size,0,none⟩ (by simp <;> omega)]; simp)
 have st := asR.setP t ⟨w.heap.size+1+1+1,0,none⟩ e old ((((w.alloc (.cells #[.pointer (some t)] 89)).alloc (.cells #[.pointer (some ⟨3,89,none⟩),.pointer (some ⟨w.heap.size,0,none⟩),.int .u64 150] 127)).alloc (.cells #[.pointer (some ⟨3,89,none⟩),.pointer (some ⟨w.heap.size,0,none⟩),.int .u64 150] 127)).alloc (.cells #[.pointer (some e)] 86))
  (by rw [World.cell?_alloc_at _ _ _ _ (by simp)]; rfl)
  (by rw [World.cell?_alloc_lt _ _ t (by simp <;> omega),World.cell?_alloc_lt _ _ t (by simp <;> omega),World.cell?_alloc_lt _ _ t (by simp <;> omega),World.cell?_alloc_lt _ _ t htl]; exact ht0)
  (by rw [World.frozen?_alloc_old _ _ t (by simp <;> omega),World.frozen?_alloc_old _ _ t (by simp <;> omega),World.frozen?_alloc_old _ _ t (by simp <;> omega),World.frozen?_alloc_old _ _ t (Nat.ne_of_lt htl)]; exact hf0)
 go_enter Tryz.func45,Tryz.ntmps45
 go_wp2
 refine wp_loop_rounds 1 ?_
 rw [rounds_succ]
 go_wp2
 go_ret
 exact ⟨rfl,rfl⟩
theorem asR.typeOfQ (v:Value) (w:World):(ReflectliteType.typeOf #[.iface 181 v]).run Tryz.prog w = .ok (.iface 149 (.agg #[.pointer (some ⟨3,181,none⟩)])) w := by kernel_rfl
theorem asR.assignableQ (w : World) : (ReflectliteType.relation "AssignableTo" ReflectliteType.assignableTo #[.agg #[.pointer (some ⟨3, 181, none⟩)], .iface 149 (.agg #[.pointer (some ⟨3, 86, none⟩)])]).run Tryz.prog w = .ok (.bool false) w := by kernel_rfl
theorem asR.noAsQ (v:Value) (xT:TypeId) (w:World):(Instr.typeAssert (.iface 181 v) xT 160 true).run Tryz.prog w = .ok (.tuple #[.nilIface,.bool false]) w := run_typeAssert_lacksB Tryz.underlying160 (by kernel_rfl) (by kernel_rfl) v xT w
theorem asR.noUnQ (v:Value) (xT:TypeId) (w:World):(Instr.typeAssert (.iface 181 v) xT 154 true).run Tryz.prog w = .ok (.tuple #[.nilIface,.bool false]) w := run_typeAssert_lacksB Tryz.underlying154 (by kernel_rfl) (by kernel_rfl) v xT w
theorem asR.noUsQ (v:Value) (xT:TypeId) (w:World):(Instr.typeAssert (.iface 181 v) xT 155 true).run Tryz.prog w = .ok (.tuple #[.nilIface,.bool false]) w := run_typeAssert_lacksB Tryz.underlying155 (by kernel_rfl) (by kernel_rfl) v xT w
set_option maxHeartbeats 4000000 in
theorem K8m (e t:Addr) (w:World) (hg:w.cell? ⟨1,0,none⟩=some (.iface 149 (.agg #[.pointer (some ⟨3,84,none⟩)]))) :
  Calls Tryz.prog 45 #[.iface 181 (.pointer (some e)),.iface 89 (.pointer (some t))] w fun ev w' => ev = .returned (.bool false)∧w' = ((w.alloc (.cells #[.pointer (some t)] 89)).alloc (.cells #[.pointer (some ⟨3,89,none⟩),.pointer (some ⟨w.heap.size,0,none⟩),.int .u64 150] 127)).alloc (.cells #[.pointer (some ⟨3,89,none⟩),.pointer (some ⟨w.heap.size,0,none⟩),.int .u64 150] 127) := by
 have h6 := @run_callFunc_extern Tryz.prog 82 _ (fun args=>ReflectliteValue.unpack (args.getD 0 (.tuple #[]))) Tryz.func82 (by kernel_rfl) (by kernel_rfl) (by kernel_rfl) (by kernel_rfl)
 have h7 := @run_callFunc_extern Tryz.prog 83 _ (ReflectliteValue.methodAny (ReflectliteValue.valueError "reflectlite.Value.Type" 0) (fun t _ _ _ => ReflectliteType.toType t)) Tryz.func83 (by kernel_rfl) (by kernel_rfl) (by kernel_rfl) (by kernel_rfl)
 have h8 := @run_callFunc_extern Tryz.prog 84 _ (ReflectliteValue.method (ReflectliteValue.valueError "reflectlite.Value.IsNil" 0) ReflectliteValue.isNil) Tryz.func84 (by kernel_rfl) (by kernel_rfl) (by kernel_rfl) (by kernel_rfl)
 have h27 := @run_callFunc_extern Tryz.prog 145 _ (ReflectliteType.abiMethod fun t=>do pure (.int .u8 (← Rtype.kind t))) Tryz.func145 (by kernel_rfl) (by kernel_rfl) (by kernel_rfl) (by kernel_rfl)
 have h37 := @run_callFunc_extern Tryz.prog 157 _ (ReflectliteType.method ReflectliteType.elem) Tryz.func157 (by kernel_rfl) (by kernel_rfl) (by kernel_rfl) (by kernel_rfl)
 have h38 := @run_callFunc_extern Tryz.prog 158 _ (ReflectliteType.relation "Implements" ReflectliteType.implements_) Tryz.func158 (by kernel_rfl) (by kernel_rfl) (by kernel_rfl) (by kernel_rfl)
 have h10 := @run_callFunc_extern Tryz.prog 80 _ ReflectliteType.typeOf Tryz.func80 (by kernel_rfl) (by kernel_rfl) (by kernel_rfl) (by kernel_rfl)
 have h35 := @run_callFunc_extern Tryz.prog 155 _ (ReflectliteType.relation "AssignableTo" ReflectliteType.assignableTo) Tryz.func155 (by kernel_rfl) (by kernel_rfl) (by kernel_rfl) (by kernel_rfl)
 have mA := as.methodAssignableTo
 have f6 := asR.valueOfPP
 have f7 := asR.typePP
 have mK := as.methodKind
 have mE := as.methodElem
 have mI := as.methodImplements
 have k27 := asR.kindPP
 have k25 := asR.kindP
 have e27 := asR.elemPP
 have i25 := asR.implementsP
 have n8 := asR.isNilPP ⟨w.heap.size,0,none⟩ t ((w.alloc (.cells #[.pointer (some t)] 89)).alloc (.cells #[.pointer (some ⟨3,89,none⟩),.pointer (some ⟨w.heap.size,0,none⟩),.int .u64 150] 127)) (by simp)
 have hlt:1<w.heap.size := World.block_lt_of_cell? w _ hg
 have hg2:((w.alloc (.cells #[.pointer (some t)] 89)).alloc (.cells #[.pointer (some ⟨3,89,none⟩),.pointer (some ⟨w.heap.size,0,none⟩),.int .u64 150] 127)).cell? ⟨1,0,none⟩=some (.iface 149 (.agg #[.pointer (some ⟨3,84,none⟩)])) := by
  rw [World.cell?_alloc_lt _ _ ⟨1,0,none⟩ (by simp <;> omega),World.cell?_alloc_lt _ _ ⟨1,0,none⟩ hlt]; exact hg
 have tO := asR.typeOfQ
 have a25 := asR.assignableQ
 have n1 := asR.noAsQ
 have n2 := asR.noUnQ
 have n3 := asR.noUsQ
 go_enter Tryz.func45,Tryz.ntmps45
 go_wp2
 refine wp_loop_rounds 1 ?_
 rw [rounds_succ]
 go_wp2
 go_ret
 exact ⟨rfl,rfl⟩
theorem is.size:(Tryz.prog.info? 203).map (·.size)=some 1 := by kernel_rfl
theorem is.typeOf (v:Value) (w:World):(ReflectliteType.typeOf #[.iface 181 v]).run Tryz.prog w = .ok (.iface 149 (.agg #[.pointer (some ⟨3,181,none⟩)])) w := by kernel_rfl
def is.cmp : Array Value → Sem Value := ReflectliteType.method fun t => do Rtype.noPackHeld "Comparable" t; pure (.bool (← typeInfo t).comparable)
theorem is.comparable (w:World):(is.cmp #[.agg #[.pointer (some ⟨3,181,none⟩)]]).run Tryz.prog w = .ok (.bool true) w := by kernel_rfl
theorem is.methodComparable (v : Value) (w : World) : (Go.method 315 149 v "Comparable").run Tryz.prog w = .ok (156, v) w := by kernel_rfl
theorem is.comp:(Tryz.prog.info? 181).map (·.comparable)=some true := by kernel_rfl
theorem is.noIsE (v:Value) (xT:TypeId) (w:World):(Instr.typeAssert (.iface 32 v) xT 151 true).run Tryz.prog w = .ok (.tuple #[.nilIface,.bool false]) w := run_typeAssert_lacksB Tryz.underlying151 (by kernel_rfl) (by kernel_rfl) v xT w
theorem is.noUnE (v:Value) (xT:TypeId) (w:World):(Instr.typeAssert (.iface 32 v) xT 154 true).run Tryz.prog w = .ok (.tuple #[.nilIface,.bool false]) w := run_typeAssert_lacksB Tryz.underlying154 (by kernel_rfl) (by kernel_rfl) v xT w
theorem is.noUsE (v:Value) (xT:TypeId) (w:World):(Instr.typeAssert (.iface 32 v) xT 155 true).run Tryz.prog w = .ok (.tuple #[.nilIface,.bool false]) w := run_typeAssert_lacksB Tryz.underlying155 (by kernel_rfl) (by kernel_rfl) v xT w
theorem is.noIsP (v:Value) (xT:TypeId) (w:World):(Instr.typeAssert (.iface 86 v) xT 151 true).run Tryz.prog w = .ok (.tuple #[.nilIface,.bool false]) w := run_typeAssert_lacksB Tryz.underlying151 (by kernel_rfl) (by kernel_rfl) v xT w
theorem is.hasUnP (v:Value) (xT:TypeId) (w:World):(Instr.typeAssert (.iface 86 v) xT 154 true).run Tryz.prog w = .ok (.tuple #[.iface 86 v,.bool true]) w := run_typeAssert_hasB Tryz.underlying154 (by kernel_rfl) v xT w
theorem is.methodUnwrap (v : Value) (w : World) : (Go.method 315 86 v "Unwrap").run Tryz.prog w = .ok (150, v) w := by kernel_rfl
set_option maxRecDepth 10000 in
theorem K8n (b:Addr) (w:World) :
  Calls Tryz.prog 44 #[.nilIface,.iface 181 (.pointer (some b))] w fun e w' => e = .returned (.bool false)∧w' = w := by
 have hn := run_eql_iface_nil_left (P := Tryz.prog) w 181 (.pointer (some b)) Tryz.underlying84
 go_enter Tryz.func44,Tryz.ntmps44
 go_wp2
 go_ret
 exact ⟨rfl,rfl⟩
set_option maxRecDepth 10000 in
theorem K8o (a:Addr) (w:World) :
  Calls Tryz.prog 44 #[.iface 181 (.pointer (some a)),.iface 181 (.pointer (some a))] w fun e w' => e = .returned (.bool true)∧w' = w := by
 obtain ⟨i,hi,hcmp⟩ := Option.map_eq_some_iff.1 is.comp
 obtain ⟨j,hj,hjs⟩ := Option.map_eq_some_iff.1 is.size
 have h8 := @run_callFunc_extern Tryz.prog 80 _ ReflectliteType.typeOf Tryz.func80 (by kernel_rfl) (by kernel_rfl) (by kernel_rfl) (by kernel_rfl)
 have h32 := @run_callFunc_extern Tryz.prog 156 _ is.cmp Tryz.func156 (by kernel_rfl) (by kernel_rfl) (by kernel_rfl) (by kernel_rfl)
 have tT := is.typeOf
 have cT := is.comparable
 have mR := is.methodComparable
 have heq := run_eql_iface_ptr_same (P := Tryz.prog) w a Tryz.underlying84 Tryz.underlying181 hi hcmp hj
 go_enter Tryz.func44,Tryz.ntmps44
 go_wp2
 refine wp_loop_rounds 1 ?_
 rw [rounds_succ]
 go_wp2
 go_ret
 exact ⟨rfl,rfl⟩
set_option maxHeartbeats 4000000 in
set_option maxRecDepth 10000 in
theorem K8p (pb po:Nat) (b:Addr) (z:Int) (w:World) (h1:w.cell? ⟨pb,po+1,none⟩=some (.int .i64 z)) :
  Calls Tryz.prog 44 #[.iface 86 (.pointer (some ⟨pb,po,none⟩)),.iface 181 (.pointer (some b))] w fun e w' => e = .returned (.bool false)∧w' = w := by
 have h8 := @run_callFunc_extern Tryz.prog 80 _ ReflectliteType.typeOf Tryz.func80 (by kernel_rfl) (by kernel_rfl) (by kernel_rfl) (by kernel_rfl)
 have h32 := @run_callFunc_extern Tryz.prog 156 _ is.cmp Tryz.func156 (by kernel_rfl) (by kernel_rfl) (by kernel_rfl) (by kernel_rfl)
 have tT := is.typeOf
 have cT := is.comparable
 have mR := is.methodComparable
 have n1 := is.noIsE
 have n2 := is.noUnE
 have n3 := is.noUsE
 have n4 := is.noIsP
 have n5 := is.hasUnP
 have mU := is.methodUnwrap
 have hty := run_eql_iface_types (P := Tryz.prog) 86 181 (.pointer (some ⟨pb,po,none⟩)) (.pointer (some b)) Tryz.underlying84 (by decide) w
 have hty2 := run_eql_iface_types (P := Tryz.prog) 32 181 (.int .i64 z) (.pointer (some b)) Tryz.underlying84 (by decide) w
 go_enter Tryz.func44,Tryz.ntmps44
 go_wp2
 refine wp_loop_rounds 2 ?_
 rw [rounds_succ]
 go_wp2
 rw [rounds_succ]
 go_wp2
 go_ret
 exact ⟨rfl,rfl⟩
end Go.Proofs.YtdkdhcakoccpfaaGreatDoor
