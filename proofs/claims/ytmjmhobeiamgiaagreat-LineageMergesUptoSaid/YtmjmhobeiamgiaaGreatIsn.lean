/-
  errors.Is at two numbers: closed facts, Go's own text walked, an entry.
-/
import Derived.Test.YtmjmhobeiamgiaaGreatProg
import Derived.LaidEql
import Derived.Stop.Asserts
import Derived.RowKitTokens
import Derived.WalkKit
import Derived.Lib.IfaceEq
import Derived.Test.YtmjmhobeiamgiaaGreatDaL
namespace Go.Proofs.YtmjmhobeiamgiaaGreat
open Go.RowKit Go.Extern.Stop Go.Stop Go.Extern
theorem isn.typeOf (v:Value) (w:World):(ReflectliteType.typeOf #[.iface 33 v]).run Tryz.prog w = .ok (.iface 135 (.agg #[.pointer (some ⟨1,33,none⟩)])) w := by kernel_rfl
def isn.cmp : Array Value → Sem Value := ReflectliteType.method fun t => do Rtype.noPackHeld "Comparable" t; pure (.bool (← typeInfo t).comparable)
theorem isn.comparable (w:World):(isn.cmp #[.agg #[.pointer (some ⟨1,33,none⟩)]]).run Tryz.prog w = .ok (.bool true) w := by kernel_rfl
theorem isn.methodComparable (v : Value) (w : World) : (Go.method 286 135 v "Comparable").run Tryz.prog w = .ok (129, v) w := by kernel_rfl
theorem isn.comp:(Tryz.prog.info? 33).map (·.comparable)=some true := by kernel_rfl
theorem isn.noIs (v:Value) (xT:TypeId) (w:World):(Instr.typeAssert (.iface 33 v) xT 137 true).run Tryz.prog w = .ok (.tuple #[.nilIface,.bool false]) w := run_typeAssert_lacksB Tryz.underlying137 (by kernel_rfl) (by kernel_rfl) v xT w
theorem isn.noUn (v:Value) (xT:TypeId) (w:World):(Instr.typeAssert (.iface 33 v) xT 140 true).run Tryz.prog w = .ok (.tuple #[.nilIface,.bool false]) w := run_typeAssert_lacksB Tryz.underlying140 (by kernel_rfl) (by kernel_rfl) v xT w
theorem isn.noUs (v:Value) (xT:TypeId) (w:World):(Instr.typeAssert (.iface 33 v) xT 142 true).run Tryz.prog w = .ok (.tuple #[.nilIface,.bool false]) w := run_typeAssert_lacksB Tryz.underlying142 (by kernel_rfl) (by kernel_rfl) v xT w
set_option maxHeartbeats 4000000 in
set_option maxRecDepth 10000 in
theorem isn_walk (x y:Int) (w:World) :
  Calls Tryz.prog 25 #[.iface 33 (.int .i64 x),.iface 33 (.int .i64 y)] w fun e w' => e = .returned (.bool (x==y))∧w' = w := by
 have h8 := @run_callFunc_extern Tryz.prog 60 _ ReflectliteType.typeOf Tryz.func60 (by kernel_rfl) (by kernel_rfl) (by kernel_rfl) (by kernel_rfl)
 have h32 := @run_callFunc_extern Tryz.prog 129 _ isn.cmp Tryz.func129 (by kernel_rfl) (by kernel_rfl) (by kernel_rfl) (by kernel_rfl)
 have tT := isn.typeOf
 have cT := isn.comparable
 have mR := isn.methodComparable
 have n1 := isn.noIs
 have n2 := isn.noUn
 have n3 := isn.noUs
 have heq := Go.Lib.run_eql_iface_int (P := Tryz.prog) (k := .i64) w x y Tryz.underlying105 isn.comp Tryz.underlying33
 cases hb:(x==y) with
 | true =>
  rw [hb] at heq
  go_enter Tryz.func25,Tryz.ntmps25
  go_wp2
  refine wp_loop_rounds 1 ?_
  rw [rounds_succ]
  go_wp2
  go_ret
  exact ⟨rfl,rfl⟩
 | false =>
  rw [hb] at heq
  go_enter Tryz.func25,Tryz.ntmps25
  go_wp2
  refine wp_loop_rounds 1 ?_
  rw [rounds_succ]
  go_wp2
  go_ret
  exact ⟨rfl,rfl⟩
theorem isn_enters:Enters Tryz.prog 25 := ⟨_,Tryz.func25,by kernel_rfl,by kernel_rfl⟩
theorem isn_args {vs:Array Value} (h:vs.size=2):vs = #[vs.getD 0 undef,vs.getD 1 undef] := by
 apply Array.ext
 ·simpa using h
 ·intro i hi1 hi2
  have hi:i<2 := by omega
  rcases i with _ | _ | i
  ·simp [Array.getD_eq_getD_getElem?,hi1]
  ·simp [Array.getD_eq_getD_getElem?,hi1]
  ·omega
theorem fcIsN (x y:Int):FC Tryz.prog 25 [] [.ifc 33 (.im (.val (.int .i64 x))),.ifc 33 (.im (.val (.int .i64 y)))] ⟨[],[],.im (.val (.bool (x==y)))⟩ := by
 refine ⟨isn_enters,fun ok ρ w vs _ hgl h1 h2 h3 h4 h5 => ?_⟩
 obtain ⟨u,k0,rfl⟩ := h5 0 _ rfl
 obtain ⟨u1,k1,rfl⟩ := h5 1 _ rfl
 rw [isn_args h4,k0,k1]
 refine (isn_walk x y w).mono ?_
 rintro e w' ⟨rfl,rfl⟩
 exact ⟨ρ,_,rfl,rfl,rfl,fun k o hk=>by simp [lol] at hk,fun k o g hk=>by simp [lol] at hk,fun k k' o o' g hk=>by simp [lol] at hk,Ext.refl,Nat.le_refl _,rfl,rfl,rfl⟩
def pIsN (_:Nat):Int×(Int×Unit)→Option (Unit×Bool) := fun x=>some ((),x.1==x.2.1)
def eIsN (fu:Nat):Ent := ⟨25,.cons (.ifc 33 (.hole (.int .i64))) (.cons (.ifc 33 (.hole (.int .i64))) .nil),.nil,.hole .bool,pIsN fu⟩
theorem gIsN (fu:Nat):(eIsN fu).Good Tryz.prog := by
 intro x y z hp
 obtain ⟨a,b,⟨⟩⟩ := x
 have hq := Option.some.inj (show some ((),@BEq.beq Int _ a b)=some (y,z) from hp)
 obtain ⟨rfl,rfl⟩ := Prod.mk.inj hq
 exact fcIsN a b
end Go.Proofs.YtmjmhobeiamgiaaGreat
