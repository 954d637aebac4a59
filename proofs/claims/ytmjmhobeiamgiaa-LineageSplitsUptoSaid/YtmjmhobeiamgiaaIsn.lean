/-
  errors.Is at two numbers: closed facts, Go's own text walked, an entry.
-/
import Derived.Test.YtmjmhobeiamgiaaProg
import Derived.LaidEql
import Derived.Stop.Asserts
import Derived.RowKitTokens
import Derived.WalkKit
import Derived.Lib.IfaceEq
import Derived.Test.YtmjmhobeiamgiaaDaL
namespace Go.Proofs.Ytmjmhobeiamgiaa
open Go.RowKit Go.Extern.Stop Go.Stop Go.Extern
theorem isn.typeOf (v : Value) (w : World) : (ReflectliteType.typeOf #[.iface 31 v]).run Try.prog w = .ok (.iface 143 (.agg #[.pointer (some ⟨1, 31, none⟩)])) w := by kernel_rfl
def isn.cmp : Array Value → Sem Value := ReflectliteType.method fun t => do Rtype.noPackHeld "Comparable" t; pure (.bool (← typeInfo t).comparable)
theorem isn.comparable (w : World) : (isn.cmp #[.agg #[.pointer (some ⟨1, 31, none⟩)]]).run Try.prog w = .ok (.bool true) w := by kernel_rfl
theorem isn.methodComparable (v : Value) (w : World) : (Go.method 292 143 v "Comparable").run Try.prog w = .ok (133, v) w := by kernel_rfl
theorem isn.comp : (Try.prog.info? 31).map (·.comparable) = some true := by kernel_rfl
theorem isn.noIs (v : Value) (xT : TypeId) (w : World) : (Instr.typeAssert (.iface 31 v) xT 145 true).run Try.prog w = .ok (.tuple #[.nilIface, .bool false]) w := run_typeAssert_lacksB Try.underlying145 (by kernel_rfl) (by kernel_rfl) v xT w
theorem isn.noUn (v : Value) (xT : TypeId) (w : World) : (Instr.typeAssert (.iface 31 v) xT 148 true).run Try.prog w = .ok (.tuple #[.nilIface, .bool false]) w := run_typeAssert_lacksB Try.underlying148 (by kernel_rfl) (by kernel_rfl) v xT w
theorem isn.noUs (v : Value) (xT : TypeId) (w : World) : (Instr.typeAssert (.iface 31 v) xT 150 true).run Try.prog w = .ok (.tuple #[.nilIface, .bool false]) w := run_typeAssert_lacksB Try.underlying150 (by kernel_rfl) (by kernel_rfl) v xT w
set_option maxHeartbeats 4000000 in
set_option maxRecDepth 10000 in
theorem isn_walk (x y : Int) (w : World) :
    Calls Try.prog 36 #[.iface 31 (.int .i64 x), .iface 31 (.int .i64 y)] w fun e w' => e = .returned (.bool (x == y)) ∧ w' = w := by
  have h8 := @run_callFunc_extern Try.prog 76 _ ReflectliteType.typeOf Try.func76 (by kernel_rfl) (by kernel_rfl) (by kernel_rfl) (by kernel_rfl)
  have h32 := @run_callFunc_extern Try.prog 133 _ isn.cmp Try.func133 (by kernel_rfl) (by kernel_rfl) (by kernel_rfl) (by kernel_rfl)
  have tT := isn.typeOf
  have cT := isn.comparable
  have mR := isn.methodComparable
  have n1 := isn.noIs
  have n2 := isn.noUn
  have n3 := isn.noUs
  have heq := Go.Lib.run_eql_iface_int (P := Try.prog) (k := .i64) w x y Try.underlying121 isn.comp Try.underlying31
  cases hb : (x == y) with
  | true =>
    rw [hb] at heq
    go_enter Try.func36, Try.ntmps36
    go_wp2
    refine wp_loop_rounds 1 ?_
    rw [rounds_succ]
    go_wp2
    go_ret
    exact ⟨rfl, rfl⟩
  | false =>
    rw [hb] at heq
    go_enter Try.func36, Try.ntmps36
    go_wp2
    refine wp_loop_rounds 1 ?_
    rw [rounds_succ]
    go_wp2
    go_ret
    exact ⟨rfl, rfl⟩
theorem isn_enters : Enters Try.prog 36 := ⟨_, Try.func36, by kernel_rfl, by kernel_rfl⟩
theorem isn_args {vs : Array Value} (h : vs.size = 2) : vs = #[vs.getD 0 undef, vs.getD 1 undef] := by
  apply Array.ext
  · simpa using h
  · intro i hi1 hi2
    have hi : i < 2 := by omega
    rcases i with _ | _ | i
    · simp [Array.getD_eq_getD_getElem?, hi1]
    · simp [Array.getD_eq_getD_getElem?, hi1]
    · omega
theorem fcIsN (x y : Int) : FC Try.prog 36 [] [.ifc 31 (.im (.val (.int .i64 x))), .ifc 31 (.im (.val (.int .i64 y)))] ⟨[], [], .im (.val (.bool (x == y)))⟩ := by
  refine ⟨isn_enters, fun ok ρ w vs _ hgl h1 h2 h3 h4 h5 => ?_⟩
  obtain ⟨u, k0, rfl⟩ := h5 0 _ rfl
  obtain ⟨u1, k1, rfl⟩ := h5 1 _ rfl
  rw [isn_args h4, k0, k1]
  refine (isn_walk x y w).mono ?_
  rintro e w' ⟨rfl, rfl⟩
  exact ⟨ρ, _, rfl, rfl, rfl, fun k o hk => by simp [lol] at hk, fun k o g hk => by simp [lol] at hk, fun k k' o o' g hk => by simp [lol] at hk, Ext.refl, Nat.le_refl _, rfl, rfl, rfl⟩
def pIsN (_ : Nat) : Int × (Int × Unit) → Option (Unit × Bool) := fun x => some ((), x.1 == x.2.1)
def eIsN (fu : Nat) : Ent := ⟨36, .cons (.ifc 31 (.hole (.int .i64))) (.cons (.ifc 31 (.hole (.int .i64))) .nil), .nil, .hole .bool, pIsN fu⟩
theorem gIsN (fu : Nat) : (eIsN fu).Good Try.prog := by
  intro x y z hp
  obtain ⟨a, b, ⟨⟩⟩ := x
  have hq := Option.some.inj (show some ((), @BEq.beq Int _ a b) = some (y, z) from hp)
  obtain ⟨rfl, rfl⟩ := Prod.mk.inj hq
  exact fcIsN a b
end Go.Proofs.Ytmjmhobeiamgiaa
