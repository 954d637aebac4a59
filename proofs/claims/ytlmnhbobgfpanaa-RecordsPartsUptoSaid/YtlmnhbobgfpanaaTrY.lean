/-
  A law that a contract meets: whatever came in, true, and all that was there as it was.
-/
import Derived.Test.YtlmnhbobgfpanaaTrX
import Derived.Test.YtlmnhbobgfpanaaLaw
import Derived.WideShapes
namespace Go.Proofs.Ytlmnhbobgfpanaa
open Go.ChangeShapes Go.WideShapes Go.ChangeAt Go.RowKit

def GlW (W : World) : Prop := (∀ p ∈ gtab, ∀ (k : Nat) (v : Value), p.2[k]? = some v → W.cell? ⟨p.1, k, none⟩ = some v) ∧ ∀ p ∈ gptr, ∃ a, W.cell? ⟨p.1, 0, none⟩ = some (.iface p.2 (.pointer (some a)))
theorem GlW.glb {W : World} (h : GlW W) : Glb (fun _ b _ => b < W.heap.size) (fun _ => none) (lol []) W := by
  refine ⟨fun p hp k n hn => ⟨⟨World.block_lt_of_cell? W _ (h.1 p hp k n hn), fun ⟨id, o, ho, _⟩ => by simp [lol] at ho⟩, h.1 p hp k n hn⟩, fun p hp => ?_⟩
  obtain ⟨a, ha⟩ := h.2 p hp
  exact ⟨a, ⟨World.block_lt_of_cell? W _ ha, fun ⟨id, o, ho, _⟩ => by simp [lol] at ho⟩, ha⟩
theorem yes_of_fc {P : Program} {f : FuncId} {args : List V} (h : FC P f [] args ⟨[], [], .im (.val (.bool true))⟩) (W : World) (hgl : GlW W) (vs : Array Value) (hs : vs.size = args.length)
    (hv : ∀ (j : Nat) (v : V), args[j]? = some v → v.rel (fun _ b _ => b < W.heap.size) (fun _ => none) (lol []) W (vs.getD j undef)) : Calls P f vs W (Yes W) := by
  refine (h.2 (fun _ b _ => b < W.heap.size) (fun _ => none) W vs ⟨fun _ _ _ h => h, fun _ _ _ _ h => h⟩ hgl.glb (fun k o hk => by simp [lol] at hk) (fun k o g hk => by simp [lol] at hk) (fun k k' o o' g hk => by simp [lol] at hk) hs hv).mono ?_
  rintro e w' ⟨ρ', x, rfl, _, hx, _, _, _, hE, hz, h1, h2, h3⟩
  refine ⟨by cases hx; rfl, ⟨h1, h2, h3, hz, fun k hk => (hE.keep k hk ?_).1⟩⟩
  rintro ⟨id, o, ho, _⟩
  simp [lol] at ho

def Ty.arg : Ty → List T → V
  | .st f, ts => .agg f.size fun j => .im (ts.getD j (.val undef))
  | _, ts => .im (ts.getD 0 (.val undef))

def Ty.alls : List Ty → (List V → Prop) → Prop
  | [], K => K []
  | ty :: l, K => ty.all fun ts => Ty.alls l fun xs => K (ty.arg ts :: xs)

section
variable {H : Type} {enc : TypeId × Value → H} {P : Program} {W : World} {b0 : Nat}

theorem im_rel {b : Sees} {ρ : Pl} {O : Ow} (hO : ∀ k, O k = none) {t : T} {x : Value} (h : t.rel b W x) : (V.im t).rel b ρ O W x := by
  have : okb b ρ O = b := funext fun qc => funext fun g => funext fun q => propext ⟨fun h => h.1, fun h => ⟨h, fun ⟨id, o, ho, _⟩ => by rw [hO] at ho; cases ho⟩⟩
  show t.rel (okb b ρ O) W x
  rw [this]; exact h

theorem arg_rel {b : Sees} {ρ : Pl} {O : Ow} (hO : ∀ k, O k = none) {ty : Ty} {t : TypeId} {ts : List T} {v : Value} (hc : ty.chk P (.inl t) = true) (hv : Value.okWide P W .any b0 t v) (h : ty.has ts) (hr : Cells b W ts v.cells.toList) :
    (ty.arg ts).rel b ρ O W v := by
  have one : v.cells = #[v] → 0 < ts.length → (V.im (ts.getD 0 (.val undef))).rel b ρ O W v := fun e hl => by
    rw [e] at hr
    exact im_rel hO (hr.2 0 hl).2
  have hl := Ty.has_len h
  cases ty with
  | bool =>
    simp only [Ty.chk] at hc
    split at hc
    · rename_i hu
      obtain ⟨z, rfl⟩ := okWide_bool hu hv
      exact one rfl (by rw [hl]; exact Nat.one_pos)
    · cases hc
  | str =>
    simp only [Ty.chk] at hc
    split at hc
    · rename_i hu
      obtain ⟨z, rfl⟩ := okWide_string hu hv
      exact one rfl (by rw [hl]; exact Nat.one_pos)
    · cases hc
  | txt => exact absurd (show false = true from hc) Bool.false_ne_true
  | int k =>
    simp only [Ty.chk] at hc
    split at hc
    · rename_i k' hu
      obtain ⟨z, rfl⟩ := okWide_int hu hv
      exact one rfl (by rw [hl]; exact Nat.one_pos)
    · cases hc
  | sl n e =>
    simp only [Ty.chk] at hc
    split at hc
    · rename_i u hu
      obtain ⟨a, m, c, rfl⟩ := okWide_slice hu hv
      exact one rfl (by rw [hl]; exact Nat.one_pos)
    · cases hc
  | unit => cases (show false = true from hc)
  | pair a c => cases (show false = true from hc)
  | st f =>
    simp only [Ty.chk] at hc
    split at hc
    · rename_i fs hu
      obtain ⟨cs, rfl, hz⟩ := okWide_struct hu hv
      simp only [Bool.and_eq_true, beq_iff_eq] at hc
      have hl' : ts.length = f.size := hl
      refine ⟨cs, rfl, hz.trans hc.1, fun j hj => ?_⟩
      have := hr.2 j (by rw [hl']; exact hj)
      have e : (Value.agg cs).cells.toList.getD j undef = cs.getD j undef := by
        simp [Value.cells, List.getD_eq_getElem?_getD, Array.getD_eq_getD_getElem?]
      rw [e] at this
      exact ⟨this.1, im_rel hO this.2⟩
    · cases hc

end
end Go.Proofs.Ytlmnhbobgfpanaa
