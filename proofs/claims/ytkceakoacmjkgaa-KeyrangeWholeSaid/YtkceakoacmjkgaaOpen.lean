/-
  Arguments opened: a range by value, a list of keys, a list of ranges.
-/
import Derived.Test.YtkceakoacmjkgaaLaw
import Derived.Lib.SmallJoins
import Derived.SliceStrings
import Derived.Deep.Slices
import Derived.Deep.Fields
namespace Go.Proofs.Ytkceakoacmjkgaa
open Go.ChangeShapes Go.WideShapes Go.ChangeAt Go.RowKit Go.Joins
open Go.ChangeMaps (open_string)

theorem cellsRange : Try.prog.cellsOf 24 = 2 := by kernel_rfl
theorem cellsString : Try.prog.cellsOf 9 = 1 := by kernel_rfl

/-- Keys that a slice holds, below a block number. -/
def KeysAt (W : World) (B : Nat) (A : Option Addr) (n : Nat) (ks : Nat → ByteArray) : Prop :=
  ∀ i, i < n → ∃ b off, A = some ⟨b, off, none⟩ ∧ b < B ∧ W.cell? ⟨b, off + i, none⟩ = some (.string (ks i))

section
variable {H : Type} {enc : TypeId × Value → H} {W : World} {base b0 : Nat} {spare : Nat → Bool} {held : Bool}
theorem open_range {v : Value} {d : DataW H} {p : List MemPlace} (hv : Value.okWide Try.prog W .any b0 24 v) (h : DataW.Trod enc Try.prog W base spare held 24 v d p) :
    ∃ lo hi : ByteArray, v = .agg #[.string lo, .string hi] := by
  obtain ⟨c0, c1, y0, y1, m, rfl, _, _, hy0, hy1⟩ := open_agg2 Try.underlying24 (by kernel_rfl) cellsRange hv h
  obtain ⟨a, ea, _, _⟩ := DataW.trod_string Try.underlying9 hy0
  obtain ⟨b, eb, _, _⟩ := DataW.trod_string Try.underlying9 hy1
  simp at ea eb
  subst ea eb
  exact ⟨a, b, rfl⟩

theorem open_keys {v : Value} {d : DataW H} {p : List MemPlace} (hv : Value.okWide Try.prog W .any b0 38 v) (h : DataW.Trod enc Try.prog W base (fun _ => true) held 38 v d p) (hlt : ∀ x ∈ p, x.block < W.heap.size) :
    ∃ A n cap ks, v = .slice A n cap ∧ n ≤ 9223372036854775807 ∧ KeysAt W W.heap.size A n ks := by
  obtain ⟨a0, len, cap, rfl⟩ := okWide_slice Try.underlying38 hv
  obtain ⟨fuel, hf⟩ := h
  rcases open_strings Try.underlying38 Try.underlying9 cellsString hf with ⟨hcs, hx⟩ | ⟨a, len', cap', ss, hcs, _, hl, hm, hz, hx, hcell, _⟩
  · simp [Value.cells] at hcs
    obtain ⟨rfl, rfl, rfl⟩ := hcs
    exact ⟨none, 0, 0, fun _ => ⟨#[]⟩, rfl, by omega, fun i hi => absurd hi (by omega)⟩
  · simp [Value.cells] at hcs
    obtain ⟨rfl, rfl, rfl⟩ := hcs
    unfold maxLen at hm
    simp at hz
    refine ⟨some a, len, cap, fun i => ss.getD i ByteArray.empty, rfl, by omega, fun i hi => ?_⟩
    have hc := hcell i (by omega)
    obtain ⟨b, off, spot⟩ := a
    have hspot : spot = none := by simpa [Addr.add] using World.cell?_spot (hcell 0 (by omega))
    subst hspot
    refine ⟨b, off, rfl, ?_, by rw [← Go.WideShapes.add_plain]; exact hc⟩
    have := hlt (.cell b off) (by
      simp only [Prod.mk.injEq] at hx
      rw [hx.2]
      exact MemPlace.mem_row.2 ⟨0, by omega, by simp⟩)
    exact this
end
end Go.Proofs.Ytkceakoacmjkgaa
