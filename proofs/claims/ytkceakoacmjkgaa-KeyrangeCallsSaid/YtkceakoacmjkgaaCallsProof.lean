/-
  Proved here: KeyrangeCalls returns true for every pair of ranges and every key, and its arguments read afterwards as before. Conditions: none.
-/
import Derived.Test.YtkceakoacmjkgaaCalls
import Derived.Lib.SmallJoins
namespace Go.Proofs.Ytkceakoacmjkgaa
open Go.ChangeShapes Go.WideShapes Go.ChangeAt Go.RowKit Go.Joins
open Go.ChangeMaps (open_string)

theorem cellsRange : Try.prog.cellsOf 24 = 2 := by kernel_rfl

set_option maxRecDepth 100000 in
theorem calls_lifted (os : Os) (started : os.Started) (H : Type) (enc : TypeId × Value → H) :
    ReturnsInHanded {} Try.checked os 4 .any (Rows.keyrangeCallsSpec.pre6 enc Try.prog Try.f4 Rows.keyrangeCallsRow.domain false) (Rows.keyrangeCallsSpec.post enc Try.prog Try.f4 false true false false) := by
  refine returnsInHanded_of_change (C := Try.checked) own started (by kernel_rfl) Try.func4
    (ChangeSpec.witness6 (enc := enc) (C := Try.checked) false ⟨#[], #[.agg #[.string ⟨#[]⟩, .string ⟨#[]⟩], .agg #[.string ⟨#[]⟩, .string ⟨#[]⟩], .string ⟨#[]⟩], []⟩ 8 (by kernel_rfl) (by kernel_rfl) (by kernel_rfl) (by kernel_rfl)) ?_
  intro W base args ds gs before hval0 hW _ _
  have hval : ∀ (j : Nat) t v, Try.f4.params[j]? = some t → args[j]? = some v → Value.okWide Try.prog W .any base t v := hval0
  have hW' := hW
  obtain ⟨p, q, hA0, hV, rfl, _, _⟩ := hW
  have hA : DataW.TrodAll enc Try.prog W 0 (fun _ => true) true Try.f4.params.toList args.toList ds p := hA0
  rw [Try.params4] at hA hval
  obtain ⟨v0, v1, v2, d0, d1, d2, p0, p1, p2, rfl, rfl, rfl, h0, h1, h2⟩ := trodAll_three hA
  obtain ⟨c0, c1, y0, y1, m, rfl, _, _, hy0, hy1⟩ := open_agg2 Try.underlying24 (by kernel_rfl) cellsRange (hval 0 24 v0 rfl rfl) h0
  obtain ⟨a, ea, _, _⟩ := DataW.trod_string Try.underlying9 hy0
  obtain ⟨b, eb, _, _⟩ := DataW.trod_string Try.underlying9 hy1
  obtain ⟨c2, c3, y2, y3, m2, rfl, _, _, hy2, hy3⟩ := open_agg2 Try.underlying24 (by kernel_rfl) cellsRange (hval 1 24 v1 rfl rfl) h1
  obtain ⟨c, ec, _, _⟩ := DataW.trod_string Try.underlying9 hy2
  obtain ⟨d, ed, _, _⟩ := DataW.trod_string Try.underlying9 hy3
  obtain ⟨k, rfl, _, _, _⟩ := open_string Try.underlying9 (hval 2 9 v2 rfl rfl) h2
  simp at ea eb ec ed
  subst ea eb ec ed
  refine (calls_walk a b c d k W).mono fun e W' ⟨he, hb⟩ => ⟨_, he, ?_⟩
  exact post_true laidOut rfl rfl Try.underlying4 (of_decide_eq_true (by kernel_rfl)) (fun l hl => by match l, hl with | [_, _, _], _ => rfl) hW' hb

theorem keyrangeCalls_holds : Rows.KeyrangeCallsSaid :=
  OpenClaim.holds_of_wide 4 Try.f4 rfl rfl rfl rfl rfl rfl rfl ⟨rfl, rfl, rfl, rfl, rfl⟩ rfl rfl rfl rfl rfl (by kernel_rfl) Try.func4 (by kernel_rfl)
    (of_decide_eq_true (by kernel_rfl)) (by unfold Func.isWrapper; first | (rw [if_pos (by decide +kernel)]; kernel_rfl) | (rw [if_neg (by decide +kernel)]; exact ⟨rfl, rfl⟩))
    (fun os started H enc _ => calls_lifted os started H enc)
#print axioms keyrangeCalls_holds
end Go.Proofs.Ytkceakoacmjkgaa
