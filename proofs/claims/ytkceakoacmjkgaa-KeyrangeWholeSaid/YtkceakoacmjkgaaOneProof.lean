/-
  Proved here: KeyrangeWhole returns true for every list of ranges and every two keys, and its arguments read afterwards as before. Conditions: none.
-/
import Derived.Test.YtkceakoacmjkgaaOneW
import Derived.Test.YtkceakoacmjkgaaOpenR
import Derived.Test.YtkceakoacmjkgaaOpen
namespace Go.Proofs.Ytkceakoacmjkgaa
open Go.ChangeShapes Go.WideShapes Go.ChangeAt Go.RowKit Go.Joins
open Go.ChangeMaps (open_string)

set_option maxRecDepth 100000 in
theorem one_lifted (os : Os) (started : os.Started) (H : Type) (enc : TypeId × Value → H) :
    ReturnsInHanded {} Try.checked os 7 .any (Rows.keyrangeWholeSpec.pre6 enc Try.prog Try.f7 Rows.keyrangeWholeRow.domain false) (Rows.keyrangeWholeSpec.post enc Try.prog Try.f7 false true false false) := by
  refine returnsInHanded_of_change_sized (C := Try.checked) own started (by kernel_rfl) Try.func7
    (ChangeSpec.witness6 (enc := enc) (C := Try.checked) false ⟨#[], #[.slice none 0 0, .string ⟨#[]⟩, .string ⟨#[]⟩], []⟩ 8 (by kernel_rfl) (by kernel_rfl) (by kernel_rfl) (by kernel_rfl)) ?_
  intro W base args ds gs before hval0 hW _ hsz _
  have hval : ∀ (j : Nat) t v, Try.f7.params[j]? = some t → args[j]? = some v → Value.okWide Try.prog W .any base t v := hval0
  have hW' := hW
  have hlt : ∀ p ∈ before, p.block < W.heap.size := fun p hp => hW.lt p hp
  obtain ⟨p, q, hA0, hV, rfl, _, _⟩ := hW
  have hA : DataW.TrodAll enc Try.prog W 0 (fun _ => true) true Try.f7.params.toList args.toList ds p := hA0
  rw [Try.params7] at hA hval
  obtain ⟨v0, v1, v2, d0, d1, d2, p0, p1, p2, rfl, rfl, rfl, h0, h1, h2⟩ := trodAll_three hA
  obtain ⟨A, n, cap, rs, rfl, _, hcap, hr, hd⟩ := open_ranges (hval 0 35 v0 rfl rfl) h0 (fun x hx => hlt x (by simp [hx]))
  obtain ⟨key, rfl, _, _, _⟩ := open_string Try.underlying9 (hval 1 9 v1 rfl rfl) h1
  obtain ⟨k, rfl, _, _, _⟩ := open_string Try.underlying9 (hval 2 9 v2 rfl rfl) h2
  have hb : n * 32 ≤ 140737488351232 := by
    rcases hd with rfl | ⟨elems, spare, rfl, rfl⟩
    · omega
    · have h := sized_slice hsz (j := 0) (t := 35) (e := 24) (elems := elems) (spare := spare) rfl rfl Try.underlying35
      have h2 : (elems.length + spare.length) * Try.prog.bytesOf 24 ≤ reachBytes := h
      rw [bytesRange] at h2
      have hr : reachBytes = 140737488351232 := by decide
      omega
  refine (one_walk A n cap rs key k hb hcap W hr).mono fun e W' ⟨he, hb⟩ => ⟨_, he, ?_⟩
  exact post_true laidOut rfl rfl Try.underlying4 (of_decide_eq_true (by kernel_rfl)) (fun l hl => by match l, hl with | [_, _, _], _ => rfl) hW' hb

theorem keyrangeWhole_holds : Rows.KeyrangeWholeSaid :=
  OpenClaim.holds_of_wide 7 Try.f7 rfl rfl rfl rfl rfl rfl rfl ⟨rfl, rfl, rfl, rfl, rfl⟩ rfl rfl rfl rfl rfl (by kernel_rfl) Try.func7 (by kernel_rfl)
    (of_decide_eq_true (by kernel_rfl)) (by unfold Func.isWrapper; first | (rw [if_pos (by decide +kernel)]; kernel_rfl) | (rw [if_neg (by decide +kernel)]; exact ⟨rfl, rfl⟩))
    (fun os started H enc _ => one_lifted os started H enc)
#print axioms keyrangeWhole_holds
end Go.Proofs.Ytkceakoacmjkgaa
