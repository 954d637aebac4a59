/-
  Proved here: KeyrangeLists returns true for every list of ranges and every list of keys, and its arguments read afterwards as before. Conditions: none.
-/
import Derived.Test.YtkceakoacmjkgaaListsW
import Derived.Test.YtkceakoacmjkgaaOpenR
import Derived.Test.YtkceakoacmjkgaaOpen
namespace Go.Proofs.Ytkceakoacmjkgaa
open Go.ChangeShapes Go.WideShapes Go.ChangeAt Go.RowKit Go.Joins
open Go.ChangeMaps (open_string)

set_option maxRecDepth 100000 in
theorem lists_lifted (os : Os) (started : os.Started) (H : Type) (enc : TypeId × Value → H) :
    ReturnsInHanded {} Try.checked os 5 .any (Rows.keyrangeListsSpec.pre6 enc Try.prog Try.f5 Rows.keyrangeListsRow.domain false) (Rows.keyrangeListsSpec.post enc Try.prog Try.f5 false true false false) := by
  refine returnsInHanded_of_change_sized (C := Try.checked) own started (by kernel_rfl) Try.func5
    (ChangeSpec.witness6 (enc := enc) (C := Try.checked) false ⟨#[], #[.slice none 0 0, .slice none 0 0], []⟩ 8 (by kernel_rfl) (by kernel_rfl) (by kernel_rfl) (by kernel_rfl)) ?_
  intro W base args ds gs before hval0 hW _ hsz _
  have hval : ∀ (j : Nat) t v, Try.f5.params[j]? = some t → args[j]? = some v → Value.okWide Try.prog W .any base t v := hval0
  have hW' := hW
  have hlt : ∀ p ∈ before, p.block < W.heap.size := fun p hp => hW.lt p hp
  obtain ⟨p, q, hA0, hV, rfl, _, _⟩ := hW
  have hA : DataW.TrodAll enc Try.prog W 0 (fun _ => true) true Try.f5.params.toList args.toList ds p := hA0
  rw [Try.params5] at hA hval
  obtain ⟨v0, v1, d0, d1, p0, p1, rfl, rfl, rfl, h0, h1⟩ := trodAll_two hA
  obtain ⟨A, n, cap, rs, rfl, hn, hr, hd⟩ := open_ranges (hval 0 35 v0 rfl rfl) h0 (fun x hx => hlt x (by simp [hx]))
  obtain ⟨A2, m, cap2, ks, rfl, hm, hk⟩ := open_keys (hval 1 38 v1 rfl rfl) h1 (fun x hx => hlt x (by simp [hx]))
  have hb : n * 32 ≤ 140737488351232 := by
    rcases hd with rfl | ⟨elems, spare, rfl, rfl⟩
    · omega
    · have h := sized_slice hsz (j := 0) (t := 35) (e := 24) (elems := elems) (spare := spare) rfl rfl Try.underlying35
      have h2 : (elems.length + spare.length) * Try.prog.bytesOf 24 ≤ reachBytes := h
      rw [bytesRange] at h2
      have hr : reachBytes = 140737488351232 := by decide
      omega
  refine (lists_walk A n cap rs A2 m cap2 ks hb hm W hr hk).mono fun e W' ⟨he, hb⟩ => ⟨_, he, ?_⟩
  exact post_true laidOut rfl rfl Try.underlying4 (of_decide_eq_true (by kernel_rfl)) (fun l hl => by match l, hl with | [_, _], _ => rfl) hW' hb

theorem keyrangeLists_holds : Rows.KeyrangeListsSaid :=
  OpenClaim.holds_of_wide 5 Try.f5 rfl rfl rfl rfl rfl rfl rfl ⟨rfl, rfl, rfl, rfl, rfl⟩ rfl rfl rfl rfl rfl (by kernel_rfl) Try.func5 (by kernel_rfl)
    (of_decide_eq_true (by kernel_rfl)) (by unfold Func.isWrapper; first | (rw [if_pos (by decide +kernel)]; kernel_rfl) | (rw [if_neg (by decide +kernel)]; exact ⟨rfl, rfl⟩))
    (fun os started H enc _ => lists_lifted os started H enc)
#print axioms keyrangeLists_holds
end Go.Proofs.Ytkceakoacmjkgaa
