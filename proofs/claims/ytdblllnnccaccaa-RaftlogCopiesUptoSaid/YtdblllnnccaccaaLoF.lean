/-
  Layer 6: what a merge leaves; entries that are merged again change nothing.
-/
import Derived.Test.YtdblllnnccaccaaLoE
namespace Go.Proofs.Ytdblllnnccaccaa
open Go.RowKit
variable {fu : Nat}
theorem termI_base (b t : Int) (l : List En) : termI b t l b = (t, true) := by simp [termI]
theorem placeI_at {b : Int} {l : List En} {k : Nat} (hk : k ≤ l.length) : placeI b l (b + 1 + (k : Int)) = k := by unfold placeI; omega
theorem termI_in {b t : Int} {l : List En} (hc : contig b l) {k : Nat} (hk : k < l.length) : termI b t l (b + 1 + (k : Int)) = ((l.getD k (dflt T_api_Entry)).2.1, true) := by
  unfold termI
  rw [if_neg (by omega), placeI_at (by omega), if_pos ⟨hk, hc k hk⟩]
theorem termI_ok {b t u i : Int} {l : List En} (hc : contig b l) (h : termI b t l i = (u, true)) : (i = b ∧ u = t) ∨ ∃ k, k < l.length ∧ i = b + 1 + (k : Int) ∧ u = (l.getD k (dflt T_api_Entry)).2.1 := by
  unfold termI at h
  split at h
  · rename_i e; cases h; exact .inl ⟨e, rfl⟩
  · split at h
    · rename_i e
      refine .inr ⟨_, e.1, ?_, ?_⟩
      · rw [← hc _ e.1]; exact e.2.symm
      · exact (congrArg Prod.fst h).symm
    · cases h
theorem known_held {b t commit : Int} {l : List En} {x : En} (h : known b t l x) : ¬ held b t l commit x := fun k => k.2.2 (by unfold known at h; rw [h])
/-- A log into which entries were merged. -/
structure Merged (b t : Int) (l : List En) (index term : Int) (m : List En) : Prop where
  contig : contig b l
  term : termI b t l index = (term, true)
  known : ∀ j, j < m.length → known b t l (m.getD j (dflt T_api_Entry))
theorem getD_app {α : Type} (a c : List α) (i : Nat) (d : α) : (a ++ c).getD i d = if i < a.length then a.getD i d else c.getD (i - a.length) d := by
  simp only [List.getD_eq_getElem?_getD, List.getElem?_append]
  split <;> rfl
theorem getD_take {α : Type} (l : List α) (k i : Nat) (d : α) (h : i < k) : (l.take k).getD i d = l.getD i d := by
  simp [List.getD_eq_getElem?_getD, List.getElem?_take, h]
theorem merged_app {b t index term : Int} {l m : List En} {k : Nat} (hc : contig b l) (hm : Fol index term m) (ht : termI b t l index = (term, true)) (hk : k < m.length) (hn : ∀ j, j < k → known b t l (m.getD j (dflt T_api_Entry))) :
    ∃ p : Nat, index = b + (p : Int) ∧ p + k ≤ l.length ∧ placeI b l (m.getD k (dflt T_api_Entry)).1 = p + k ∧ Merged b t (l.take (p + k) ++ m.drop k) index term m := by
  have hp : ∃ p : Nat, index = b + (p : Int) ∧ p ≤ l.length := by
    rcases termI_ok hc ht with ⟨e, _⟩ | ⟨q, q1, q2, _⟩
    · exact ⟨0, by omega, Nat.zero_le _⟩
    · exact ⟨q + 1, by omega, q1⟩
  obtain ⟨p, hp, hp'⟩ := hp
  have hmi := hm.contig
  have hpk : p + k ≤ l.length := by
    cases k with
    | zero => exact hp'
    | succ k =>
      have h1 := hn k (Nat.lt_succ_self k)
      have h2 := hmi k (by omega)
      unfold known at h1
      rcases termI_ok hc h1 with ⟨e, _⟩ | ⟨q, q1, q2, _⟩
      · omega
      · omega
  have hlen : (l.take (p + k) ++ m.drop k).length = p + m.length := by simp; omega
  have hlt : (l.take (p + k)).length = p + k := by simp; omega
  have hget : ∀ i, (l.take (p + k) ++ m.drop k).getD i (dflt T_api_Entry) = if i < p + k then l.getD i (dflt T_api_Entry) else m.getD (i - p) (dflt T_api_Entry) := fun i => by
    rw [getD_app, hlt]
    by_cases h : i < p + k
    · rw [if_pos h, if_pos h, getD_take _ _ _ _ h]
    · rw [if_neg h, if_neg h, getD_drop, show k + (i - (p + k)) = i - p by omega]
  have hc' : contig b (l.take (p + k) ++ m.drop k) := fun i hi => by
    rw [hlen] at hi
    rw [hget]
    by_cases h : i < p + k
    · rw [if_pos h]; exact hc i (by omega)
    · rw [if_neg h, hmi (i - p) (by omega)]; omega
  refine ⟨p, hp, hpk, ?_, hc', ?_, fun j hj => ?_⟩
  · rw [hmi k hk]
    have := placeI_at (b := b) hpk
    rw [← this]
    congr 1
    omega
  · rcases termI_ok hc ht with ⟨e, e2⟩ | ⟨q, q1, q2, q3⟩
    · rw [e, e2]; exact termI_base _ _ _
    · rw [q2, termI_in hc' (by rw [hlen]; omega), hget, if_pos (by omega), q3]
  · unfold known
    have h2 : (m.getD j (dflt T_api_Entry)).1 = b + 1 + ((p + j : Nat) : Int) := by rw [hmi j hj]; omega
    rw [h2, termI_in hc' (by rw [hlen]; omega), hget]
    by_cases h : j < k
    · rw [if_pos (by omega)]
      have h1 := hn j h
      unfold known at h1
      rw [h2, termI_in hc (by omega)] at h1
      exact h1
    · rw [if_neg (by omega), show p + j - p = j by omega]
/-- Whatever came of a merge that was right. -/
theorem merge_ok {b t commit index term : Int} {a2 a3 a4 : List Int} {l m : List En} {r : Lg × Int × List En × Int × Unit} {n n' : Nat} (hs : small n l) (hm : small n' m) (hc : contig b l) (h : MergeIs b t a2 a3 a4 l commit index term m r) (he : r.2.2.2.1 = 0) :
    ∃ l' cut came, r = ((b, t, a2, a3, a4, l', ()), cut, came, 0, ()) ∧ small (n + n') l' ∧ Merged b t l' index term m ∧ Fol index term m := by
  rcases h with ⟨_, e, h1, rfl⟩ | ⟨⟨h1, h2, _⟩, h4⟩
  · exact absurd he h1
  · rcases h4 with ⟨h4, rfl⟩ | ⟨k, k1, k2, k3, rfl⟩
    · exact ⟨l, 0, [], rfl, ⟨by have := hs.1; omega, hs.2⟩, ⟨hc, h2, h4⟩, h1⟩
    · obtain ⟨p, p1, p2, p3, p4⟩ := merged_app hc h1 h2 k1 k2
      rw [p3]
      exact ⟨_, _, _, rfl, small_app (small_take hs) (small_drop hm), p4, h1⟩
/-- Merged once more. -/
theorem merge_again {b t commit index term : Int} {a2 a3 a4 : List Int} {l m : List En} {r : Lg × Int × List En × Int × Unit} (hm : Merged b t l index term m) (hf : Fol index term m) (h : MergeIs b t a2 a3 a4 l commit index term m r) : r = ((b, t, a2, a3, a4, l, ()), 0, [], 0, ()) := by
  rcases h with ⟨h, _⟩ | ⟨_, h4⟩
  · exact absurd ⟨hf, hm.term, fun j hj => known_held (hm.known j hj)⟩ h
  · rcases h4 with ⟨_, rfl⟩ | ⟨k, k1, k2, k3, _⟩
    · rfl
    · exact absurd (hm.known k k1) k3
theorem p26_is (a0 a1 : Int) (a2 a3 a4 : List Int) (l : List En) (i t : Int) (hl : l.length ≤ 4611686018427387903) : ∃ r, p26 fu ((a0, a1, a2, a3, a4, l, ()), i, t, ()) = some ((), r) ∧
    (t < (if l = [] then (a0, a1, ()) else ((l.getD (l.length - 1) (dflt T_api_Entry)).1, (l.getD (l.length - 1) (dflt T_api_Entry)).2.1, ())).2.1 → r = false) := by
  unfold p26
  simp only [p22_is a0 a1 a2 a3 a4 l hl, bind_val]
  generalize (if l = [] then (a0, a1, ()) else ((l.getD (l.length - 1) (dflt T_api_Entry)).1, (l.getD (l.length - 1) (dflt T_api_Entry)).2.1, ())) = z
  by_cases h1 : t > z.2.1
  · simp only [h1, decide_true, cond_true]; exact ⟨_, rfl, fun h => by omega⟩
  · simp only [h1, decide_false, cond_false]
    by_cases h2 : t = z.2.1
    · exact ⟨_, by rw [h2]; simp only [beq_self_eq_true, cond_true]; rfl, fun h => by omega⟩
    · have : (t == z.2.1) = false := by simpa using h2
      simp only [this, cond_false]
      exact ⟨_, rfl, fun _ => rfl⟩
theorem p9_is (hf : 4194304 < fu) : p9 fu () = some ((), true) := by
  obtain ⟨l, hl⟩ : ∃ l : List En, l = [((3 : Int), (1 : Int), (2 : Int), [], [], []), ((4 : Int), (2 : Int), (2 : Int), [], [], [])] := ⟨_, rfl⟩
  have hc : contig 2 l := fun j hj => by
    subst hl
    match j, hj with
    | 0, _ => rfl
    | 1, _ => rfl
  have hlen : l.length = 2 := by subst hl; rfl
  have hs : small 2 l := ⟨by omega, fun x hx => by
    subst hl
    simp only [List.mem_cons, List.not_mem_nil, or_false] at hx
    rcases hx with rfl | rfl <;> exact ⟨by simp, by simp, by simp⟩⟩
  have hfol : Fol 2 1 l := ⟨by decide, by rw [hlen]; decide, fun j hj => by
    subst hl
    match j, hj with
    | 0, _ => exact ⟨rfl, by decide, rfl⟩
    | 1, _ => exact ⟨rfl, by decide, rfl⟩⟩
  have e25 : p25 fu () = some ((), (2, 1, [], [], [], l, ())) := by subst hl; rfl
  have e22 := p22_is (fu := fu) 2 1 [] [] [] l (by omega)
  have hne : l ≠ [] := by subst hl; simp
  have h4 : (l.getD (l.length - 1) (dflt T_api_Entry)).1 = 4 ∧ (l.getD (l.length - 1) (dflt T_api_Entry)).2.1 = 2 := by subst hl; exact ⟨rfl, rfl⟩
  rw [if_neg hne, h4.1, h4.2] at e22
  have e21 := p21_is (fu := fu) 2 1 [] [] [] l 2 hc (by omega) (by omega)
  rw [termI_base] at e21
  obtain ⟨r, e20, h20⟩ := p20_ex (fu := fu) 2 1 [] [] [] l (by decide) hs (by decide) (by omega)
  have hr := h20.2 hfol
  subst hr
  obtain ⟨r, e26, h26⟩ := p26_is (fu := fu) 2 1 [] [] [] l 9 1 (by omega)
  rw [if_neg hne, h4.1, h4.2] at h26
  have hr := h26 (by decide)
  subst hr
  simp only [p9, e25, e22, e21, e20, e26, bind_val, decide_true, cond_true, beq_self_eq_true]
theorem p7_is (b t : Int) (a2 a3 a4 : List Int) (l : List En) (commit index term : Int) (m : List En) (hb0 : 0 ≤ b) (hi0 : 0 ≤ index) (hb : smallB a2 a3 a4) (hs : small 1048576 l) (hm : small 1048576 m) (hf : 4194304 < fu) :
    p7 fu ((b, t, a2, a3, a4, l, commit, index, term, m, ()), ()) = some ((), true) := by
  unfold p7
  obtain ⟨r, e1, e2⟩ := p12_ex (fu := fu) b t a2 a3 a4 l hb0 hs (by decide) (by have := hs.1; omega)
  simp only [p9_is hf, e1, bind_val, Bool.not_true, cond_false]
  cases r with
  | false => rfl
  | true =>
    have hfol := e2 rfl
    obtain ⟨r, e3, e4⟩ := p19_ex (fu := fu) b t a2 a3 a4 l commit index term m hi0 hb hs hm (by decide) hfol.contig hf
    simp only [Bool.not_true, cond_false, e3, bind_val]
    by_cases he : r.2.2.2.1 = 0
    · obtain ⟨l', cut, came, rfl, h1, h2, h3⟩ := merge_ok hs hm hfol.contig e4 he
      obtain ⟨r, e5, e6⟩ := p19_ex (fu := fu) b t a2 a3 a4 l' commit index term m hi0 hb h1 hm (by decide) h2.contig hf
      have := merge_again h2 h3 e6
      subst this
      simp only [bne_self_eq_false, cond_false, decide_true, cond_true, e5, bind_val, beq_self_eq_true, List.length_nil, p16_refl b t a2 a3 a4 l' hb h1 (by decide) hf]
      rfl
    · have he' : (r.2.2.2.1 != (0 : Int)) = true := by simpa using he
      simp only [he', cond_true]
end Go.Proofs.Ytdblllnnccaccaa
