/-
  Layer 21: replies that are late; what came in.
-/
import Derived.Test.YtiiodikdbkpjjaaClB
namespace Go.Proofs.Ytiiodikdbkpjjaa
open Go.RowKit
variable {fu : Nat}
@[reducible] def admOf (a : D_api_PlaceCommand) : Adm := ⟨a.1, a.2.1, a.2.2.1, a.2.2.2.1, a.2.2.2.2.1, a.2.2.2.2.2.1, a.2.2.2.2.2.2.1, a.2.2.2.2.2.2.2.1, a.2.2.2.2.2.2.2.2.1, a.2.2.2.2.2.2.2.2.2.1, a.2.2.2.2.2.2.2.2.2.2.1, a.2.2.2.2.2.2.2.2.2.2.2⟩
@[reducible] def caOf (c : D_api_Call) : Ca := ⟨c.1, c.2.1, c.2.2.1, c.2.2.2.1, c.2.2.2.2.1, c.2.2.2.2.2.1, c.2.2.2.2.2.2.1, admOf c.2.2.2.2.2.2.2⟩
@[reducible] def repOf (r : D_api_Reply) : Rep := ⟨r.1, r.2.1, r.2.2.1, r.2.2.2.1.1, r.2.2.2.1.2.1, r.2.2.2.1.2.2.1, r.2.2.2.1.2.2.2, r.2.2.2.2.1, r.2.2.2.2.2.1, r.2.2.2.2.2.2.1, r.2.2.2.2.2.2.2.1, r.2.2.2.2.2.2.2.2⟩
def inOk (x : D_api_ClientInput) : Prop := (caOf x.2.1).ok ∧ (repOf x.2.2).ok ∧ x.2.1.2.1.size ≤ 140737488355328
theorem late_step (c : Cl) (x : Ca) (r : Rep) (h : ¬ r.id = c.number) : c.step 2 x r = ((c, Out.zero), 0) := by
  have h2 : ¬ ((2 : Int) = 1) := by decide
  unfold Cl.step Cl.replyS
  rw [if_neg h2, if_pos rfl]
  repeat' split
  all_goals first
    | rfl
    | exact absurd ‹_› h
theorem wrap_ne {a : Int} (h0 : 0 ≤ a) (h1 : a ≤ 18446744073709551615) : IntKind.wrap .u64 (a + 1) ≠ a := by
  by_cases h : a + 1 ≤ 18446744073709551615
  · rw [wrap_u64 (by omega) (by omega)]; omega
  · obtain rfl : a = 18446744073709551615 := by omega
    decide
/-- The reply with another number than the client's. -/
def Rep.other (r : Rep) (n : Int) : Rep := if r.id = n then { r with id := IntKind.wrap .u64 (r.id + 1) } else r
theorem Rep.other_ok {r : Rep} (h : r.ok) (n : Int) : (r.other n).ok := by
  unfold Rep.other
  split
  · exact h
  · exact h
theorem Rep.other_ne {r : Rep} {n : Int} (h0 : 0 ≤ r.id) (h1 : r.id ≤ 18446744073709551615) : ¬ (r.other n).id = n := by
  unfold Rep.other
  split
  · rename_i h; rw [← h]; exact wrap_ne h0 h1
  · rename_i h; exact h
theorem other_is {R : Type} (r : Rep) (n : Int) (k : Unit × (_ × Unit) → Option R) : orK (E := Unit × (_ × Unit)) (bif (r.id == n) then some (.inl ((), ({ r with id := IntKind.wrap .u64 (r.id + 1) } : Rep).fl (), ())) else some (.inl ((), r.fl (), ()))) k = k ((), (r.other n).fl (), ()) := by
  unfold Rep.other
  by_cases h : r.id = n
  · rw [if_pos h, condT (beqT h)]; rfl
  · rw [if_neg h, condF (beqF h)]; rfl
set_option maxRecDepth 100000 in
theorem p8_is (id : Int) (sv : List Int) (l : List D_api_ClientInput) (r : Rep) (hs : sv.length ≤ 1048576) (hl : l.length ≤ 1048576) (hx : ∀ x ∈ l, inOk x) (hr : r.ok) (h0 : 0 ≤ r.id) (h1 : r.id ≤ 18446744073709551615) (hf : 140737488355330 < fu) :
    p8 fu (id, sv, l, r.fl (), ()) = some ((), true) := by
  have hf' : 4194304 < fu := by omega
  have e10 := p10_is (fu := fu) id sv 9 hs hf'
  unfold p8
  cases hb : newB id sv 9 with
  | false =>
    rw [hb] at e10
    simp only [cond_false, Cl.fl] at e10
    simp only [p9_is hf, bind_val, e10, Bool.not_true, cond_false]
    rfl
  | true =>
    rw [hb] at e10
    have hc0 := Cl.new_ok id 9 hs (newB_pos hb)
    generalize Cl.new id sv 9 = c0 at e10 hc0
    simp only [cond_true, Cl.fl] at e10
    simp only [p9_is hf, bind_val, e10, Bool.not_true, bneF rfl, decide_true, cond_true, cond_false]
    refine loopO_eq (I := fun s => ∃ (i : Nat) (c : Cl), s = (((i : Int), ()), (c.fl (), ())) ∧ i ≤ l.length ∧ c.ok i) (m := fun s => l.length - s.1.1.toNat) (g := fun _ => ((), true)) ?_ fu _ ⟨0, c0, rfl, Nat.zero_le _, hc0⟩ (by simp; omega)
    rintro s ⟨i, c, rfl, hi, hc⟩
    by_cases hi' : i < l.length
    · left
      have hm : l.getD i (dflt T_api_ClientInput) ∈ l := by rw [getD_lt hi']; exact List.getElem_mem _
      generalize hxx : l.getD i (dflt T_api_ClientInput) = x at hm
      obtain ⟨k1, k2, k3⟩ := hx x hm
      have e1 := p16_is (fu := fu) (n := i) (by omega) c hc x.1 (caOf x.2.1) k1 (repOf x.2.2) k2 k3 hf
      have hc' := Cl.step_ok hc x.1 k1 k2
      generalize c.step x.1 (caOf x.2.1) (repOf x.2.2) = st at e1 hc'
      obtain ⟨⟨d, o⟩, e⟩ := st
      simp only at e1 hc'
      have e2 := p16_is (fu := fu) (n := i + 1) (by omega) d hc' 2 Ca.zero Ca.zero_ok (r.other d.number) (Rep.other_ok hr _) (by decide) hf
      rw [late_step d Ca.zero _ (Rep.other_ne h0 h1)] at e2
      have e3 := p12_is (fu := fu) (n := i + 1) (by omega) d ⟨hc'.top, hc'.ld, hc'.sv, hc'.ca⟩ hf'
      refine ⟨((((i + 1 : Nat) : Int), ()), (d.fl (), ())), ?_, ⟨i + 1, d, rfl, hi', hc'⟩, by simp only [Int.toNat_natCast]; omega, rfl⟩
      have ho := fun R => other_is (R := R) r d.number
      simp only [Cl.fl, inFl, Ca.zero, Adm.zero, Out.fl, Out.zero, Rep.fl] at e1 e2 e3 ho
      simp only [Cl.fl, Rep.fl, Int.ofNat_lt, hi', decide_true, cond_true, Int.natCast_nonneg, true_and, and_self, Int.toNat_natCast, hxx, e1, bind_val, ho, e2, bneF rfl, cond_false, e3, Bool.not_true, i64_succ hi' (show l.length ≤ 9223372036854775807 by omega)]
    · right
      obtain rfl : i = l.length := by omega
      simp only [Int.lt_irrefl, decide_false, cond_false, inrO_val]
end Go.Proofs.Ytiiodikdbkpjjaa
