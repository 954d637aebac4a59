/-
  Layer 15: two producers in one table.
-/
import Derived.Test.YtggbfmjcceblkaaPrG
namespace Go.Proofs.Ytggbfmjcceblkaa
open Go.RowKit
variable {fu : Nat}
def accB (o : Option Pr) (seq : Int) : Bool := seqB seq && (match o with | none => true | some x => decide (seq > x.2.1))
def stepP (id : Int) (o : Option Pr) (x : Nu) : Option Pr := if accB o x.2.1 = true then some (id, x.2.1, true, x.2.2) else o
def foldP (id : Int) (l : List Nu) : Option Pr := l.foldl (stepP id) none
def goodP (id : Int) (o : Option Pr) : Prop := ∀ y, o = some y → y.1 = id ∧ okP y = true
def tbl (o p : Option Pr) : List Pr := o.toList ++ p.toList
theorem step_good {id : Int} (h0 : id ≠ 0) {o : Option Pr} (h : goodP id o) (x : Nu) : goodP id (stepP id o x) := by
  intro y hy
  unfold stepP at hy
  split at hy
  · rename_i ha
    simp only [Option.some.injEq] at hy
    subst hy
    unfold accB at ha
    simp only [Bool.and_eq_true] at ha
    exact ⟨rfl, by unfold okP; simp [h0, ha.1]⟩
  · exact h y hy
theorem fold_good {id : Int} (h0 : id ≠ 0) (l : List Nu) : goodP id (foldP id l) := by
  unfold foldP
  have : ∀ (l : List Nu) (o : Option Pr), goodP id o → goodP id (l.foldl (stepP id) o) := by
    intro l
    induction l with
    | nil => intro o h; exact h
    | cons x l ih => intro o h; exact ih _ (step_good h0 h x)
  exact this l none (fun y hy => by cases hy)
theorem fold_snoc (id : Int) (l : List Nu) (x : Nu) : foldP id (l ++ [x]) = stepP id (foldP id l) x := by
  unfold foldP; rw [List.foldl_append]; rfl
section
variable {o p : Option Pr} (ho : goodP 5 o) (hp : goodP 9 p)
include ho hp
theorem tbl_tab : tabI (tbl o p) = true := by
  rw [tab_iff]
  unfold tbl
  cases o with
  | none => cases p with
    | none => exact ⟨(fun x hx => by cases hx), List.Pairwise.nil, by simp⟩
    | some z =>
      have := hp z rfl
      refine ⟨fun x hx => ?_, List.pairwise_singleton _ _, by simp⟩
      have e : x = z := by simpa using hx
      rw [e]; exact this.2
  | some y =>
    have hy := ho y rfl
    cases p with
    | none =>
      refine ⟨fun x hx => ?_, List.pairwise_singleton _ _, by simp⟩
      have e : x = y := by simpa using hx
      rw [e]; exact hy.2
    | some z =>
      have hz := hp z rfl
      refine ⟨fun x hx => ?_, ?_, by simp⟩
      · have : x = y ∨ x = z := by simpa using hx
        rcases this with rfl | rfl
        · exact hy.2
        · exact hz.2
      · show SP [y, z]
        unfold SP
        simp [hy.1, hz.1]
theorem find5 : find (tbl o p) 5 = o := by
  unfold tbl
  cases o with
  | none => cases p with
    | none => rfl
    | some z => have := hp z rfl; simp [find_cons, this.1]; rfl
  | some y => have := ho y rfl; simp [find_cons, this.1]
theorem find9 : find (tbl o p) 9 = p := by
  unfold tbl
  cases o with
  | none => cases p with
    | none => rfl
    | some z => have := hp z rfl; simp [find_cons, this.1]
  | some y =>
    have hy := ho y rfl
    cases p with
    | none => simp [find_cons, hy.1]; rfl
    | some z => have := hp z rfl; simp [find_cons, hy.1, this.1]
theorem ins5 (s : Int) (h : Bool) (f : Int) : ins (tbl o p) (5, s, h, f) = tbl (some (5, s, h, f)) p := by
  unfold tbl
  cases o with
  | none => cases p with
    | none => simp [ins_nil]
    | some z => have := hp z rfl; simp [ins_cons, this.1]
  | some y => have := ho y rfl; simp [ins_cons, this.1]
theorem ins9 (s : Int) (h : Bool) (f : Int) : ins (tbl o p) (9, s, h, f) = tbl o (some (9, s, h, f)) := by
  unfold tbl
  cases o with
  | none => cases p with
    | none => simp [ins_nil]
    | some z => have := hp z rfl; simp [ins_cons, this.1]
  | some y =>
    have hy := ho y rfl
    cases p with
    | none => simp [ins_cons, ins_nil, hy.1]
    | some z => have := hp z rfl; simp [ins_cons, hy.1, this.1]
end
theorem tbl_len (o p : Option Pr) : (tbl o p).length ≤ 2 := by unfold tbl; cases o <;> cases p <;> simp
theorem put_new {l : List Pr} {x : Pr} (ht : tabI l = true) (hj : (judge l x.1 x.2.1).1 = 1) (hl : (ins l x).length ≤ 256) : putS l x = (ins l x, 0) := by
  unfold putS
  have : ¬ (ins l x).length > 256 := by omega
  simp [ht, hj, this]
theorem put_old {l : List Pr} {x : Pr} (ht : tabI l = true) (hj : (judge l x.1 x.2.1).1 ≠ 1) : (putS l x).2 ≠ 0 := by
  unfold putS
  rcases judge_cases l x.1 x.2.1 with ⟨h, _⟩ | ⟨_, _, ⟨h, _⟩ | ⟨y, _, h, _⟩ | ⟨y, _, h, _⟩ | ⟨y, _, h⟩⟩
  · simp [ht, h]
  · exact absurd (congrArg Prod.fst h) hj
  · exact absurd (congrArg Prod.fst h) hj
  · simp [ht, h]
  · simp [ht, h]
theorem newB_acc {o : Option Pr} {id seq : Int} (h : id ≠ 0) : newB o id seq = accB o seq := by
  unfold newB accB
  have : (id == 0) = false := by simpa using h
  rw [this]; rfl
theorem put5 {o p : Option Pr} (ho : goodP 5 o) (hp : goodP 9 p) (s f : Int) :
    ((putS (tbl o p) (5, s, true, f)).2 = 0 ∧ (putS (tbl o p) (5, s, true, f)).1 = tbl (stepP 5 o (5, s, f)) p) ∨ ((putS (tbl o p) (5, s, true, f)).2 ≠ 0 ∧ stepP 5 o (5, s, f) = o) := by
  have ht := tbl_tab ho hp
  have hj := judge_new (tbl o p) 5 s
  rw [find5 ho hp, newB_acc (by decide)] at hj
  unfold stepP
  cases ha : accB o s with
  | true =>
    left
    rw [ha] at hj
    have hn := put_new (x := (5, s, true, f)) ht (by simpa using hj) (by rw [ins5 ho hp]; have := tbl_len (some (5, s, true, f)) p; omega)
    rw [hn, ins5 ho hp]
    exact ⟨rfl, by simp [ha]⟩
  | false =>
    right
    rw [ha] at hj
    exact ⟨put_old (x := (5, s, true, f)) ht (by simpa using hj), by simp [ha]⟩
theorem put9 {o p : Option Pr} (ho : goodP 5 o) (hp : goodP 9 p) (s f : Int) :
    ((putS (tbl o p) (9, s, true, f)).2 = 0 ∧ (putS (tbl o p) (9, s, true, f)).1 = tbl o (stepP 9 p (9, s, f))) ∨ ((putS (tbl o p) (9, s, true, f)).2 ≠ 0 ∧ stepP 9 p (9, s, f) = p) := by
  have ht := tbl_tab ho hp
  have hj := judge_new (tbl o p) 9 s
  rw [find9 ho hp, newB_acc (by decide)] at hj
  unfold stepP
  cases ha : accB p s with
  | true =>
    left
    rw [ha] at hj
    have hn := put_new (x := (9, s, true, f)) ht (by simpa using hj) (by rw [ins9 ho hp]; have := tbl_len o (some (9, s, true, f)); omega)
    rw [hn, ins9 ho hp]
    exact ⟨rfl, by simp [ha]⟩
  | false =>
    right
    rw [ha] at hj
    exact ⟨put_old (x := (9, s, true, f)) ht (by simpa using hj), by simp [ha]⟩
end Go.Proofs.Ytggbfmjcceblkaa
