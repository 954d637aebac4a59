/-
  States of which less is known, under other names: for loops that make new objects in each round.
-/
import Derived.Test.YtlmnhbobgfpanaaTrW
namespace Go.Proofs.Ytlmnhbobgfpanaa
open Go.RowKit

def rnm : List (Nat × Nat) → Nat → Nat
  | [], k => k
  | (a, b) :: l, k => if a = k then b else rnm l k

def keptR (l : List (Nat × Nat)) (O O' : Ow) (id : Nat) : Prop := rnm l id = id ∧ keptP O O' id
def obR (m : Nat) (l : List (Nat × Nat)) (O O' : Ow) (p : Nat × Ob) : Prop :=
  match O (rnm l p.1) with
  | some o => OW (rnm l) O O' o p.2
  | none => m ≤ p.1 ∧ match p.2 with
    | .arr _ _ _ _ n _ => n = 0
    | _ => False

def WeakR (m : Nat) (l : List (Nat × Nat)) (σ σ' : St) : Prop :=
  σ'.N = σ.N ∧ allLt m (keptR l σ.O σ'.O) ∧ (allP σ'.ob fun p => p.1 < σ'.next ∧ obR m l σ.O σ'.O p) ∧ (σ'.ob.map fun p => rnm l p.1).Nodup ∧ allP σ'.tm fun p => VW (rnm l) σ.O σ'.O (σ.get p.1) p.2

theorem inj_of_nodup {f : Nat → Nat} : ∀ {l : List (Nat × Ob)} {p q : Nat × Ob}, (l.map fun x => f x.1).Nodup → p ∈ l → q ∈ l → f p.1 = f q.1 → p = q
  | x :: l, p, q, h, hp, hq, e => by
    simp only [List.map_cons, List.nodup_cons] at h
    rcases List.mem_cons.1 hp with hp | hp
    · rcases List.mem_cons.1 hq with hq | hq
      · rw [hp, hq]
      · exact absurd (List.mem_map.2 ⟨q, hq, by rw [← e, hp]⟩) h.1
    · rcases List.mem_cons.1 hq with hq | hq
      · exact absurd (List.mem_map.2 ⟨p, hp, by rw [e, hq]⟩) h.1
      · exact inj_of_nodup h.2 hp hq e

theorem weakR_of {m : Nat} {l : List (Nat × Nat)} {σ σ' : St} (h : WeakR m l σ σ') : Weak m σ σ' := by
  obtain ⟨h1, h2, h3, h5, h4⟩ := h
  rw [allLt_iff] at h2
  rw [allP_iff] at h3 h4
  refine ⟨h1, fun E ρ a w hE hr => ?_⟩
  have hob : ∀ id o', σ'.O id = some o' → (∃ o, σ.O (rnm l id) = some o ∧ OW (rnm l) σ.O σ'.O o o') ∨ (σ.O (rnm l id) = none ∧ m ≤ id ∧ ∃ zz e s v f, o' = .arr zz e s v 0 f) := fun id o' ho => by
    obtain ⟨_, hp⟩ := h3 (id, o') (lo_in ho)
    unfold obR at hp
    split at hp
    · rename_i o e
      exact .inl ⟨o, e, hp⟩
    · rename_i e
      obtain ⟨hm, hp⟩ := hp
      cases o' with
      | arr zz' e' s v n f => exact .inr ⟨e, hm, zz', e', s, v, f, by simp only at hp; rw [hp]⟩
      | _ => exact hp.elim
  have nm : Named (rnm l) ρ σ.O (fun id => match σ.O (rnm l id) with | some _ => ρ (rnm l id) | none => none) σ'.O := fun id o' ho => by
    rcases hob id o' ho with ⟨o, e1, e2⟩ | ⟨e1, e2, e3⟩
    · exact .inl ⟨o, e1, e2.hd, by simp only [e1]⟩
    · exact .inr ⟨e1, by simp only [e1], e3⟩
  have ext : ExtE E (fun id => match σ.O (rnm l id) with | some _ => ρ (rnm l id) | none => none) σ'.O w := by
    refine ⟨fun g hg ho => ?_, fun g q hg ho => ?_, fun id o ho => ?_⟩
    · obtain ⟨k1, k2⟩ := hr.ext.keep g hg ho
      exact ⟨k1, fun k => k2 (nm.own k)⟩
    · obtain ⟨k1, k2⟩ := hr.ext.cell g q hg ho
      exact ⟨k1, fun k => k2 (nm.ownc k)⟩
    · have hid : id < m := by
        rcases Nat.lt_or_ge id m with hl | hl
        · exact hl
        · rw [hE id hl] at ho; cases ho
      obtain ⟨o1, e1, e2, e3⟩ := hr.ext.same id o ho
      obtain ⟨hk0, hk⟩ := h2 id hid
      unfold keptP at hk
      rw [e1] at hk
      split at hk
      · rename_i o2 o3 g1 g2
        cases g1
        refine ⟨o3, g2, by omega, fun hv => ?_⟩
        obtain ⟨f1, f2, f3⟩ := e3 (by omega)
        refine ⟨by simp only [hk0, e1]; exact f1, ?_, f3⟩
        rcases hob id o3 g2 with ⟨o4, q1, q2⟩ | ⟨q1, _⟩
        · rw [hk0, e1] at q1; cases q1
          have hh := q2.hd
          cases o <;> cases o1 <;> cases o3 <;> simp_all [Ob.fits, Ob.hd]
        · rw [hk0, e1] at q1; cases q1
      · cases ‹some o1 = none›
      · exact hk.elim
  refine ⟨_, ⟨fun t => ?_, hr.N.trans h1.symm, fun id o' ho => ?_, fun id o' g ho hl hg => ?_, fun id id' o1 o2 g k1 k2 l1 l2 p1 p2 => ?_, fun id hid => ?_, ext, hr.bs, hr.os, hr.tape, hr.output, hr.df, hr.gl.mono fun qc g q _ k => ⟨k.1, fun ho => k.2 (nm.ownc ho)⟩, hr.le⟩⟩
  · show (lk σ'.tm t).rel _ _ _ _ _
    rcases lk_in (l := σ'.tm) (k := t) with e | e
    · rw [e]; trivial
    · exact VW.rel (Env.mono hr.le) nm hr.ob (h4 _ e) (hr.tm t)
  · rcases hob id o' ho with ⟨o, e1, e2⟩ | ⟨e1, e2, zz, e, s, v, f, rfl⟩
    · simp only [e1]
      exact OW.rel (Env.mono hr.le) nm hr.ob e2 (hr.ob _ o e1)
    · simp only [e1]
      exact .inl ⟨rfl, rfl⟩
  · rcases hob id o' ho with ⟨o, e1, e2⟩ | ⟨e1, _⟩
    · simp only [e1] at hg
      exact hr.hi _ o g e1 (by rw [← Ob.hd_live e2.hd]; exact hl) hg
    · simp only [e1] at hg; cases hg
  · rcases hob id o1 k1 with ⟨q1, e1, e2⟩ | ⟨e1, _⟩
    · rcases hob id' o2 k2 with ⟨q2, f1, f2⟩ | ⟨f1, _⟩
      · simp only [e1] at p1
        simp only [f1] at p2
        have := hr.inj _ _ q1 q2 g e1 f1 (by rw [← Ob.hd_live e2.hd]; exact l1) (by rw [← Ob.hd_live f2.hd]; exact l2) p1 p2
        exact congrArg Prod.fst (inj_of_nodup h5 (lo_in k1) (lo_in k2) this)
      · simp only [f1] at p2; cases p2
    · simp only [e1] at p1; cases p1
  · cases hq : σ'.O id with
    | none => rfl
    | some o' =>
      have := (h3 (id, o') (lo_in hq)).1
      simp only at this
      omega

section
variable {P : Program} {m : Nat} {post : AX → St → Prop} {ks : List Kf} {σ : St}
end
end Go.Proofs.Ytlmnhbobgfpanaa
