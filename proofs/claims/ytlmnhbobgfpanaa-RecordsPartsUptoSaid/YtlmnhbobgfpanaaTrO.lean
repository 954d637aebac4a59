/-
  Regions (2): walked in the text's order, they come to the same in every order.
-/
import Derived.Test.YtlmnhbobgfpanaaTrN
namespace Go.Proofs.Ytlmnhbobgfpanaa
open Go.RowKit

def Ef.hits (a b : Ef) : Bool := a.wr.any fun l => b.rd.contains l || b.wr.contains l || (decide (2 * b.fr + 1 ≤ l) && decide (l < 2 * b.fr + 32) && l % 2 == 1)
def Ef.confl (a b : Ef) : Bool := a.hits b || b.hits a

def reach (deps : List (List Nat)) : Nat → Nat → Nat → Bool
  | 0, _, _ => false
  | n + 1, i, j => (deps.getD j []).any fun d => d == i || reach deps n i d

def free (deps : List (List Nat)) (efs : List Ef) : Bool :=
  (List.range efs.length).all fun j => (List.range j).all fun i => match efs[i]?, efs[j]? with
    | some x, some y => !x.confl y || reach deps efs.length i j
    | _, _ => true

structure Reg (P : Program) (N : Nat) (ops : Array Oper) (ros : List RO) (deps : List (List Nat)) : Prop where
  len : ros.length = ops.size
  op : ∀ (i : Nat) (r : RO), ros[i]? = some r → ∃ o, ops[i]? = some o ∧ o.dst = r.dst ∧ comp1 P o = some r.op ∧ (∀ d, r.dst = some d → d < N) ∧
    (match o.guard, r.guard with
     | none, none => True
     | some (j, w), some (t, w') => w = w' ∧ (ops[j]?).bind (·.dst) = some t
     | _, _ => False)
  dlen : deps.length = ops.size
  dep : ∀ (i : Nat) (o : Oper), ops[i]? = some o → deps.getD i [] = (o.after.toList.filter (Region.binds .any)).map (·.on) ∧ ∀ d ∈ deps.getD i [], d < i

section
variable {P : Program} {E : Env} {ρ ρ' ρc : Pl} {O O' Oc : Ow} {σ σ' : St} {a : Act} {w w' : World} {o : Oper} {fr : Nat} {K : Act → World → Prop} {Q : Exit → Act → World → Prop} {b b' : Sees} {r : Nat → Nat}

theorem ups_frozen {us : List (Nat × Ob)} (h : Frozen O us) : ∀ p ∈ us, O p.1 ≠ none := fun p hp => by
  obtain ⟨zz, e, s, ver, n, f, h1, _⟩ := h p hp
  rw [h1]; simp

theorem ups_call {f : FuncId} {evs : List V} {c : CallInfo} (hc : CallW P O fr f evs c) : ∀ p ∈ c.ups O fr, O p.1 ≠ none ∨ (fr ≤ p.1 ∧ p.1 < fr + 16) := by
  obtain ⟨O2, p1, p2, hc⟩ := hc
  intro p hp
  unfold CallInfo.ups at hp
  rcases List.mem_append.1 hp with hp | hp
  · obtain ⟨q, hq, rfl⟩ := List.mem_map.1 hp
    obtain ⟨k, hk, hk2⟩ := List.getElem_of_mem hq
    simp only [List.length_zipIdx, List.length_append, hc.rl, hc.osl] at hk
    have hq2 : q.2 = k := by rw [← hk2]; simp
    simp only [hq2]
    by_cases h : k < c.ids.length
    · refine .inl ?_
      simp only [rn, if_pos h]
      have h1 : k < c.os.length := by rw [hc.osl]; exact h
      have hs := (hc.os k _ (List.getElem?_eq_getElem h1)).1
      obtain ⟨o', e1, _⟩ := (p1 _).to_some hs
      rw [e1]
      simp
    · refine .inr ?_
      simp only [rn, if_neg h]
      have := hc.small
      omega
  · split at hp
    · cases hp
    · obtain ⟨id, hid, rfl⟩ := List.mem_map.1 hp
      obtain ⟨h0, ⟨zz, e, s, ver, n, f, h⟩ | ⟨_, e, s, f, h⟩⟩ := hc.vw id hid <;> (rw [p2 id h0] at h; exact .inl (by rw [h]; simp))

theorem bnd_out {d : Nat} {y : Option Operand} {q : Nat → AM} {R : V → List (Nat × Ob) → Prop} (hk : (bnd σ d y q).wp P O fr fun _ b c => R b c) : ∃ m, (q m).wp P O fr fun _ b c => R b c := by
  unfold bnd at hk
  cases y with
  | none => exact ⟨d, hk⟩
  | some y =>
    simp only at hk
    split at hk
    · exact ⟨_, hk.2⟩
    · exact hk.1.elim
theorem src_out {sz : Nat} {u : V} {q : Nat → (Nat → Nat → T) → AM} {R : V → List (Nat × Ob) → Prop} (hk : (srcOf sz u q).wp P O fr fun _ b c => R b c) : ∃ m g, (q m g).wp P O fr fun _ b c => R b c := by
  unfold srcOf at hk
  split at hk
  · exact ⟨_, _, hk.2⟩
  · exact ⟨_, _, hk.2⟩
  · exact ⟨_, _, hk⟩
  · obtain ⟨ob, ho, hk⟩ := hk
    cases ob with
    | map => exact hk.1.elim
    | gone => exact hk.1.elim
    | var => exact hk.1.elim
    | arr => exact ⟨_, _, hk.2⟩
  · exact hk.1.elim

theorem ups_ok {ao : AOp} {rd : List Nat} {v : V} {ups : List (Nat × Ob)} (k : (asem σ fr ao).wp P σ.O fr fun a b c => a = rd ∧ b = v ∧ c = ups) : ∀ p ∈ ups, σ.O p.1 ≠ none ∨ (fr ≤ p.1 ∧ p.1 < fr + 16) := by
  have nil : ∀ p ∈ ([] : List (Nat × Ob)), σ.O p.1 ≠ none ∨ (fr ≤ p.1 ∧ p.1 < fr + 16) := fun p hp => by cases hp
  have one : ∀ o : Ob, ∀ p ∈ [(fr, o)], σ.O p.1 ≠ none ∨ (fr ≤ p.1 ∧ p.1 < fr + 16) := fun o p hp => by
    simp only [List.mem_singleton] at hp
    subst hp
    exact .inr ⟨Nat.le_refl _, by simp⟩
  have old : ∀ (id : Nat) (o o' : Ob), σ.O id = some o → ∀ p ∈ [(id, o')], σ.O p.1 ≠ none ∨ (fr ≤ p.1 ∧ p.1 < fr + 16) := fun id o o' ho p hp => by
    simp only [List.mem_singleton] at hp
    subst hp
    exact .inl (by rw [ho]; simp)
  cases ao with
  | bad => exact k.1.elim
  | mkmap t agg sz r => obtain ⟨-, -, -, rfl⟩ := k; exact one _
  | mlook kc ok agg sz z x i =>
    replace k := wp_drop k
    simp only [asem] at k
    split at k
    · obtain ⟨-, k⟩ := k
      split at k
      · obtain ⟨ob, ho, k⟩ := k
        cases ob with
        | map ag s n key f =>
          obtain ⟨-, k⟩ := k
          split at k <;> (obtain ⟨-, rfl⟩ := k; exact nil)
        | _ => exact k.1.elim
      · obtain ⟨-, rfl⟩ := k; exact nil
      · exact k.1.elim
    · exact k.1.elim
  | mset kc agg sz m i x =>
    replace k := wp_drop k
    simp only [asem] at k
    split at k
    · obtain ⟨-, k⟩ := k
      split at k
      · obtain ⟨ob, ho, k⟩ := k
        cases ob with
        | map ag s n key f =>
          obtain ⟨-, k⟩ := k
          obtain ⟨ts, us, g1, g2, g3, g4⟩ := frzL_wp (R := fun b c => b = v ∧ c = ups) k
          obtain ⟨-, -, rfl⟩ := g4
          intro p hp
          rcases List.mem_cons.1 hp with rfl | hp
          · exact .inl (by rw [ho]; simp)
          · exact .inl (ups_frozen g3 p hp)
        | _ => exact k.1.elim
      · exact k.1.elim
    · exact k.1.elim
  | ment kc agg sz z m i =>
    replace k := wp_drop k
    simp only [asem] at k
    split at k
    · obtain ⟨-, k⟩ := k
      split at k
      · obtain ⟨ob, ho, k⟩ := k
        cases ob with
        | map ag s n key f =>
          obtain ⟨-, k⟩ := k
          split at k <;> (obtain ⟨-, rfl⟩ := k; exact old _ _ _ ho)
        | _ => exact k.1.elim
      · exact k.1.elim
    · exact k.1.elim
  | mest agg sz m s x =>
    replace k := wp_drop k
    simp only [asem] at k
    split at k
    · obtain ⟨-, k⟩ := k
      split at k
      · obtain ⟨ob, ho, k⟩ := k
        cases ob with
        | map ag s n key f =>
          obtain ⟨-, k⟩ := k
          obtain ⟨ts, us, g1, g2, g3, g4⟩ := frzL_wp (R := fun b c => b = v ∧ c = ups) k
          obtain ⟨-, -, rfl⟩ := g4
          intro p hp
          rcases List.mem_cons.1 hp with rfl | hp
          · exact .inl (by rw [ho]; simp)
          · exact .inl (ups_frozen g3 p hp)
        | _ => exact k.1.elim
      · exact k.1.elim
    · exact k.1.elim
  | mlen x =>
    replace k := wp_drop k
    simp only [asem] at k
    split at k
    · obtain ⟨ob, ho, k⟩ := k
      cases ob with
      | map ag s n key f => obtain ⟨-, rfl⟩ := k; exact nil
      | _ => exact k.1.elim
    · obtain ⟨-, rfl⟩ := k; exact nil
    · exact k.1.elim
  | pure p xs =>
    simp only [asem] at k
    split at k
    · obtain ⟨-, -, -, rfl⟩ := k; exact nil
    · exact k.1.elim
  | s2b e x =>
    simp only [asem] at k
    split at k
    · obtain ⟨-, -, rfl⟩ := k; exact nil
    · exact k.1.elim
  | mov x => obtain ⟨-, -, rfl⟩ := k; exact nil
  | pick c x y =>
    simp only [asem] at k
    split at k
    · rename_i b _
      obtain ⟨k1, k2⟩ := k
      cases b with
      | true => obtain ⟨-, -, rfl⟩ := k1 rfl; exact nil
      | false => obtain ⟨-, -, rfl⟩ := k2 rfl; exact nil
    · exact k.1.elim
  | alloc e sz z => obtain ⟨-, -, rfl⟩ := k; exact one _
  | box e sz x => obtain ⟨-, -, -, rfl⟩ := k; exact one _
  | build sz z ps => obtain ⟨-, -, -, rfl⟩ := k; exact nil
  | cslice e len ps => obtain ⟨-, -, -, rfl⟩ := k; exact one _
  | bslice e sz len z ps =>
    replace k := wp_drop k
    simp only [asem] at k
    obtain ⟨-, k⟩ := k
    obtain ⟨ts, us, g1, g2, g3, g4⟩ := frzL_wp (R := fun b c => b = v ∧ c = ups) k
    obtain ⟨-, rfl⟩ := g4
    intro p hp
    rcases List.mem_cons.1 hp with rfl | hp
    · exact .inr ⟨Nat.le_refl _, by simp⟩
    · exact .inl (ups_frozen g3 p hp)
  | load g sz x =>
    simp only [asem] at k
    split at k
    · obtain ⟨ob, ho, k⟩ := k
      cases ob with
      | map => exact k.1.elim
      | gone => exact k.1.elim
      | var => obtain ⟨-, -, -, rfl⟩ := k; exact nil
      | arr => obtain ⟨-, -, -, rfl⟩ := k; exact nil
    · obtain ⟨-, -, -, rfl⟩ := k; exact nil
    · obtain ⟨-, k⟩ := k
      split at k
      · obtain ⟨-, -, rfl⟩ := k; exact nil
      · exact k.1.elim
    · exact k.1.elim
  | store sz y x =>
    replace k := wp_drop k
    simp only [asem] at k
    obtain ⟨-, k⟩ := k
    split at k
    · obtain ⟨ob, ho, k⟩ := k
      cases ob with
      | map => exact k.1.elim
      | gone => exact k.1.elim
      | var => obtain ⟨-, -, rfl⟩ := k; exact old _ _ _ ho
      | arr zz e0 s0 v0 n0 f0 =>
        cases zz with
        | app => exact k.1.elim
        | sh => exact k.1.elim
        | own =>
        obtain ⟨-, k⟩ := k
        obtain ⟨ts, us, g1, g2, g3, g4⟩ := frzL_wp (R := fun b c => b = v ∧ c = ups) k
        obtain ⟨-, -, rfl⟩ := g4
        intro p hp
        rcases List.mem_cons.1 hp with rfl | hp
        · exact .inl (by rw [ho]; simp)
        · exact .inl (ups_frozen g3 p hp)
    · exact k.1.elim
  | faddr off x =>
    simp only [asem] at k
    split at k <;> first | (obtain ⟨-, -, rfl⟩ := k; exact nil) | exact k.1.elim
  | iaddr sz x i =>
    simp only [asem] at k
    split at k
    · split at k
      · obtain ⟨ob, ho, k⟩ := k
        cases ob with
        | map => exact k.1.elim
        | gone => exact k.1.elim
        | var => exact k.1.elim
        | arr => obtain ⟨-, -, -, rfl⟩ := k; exact nil
      · obtain ⟨ob, ho, k⟩ := k
        cases ob with
        | map => exact k.1.elim
        | gone => exact k.1.elim
        | arr => exact k.1.elim
        | var => obtain ⟨-, -, -, rfl⟩ := k; exact nil
      · obtain ⟨-, -, -, rfl⟩ := k; exact nil
      · exact k.1.elim
    · exact k.1.elim
  | bin op x y =>
    simp only [asem] at k
    split at k <;> first | (obtain ⟨-, -, -, rfl⟩ := k; exact nil) | exact k.1.elim
  | beq n x y =>
    simp only [asem] at k
    split at k <;> first | (obtain ⟨-, -, rfl⟩ := k; exact nil) | exact k.1.elim
  | seq n ks x y =>
    simp only [asem] at k
    split at k
    · split at k <;> first | (obtain ⟨-, -, -, rfl⟩ := k; exact nil) | exact k.1.elim
    · exact k.1.elim
  | not x =>
    simp only [asem] at k
    split at k <;> first | (obtain ⟨-, -, rfl⟩ := k; exact nil) | exact k.1.elim
  | conv q x =>
    simp only [asem] at k
    split at k <;> first | (obtain ⟨-, -, rfl⟩ := k; exact nil) | exact k.1.elim
  | fld g off sz x =>
    simp only [asem] at k
    split at k <;> first | (obtain ⟨-, -, -, rfl⟩ := k; exact nil) | exact k.1.elim
  | slc sz x lo hi =>
    replace k := wp_drop k
    have hb : ∀ {d : Nat} {y : Option Operand} {q : Nat → AM} {R : V → List (Nat × Ob) → Prop}, (bnd σ d y q).wp P σ.O fr (fun _ b c => R b c) → ∃ m, (q m).wp P σ.O fr fun _ b c => R b c := by
      intro d y q R hk
      unfold bnd at hk
      cases y with
      | none => exact ⟨d, hk⟩
      | some y =>
        simp only at hk
        split at hk
        · exact ⟨_, hk.2⟩
        · exact hk.1.elim
    simp only [asem] at k
    split at k
    · obtain ⟨l, k⟩ := hb (R := fun b c => b = v ∧ c = ups) k
      obtain ⟨m, k⟩ := hb (R := fun b c => b = v ∧ c = ups) k
      obtain ⟨-, -, rfl⟩ := k; exact nil
    · obtain ⟨l, k⟩ := hb (R := fun b c => b = v ∧ c = ups) k
      obtain ⟨m, k⟩ := hb (R := fun b c => b = v ∧ c = ups) k
      obtain ⟨-, -, rfl⟩ := k; exact nil
    · obtain ⟨l, k⟩ := hb (R := fun b c => b = v ∧ c = ups) k
      obtain ⟨m, k⟩ := hb (R := fun b c => b = v ∧ c = ups) k
      obtain ⟨-, -, rfl⟩ := k; exact nil
    · obtain ⟨l, k⟩ := hb (R := fun b c => b = v ∧ c = ups) k
      obtain ⟨m, k⟩ := hb (R := fun b c => b = v ∧ c = ups) k
      obtain ⟨-, -, rfl⟩ := k; exact nil
    · obtain ⟨ob, ho, k⟩ := k
      cases ob with
      | map => exact k.1.elim
      | gone => exact k.1.elim
      | var => exact k.1.elim
      | arr =>
        obtain ⟨l, k⟩ := hb (R := fun b c => b = v ∧ c = ups) k
        obtain ⟨m, k⟩ := hb (R := fun b c => b = v ∧ c = ups) k
        obtain ⟨-, -, rfl⟩ := k; exact nil
    · exact k.1.elim
  | mm big x y =>
    simp only [asem] at k
    split at k <;> first | (obtain ⟨-, -, rfl⟩ := k; exact nil) | exact k.1.elim
  | b2s x =>
    replace k := wp_drop k
    simp only [asem] at k
    obtain ⟨m, g, k⟩ := src_out (R := fun b c => b = v ∧ c = ups) k
    obtain ⟨-, -, rfl⟩ := k
    exact nil
  | b2b x =>
    replace k := wp_drop k
    simp only [asem] at k
    split at k
    · obtain ⟨ob, ho, k⟩ := k
      cases ob with
      | map => exact k.1.elim
      | gone => exact k.1.elim
      | var => exact k.1.elim
      | arr zz e0 s0 v0 n0 f0 =>
        cases zz with
        | app => exact k.1.elim
        | sh => exact k.1.elim
        | own =>
          obtain ⟨-, -, rfl⟩ := k
          exact old _ _ _ ho
    · exact k.1.elim
  | appz e sz z by' s n =>
    replace k := wp_drop k
    simp only [asem] at k
    split at k
    · obtain ⟨-, -, rfl⟩ := k
      exact one _
    · exact k.1.elim
  | clr sz z x =>
    replace k := wp_drop k
    simp only [asem] at k
    split at k
    · obtain ⟨ob, ho, k⟩ := k
      cases ob with
      | map => exact k.1.elim
      | gone => exact k.1.elim
      | var => exact k.1.elim
      | arr zz e0 s0 v0 n0 f0 =>
        cases zz with
        | app => exact k.1.elim
        | sh => exact k.1.elim
        | own =>
        obtain ⟨-, -, rfl⟩ := k
        exact old _ _ _ ho
    · exact k.1.elim
  | copy sz d s =>
    replace k := wp_drop k
    simp only [asem] at k
    split at k
    · obtain ⟨ob, ho, k⟩ := k
      cases ob with
      | map => exact k.1.elim
      | gone => exact k.1.elim
      | var => exact k.1.elim
      | arr zz e0 s0 v0 n0 f0 =>
        cases zz with
        | app => exact k.1.elim
        | sh => exact k.1.elim
        | own =>
        obtain ⟨-, k⟩ := k
        obtain ⟨m, g, k⟩ := src_out (R := fun b c => b = v ∧ c = ups) k
        obtain ⟨-, rfl⟩ := k
        exact old _ _ _ ho
    · exact k.1.elim
  | slc3 sz x lo hi mx =>
    replace k := wp_drop k
    simp only [asem] at k
    split at k
    · obtain ⟨q, k⟩ := bnd_out (R := fun b c => b = v ∧ c = ups) k
      obtain ⟨m, k⟩ := bnd_out (R := fun b c => b = v ∧ c = ups) k
      obtain ⟨l, k⟩ := bnd_out (R := fun b c => b = v ∧ c = ups) k
      obtain ⟨-, -, rfl⟩ := k; exact nil
    · obtain ⟨ob, ho, k⟩ := k
      cases ob with
      | map => exact k.1.elim
      | gone => exact k.1.elim
      | var => exact k.1.elim
      | arr zz e0 s0 v0 n0 f0 =>
        cases zz with
        | own => exact k.1.elim
        | sh => exact k.1.elim
        | app =>
        obtain ⟨q, k⟩ := bnd_out (R := fun b c => b = v ∧ c = ups) k
        obtain ⟨m, k⟩ := bnd_out (R := fun b c => b = v ∧ c = ups) k
        obtain ⟨l, k⟩ := bnd_out (R := fun b c => b = v ∧ c = ups) k
        obtain ⟨-, -, rfl⟩ := k; exact nil
    · exact k.1.elim
  | make rm e sz z by' l c =>
    simp only [asem] at k
    split at k <;> first | (obtain ⟨-, -, -, rfl⟩ := k; exact one _) | exact k.1.elim
  | len s x =>
    simp only [asem] at k
    split at k <;> first | (obtain ⟨-, -, -, rfl⟩ := k; exact nil) | exact k.1.elim
  | apps e s x =>
    replace k := wp_drop k
    simp only [asem] at k
    split at k
    · split at k
      · obtain ⟨ob, ho, k⟩ := k
        cases ob with
        | map => exact k.1.elim
        | gone => exact k.1.elim
        | var => exact k.1.elim
        | arr =>
          obtain ⟨-, -, -, rfl⟩ := k
          exact old _ _ _ ho
      · obtain ⟨-, -, rfl⟩ := k
        exact one _
      · exact k.1.elim
    · exact k.1.elim
  | app e sz z by' s x =>
    replace k := wp_drop k
    have hs : ∀ {q : Nat → (Nat → Nat → T) → AM} {R : V → List (Nat × Ob) → Prop}, (srcOf sz (aev σ x) q).wp P σ.O fr (fun _ b c => R b c) → ∃ m g, (q m g).wp P σ.O fr fun _ b c => R b c := by
      intro q R hk
      unfold srcOf at hk
      split at hk
      · exact ⟨_, _, hk.2⟩
      · exact ⟨_, _, hk.2⟩
      · exact ⟨_, _, hk⟩
      · obtain ⟨ob, ho, hk⟩ := hk
        cases ob with
        | map => exact hk.1.elim
        | gone => exact hk.1.elim
        | var => exact hk.1.elim
        | arr => exact ⟨_, _, hk.2⟩
      · exact hk.1.elim
    simp only [asem] at k
    split at k
    · obtain ⟨ob, ho, k⟩ := k
      cases ob with
      | map => exact k.1.elim
      | gone => exact k.1.elim
      | var => exact k.1.elim
      | arr =>
        obtain ⟨-, k⟩ := k
        obtain ⟨m, g, k⟩ := hs (R := fun b c => b = v ∧ c = ups) k
        obtain ⟨-, -, rfl⟩ := k
        exact old _ _ _ ho
    · obtain ⟨m, g, k⟩ := hs (R := fun b c => b = v ∧ c = ups) k
      obtain ⟨-, -, rfl⟩ := k
      exact one _
    · exact k.1.elim
  | ext x i =>
    simp only [asem] at k
    split at k <;> first | (obtain ⟨-, -, -, rfl⟩ := k; exact nil) | exact k.1.elim
  | ifc t x => obtain ⟨-, -, rfl⟩ := k; exact nil
  | fn f fi ca => obtain ⟨-, -, rfl⟩ := k; exact nil
  | call f as =>
    obtain ⟨c, hc, -, -, rfl⟩ := k
    exact ups_call hc
  | callv f as =>
    simp only [asem] at k
    split at k
    · obtain ⟨c, hc, -, -, rfl⟩ := k
      exact ups_call hc
    · exact k.1.elim
end
end Go.Proofs.Ytlmnhbobgfpanaa
