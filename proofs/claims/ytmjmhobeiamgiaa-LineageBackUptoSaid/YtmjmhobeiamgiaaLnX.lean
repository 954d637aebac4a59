/-
  Layer 17: what was parted is joined again: records.
-/
import Derived.Test.YtmjmhobeiamgiaaLnW
namespace Go.Proofs.Ytmjmhobeiamgiaa
open Go.RowKit
variable {fu:Nat}
def posOf:List Rd→ByteArray×List Int×Int×Int→Nat
  | [],_=>0
  | w :: c,v=>if w.2=v then 0 else posOf c v+1
theorem pos_at:∀ {c:List Rd},risL c → ∀ i (h:i<c.length),posOf c c[i].2=i
  | [],_,i,h=>absurd h (Nat.not_lt_zero _)
  | w :: c,hr,0,_=>by unfold posOf; exact if_pos rfl
  | w :: c,hr,i+1,h=>by
    obtain ⟨h1,h2⟩ := List.pairwise_cons.1 hr
    have hi:i<c.length := by simpa using h
    have ih := pos_at h2 i hi
    unfold posOf
    simp only [List.getElem_cons_succ]
    rw [if_neg (fun e => ?_),ih]
    have := h1 c[i] (List.getElem_mem hi) (by rw [e])
    rw [e] at this
    exact Int.lt_irrefl _ this
theorem pos_lt {c:List Rd} (hr:risL c) {x y:Rd} (hx:∃ w ∈ c,w.2=x.2) (hy:∃ w ∈ c,w.2=y.2) (hp:y.2.2.2.1=x.2.2.2.1) (hs:y.2.2.2.2<x.2.2.2.2):posOf c y.2<posOf c x.2 := by
  obtain ⟨w,hw,ew⟩ := hx
  obtain ⟨v,hv,ev⟩ := hy
  obtain ⟨i,hi,rfl⟩ := List.getElem_of_mem hw
  obtain ⟨j,hj,rfl⟩ := List.getElem_of_mem hv
  rw [← ew,← ev,pos_at hr i hi,pos_at hr j hj]
  rw [← ew,← ev] at hp hs
  rcases Nat.lt_trichotomy j i with h | h | h
  · exact h
  · subst h; exact absurd hs (Int.lt_irrefl _)
  · have hp' := List.pairwise_iff_getElem.1 hr i j hi hj h hp
    omega
theorem ahead_of {x:Rd} {l r:List Rd} (h:∀ z ∈ r,z.2.2.2.1=x.2.2.2.1→x.2.2.2.2≤z.2.2.2.2):ahead (x :: l) r=true := by
  unfold ahead
  refine List.all_eq_true.2 fun y hy => ?_
  obtain ⟨z,hz,rfl⟩ := List.mem_map.1 hy
  obtain ⟨h1,h2⟩ := List.mem_filter.1 hz
  exact decide_eq_true (h z h1 (beq_iff_eq.1 h2))
theorem ahead_no {x:Rd} {l r:List Rd} (h:ahead (x :: l) r=false):∃ z ∈ r,z.2.2.2.1=x.2.2.2.1∧z.2.2.2.2<x.2.2.2.2 := by
  refine Decidable.byContradiction fun hn => ?_
  rw [ahead_of fun z hz e => ?_] at h
  · cases h
  · exact Decidable.byContradiction fun hlt=>hn ⟨z,hz,e,by omega⟩
theorem jn_never {c:List Rd} (hr:risL c):∀ (k:Nat) (n:List Rd) (t u:List Int) (l r:List Rd),l.length+r.length=k→l.Pairwise (fun x y=>posOf c x.2<posOf c y.2)→r.Pairwise (fun x y=>posOf c x.2<posOf c y.2)→(∀ x ∈ l,∃ w ∈ c,w.2=x.2)→(∀ x ∈ r,∃ w ∈ c,w.2=x.2)→(jnS k n t u l r).2.2.2.1=0
  | 0,_,_,_,_,_,_,_,_,_,_=>rfl
  | k+1,n,t,u,l,r,hk,hl,hr',ml,mr=>by
    unfold jnS
    cases h1:ahead l r with
    | true =>
      obtain ⟨x,l,rfl⟩ := ahead_cons h1
      exact jn_never hr k _ _ _ l r (by simp only [List.length_cons] at hk; omega) (List.pairwise_cons.1 hl).2 hr' (fun y hy=>ml y (List.mem_cons_of_mem _ hy)) mr
    | false =>
      cases h2:ahead r l with
      | true =>
        obtain ⟨x,r,rfl⟩ := ahead_cons h2
        exact jn_never hr k _ _ _ l r (by simp only [List.length_cons] at hk; omega) hl (List.pairwise_cons.1 hr').2 ml fun y hy=>mr y (List.mem_cons_of_mem _ hy)
      | false =>
        exfalso
        cases l with
        | nil =>
          cases r with
          | nil=>simp at hk
          | cons y r=>rw [ahead_nil] at h2; cases h2
        | cons x l =>
          cases r with
          | nil=>rw [ahead_nil] at h1; cases h1
          | cons y r =>
            obtain ⟨z,hz,z1,z2⟩ := ahead_no h1
            obtain ⟨w,hw,w1,w2⟩ := ahead_no h2
            have a1 := pos_lt hr (ml x List.mem_cons_self) (mr z hz) z1 z2
            have a2 := pos_lt hr (mr y List.mem_cons_self) (ml w hw) w1 w2
            have a3:posOf c x.2≤posOf c w.2 := by
              rcases List.mem_cons.1 hw with e | e
              · rw [e]; exact Nat.le_refl _
              · exact Nat.le_of_lt ((List.pairwise_cons.1 hl).1 w e)
            have a4:posOf c y.2≤posOf c z.2 := by
              rcases List.mem_cons.1 hz with e | e
              · rw [e]; exact Nat.le_refl _
              · exact Nat.le_of_lt ((List.pairwise_cons.1 hr').1 z e)
            omega
theorem ren_pos {c:List Rd} (hr:risL c) (h:Rd→Bool) (k:Nat):(ren k (c.filter h)).Pairwise (fun x y=>posOf c x.2<posOf c y.2) := by
  have h1:c.Pairwise (fun x y=>posOf c x.2<posOf c y.2) := by
    rw [List.pairwise_iff_getElem]
    intro i j hi hj hij
    rw [pos_at hr i hi,pos_at hr j hj]
    exact hij
  have h2:(c.filter h).Pairwise (fun x y=>posOf c x.2<posOf c y.2) := h1.sublist List.filter_sublist
  have h3:((ren k (c.filter h)).map (·.2)).Pairwise (fun x y=>posOf c x<posOf c y) := by
    rw [ren_snd,List.pairwise_map]
    exact h2
  rw [List.pairwise_map] at h3
  exact h3
theorem ren_mem {c:List Rd} {h:Rd→Bool} {k:Nat} {x:Rd} (hx:x ∈ ren k (c.filter h)):∃ w ∈ c,h w=true∧w.2=x.2 := by
  have h1:x.2 ∈ (ren k (c.filter h)).map (·.2) := List.mem_map_of_mem hx
  rw [ren_snd] at h1
  obtain ⟨w,hw,e⟩ := List.mem_map.1 h1
  obtain ⟨h2,h3⟩ := List.mem_filter.1 hw
  exact ⟨w,h2,h3,e⟩
def blw (n l:List Rd):Prop := ∀ x ∈ n,∀ y ∈ l,y.2.2.2.1=x.2.2.2.1→x.2.2.2.2<y.2.2.2.2
theorem blw_snoc {n l:List Rd} {x:Rd} (h:blw n l) (hx:∀ y ∈ l,y.2.2.2.1=x.2.2.2.1→x.2.2.2.2<y.2.2.2.2):blw (n ++ [numR n x]) l := by
  intro z hz y hy
  rcases List.mem_append.1 hz with hz | hz
  · exact h z hz y hy
  · obtain rfl := List.mem_singleton.1 hz
    exact hx y hy
theorem ris_snoc {n l:List Rd} {x:Rd} (h:risL n) (hb:blw n (x :: l)):risL (n ++ [numR n x]) := by
  refine List.pairwise_append.2 ⟨h,List.pairwise_singleton _ _,fun a ha b hb' => ?_⟩
  obtain rfl := List.mem_singleton.1 hb'
  exact hb a ha x List.mem_cons_self
theorem blw_tail {n l:List Rd} {x:Rd} (h:blw n (x :: l)):blw n l := fun z hz y hy=>h z hz y (List.mem_cons_of_mem _ hy)
def apt (l r:List Rd):Prop := ∀ x ∈ l,∀ y ∈ r,x.2.2.2.1=y.2.2.2.1→x.2.2.2.2 ≠ y.2.2.2.2
theorem jn_ris:∀ (k:Nat) (n:List Rd) (t u:List Int) (l r:List Rd),l.length+r.length=k→risL n→risL l→risL r→blw n l→blw n r→apt l r→risL (jnS k n t u l r).1
  | 0,_,_,_,_,_,_,hn,_,_,_,_,_=>hn
  | k+1,n,t,u,l,r,hk,hn,hl,hr,bl,br,ha=>by
    unfold jnS
    cases h1:ahead l r with
    | true =>
      obtain ⟨x,l,rfl⟩ := ahead_cons h1
      obtain ⟨hx,hl'⟩ := List.pairwise_cons.1 hl
      exact jn_ris k _ _ _ l r (by simp only [List.length_cons] at hk; omega) (ris_snoc hn bl) hl' hr (blw_snoc (blw_tail bl) hx) (blw_snoc br fun y hy e=>by
        have := ahead_le h1 y hy e.symm
        have := ha x List.mem_cons_self y hy e.symm
        omega) fun a ha' b hb=>ha a (List.mem_cons_of_mem _ ha') b hb
    | false =>
      cases h2:ahead r l with
      | true =>
        obtain ⟨x,r,rfl⟩ := ahead_cons h2
        obtain ⟨hx,hr'⟩ := List.pairwise_cons.1 hr
        exact jn_ris k _ _ _ l r (by simp only [List.length_cons] at hk; omega) (ris_snoc hn br) hl hr' (blw_snoc bl fun y hy e=>by
          have := ahead_le h2 y hy e.symm
          have := ha y hy x List.mem_cons_self e
          omega) (blw_snoc (blw_tail br) hx) fun a ha' b hb=>ha a ha' b (List.mem_cons_of_mem _ hb)
      | false=>exact List.Pairwise.nil
theorem jn_left_only {q:Rd→Bool} (hq:Plc q):∀ (k:Nat) (n:List Rd) (t u:List Int) (l r:List Rd),l.length+r.length=k→(jnS k n t u l r).2.2.2.1=0→(∀ y ∈ r,q y=false) → ∃ rest,(jnS k n t u l r).1=n ++ rest∧(rest.filter q).map (·.2)=(l.filter q).map (·.2)
  | 0,n,t,u,l,r,hk,_,_=>by
    obtain rfl:l=[] := List.length_eq_zero_iff.1 (by omega)
    exact ⟨[],by simp [jnS],rfl⟩
  | k+1,n,t,u,l,r,hk,he,hr=>by
    unfold jnS at he ⊢
    cases h1:ahead l r with
    | true =>
      rw [h1] at he
      obtain ⟨x,l,rfl⟩ := ahead_cons h1
      simp only [cond_true] at he ⊢
      obtain ⟨rest,e1,e2⟩ := jn_left_only hq k _ _ _ l r (by simp only [List.length_cons] at hk; omega) he hr
      refine ⟨numR n x :: rest,by rw [e1]; simp,?_⟩
      have hx:q (numR n x)=q x := hq x _
      simp only [List.filter_cons,hx]
      cases q x <;> simp [e2]
      rfl
    | false =>
      rw [h1] at he
      simp only [cond_false] at he ⊢
      cases h2:ahead r l with
      | true =>
        rw [h2] at he
        obtain ⟨x,r,rfl⟩ := ahead_cons h2
        simp only [cond_true] at he ⊢
        obtain ⟨rest,e1,e2⟩ := jn_left_only hq k _ _ _ l r (by simp only [List.length_cons] at hk; omega) he fun y hy=>hr y (List.mem_cons_of_mem _ hy)
        refine ⟨numR n x :: rest,by rw [e1]; simp,?_⟩
        have hx:q (numR n x)=false := (hq x _).trans (hr x List.mem_cons_self)
        simp only [List.filter_cons,hx,Bool.false_eq_true,if_false]
        exact e2
      | false =>
        rw [h2] at he
        simp only [cond_false] at he
        exact absurd he (by decide)
theorem jn_right_only {q:Rd→Bool} (hq:Plc q):∀ (k:Nat) (n:List Rd) (t u:List Int) (l r:List Rd),l.length+r.length=k→(jnS k n t u l r).2.2.2.1=0→(∀ y ∈ l,q y=false) → ∃ rest,(jnS k n t u l r).1=n ++ rest∧(rest.filter q).map (·.2)=(r.filter q).map (·.2)
  | 0,n,t,u,l,r,hk,_,_=>by
    obtain rfl:r=[] := List.length_eq_zero_iff.1 (by omega)
    exact ⟨[],by simp [jnS],rfl⟩
  | k+1,n,t,u,l,r,hk,he,hr=>by
    unfold jnS at he ⊢
    cases h1:ahead l r with
    | true =>
      rw [h1] at he
      obtain ⟨x,l,rfl⟩ := ahead_cons h1
      simp only [cond_true] at he ⊢
      obtain ⟨rest,e1,e2⟩ := jn_right_only hq k _ _ _ l r (by simp only [List.length_cons] at hk; omega) he fun y hy=>hr y (List.mem_cons_of_mem _ hy)
      refine ⟨numR n x :: rest,by rw [e1]; simp,?_⟩
      have hx:q (numR n x)=false := (hq x _).trans (hr x List.mem_cons_self)
      simp only [List.filter_cons,hx,Bool.false_eq_true,if_false]
      exact e2
    | false =>
      rw [h1] at he
      simp only [cond_false] at he ⊢
      cases h2:ahead r l with
      | true =>
        rw [h2] at he
        obtain ⟨x,r,rfl⟩ := ahead_cons h2
        simp only [cond_true] at he ⊢
        obtain ⟨rest,e1,e2⟩ := jn_right_only hq k _ _ _ l r (by simp only [List.length_cons] at hk; omega) he hr
        refine ⟨numR n x :: rest,by rw [e1]; simp,?_⟩
        have hx:q (numR n x)=q x := hq x _
        simp only [List.filter_cons,hx]
        cases q x <;> simp [e2]
        rfl
      | false =>
        rw [h2] at he
        simp only [cond_false] at he
        exact absurd he (by decide)
end Go.Proofs.Ytmjmhobeiamgiaa
