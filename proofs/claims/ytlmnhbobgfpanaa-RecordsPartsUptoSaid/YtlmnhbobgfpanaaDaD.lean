/-
  Regions whose operations may be told less exactly. General; nothing of this program.
-/
import Derived.Test.YtlmnhbobgfpanaaDaC
namespace Go.Proofs.Ytlmnhbobgfpanaa
open Go.RowKit

section
variable {P : Program} {E : Env} {ρ : Pl} {σ σ' : St} {a : Act} {w : World}
theorem ULe.lo : ∀ {us us' : List (Nat × Ob)} (l : List (Nat × Ob)) (id : Nat), ULe us us' → PLe (lo (us ++ l) id) (lo (us' ++ l) id)
  | [], [], l, id, _ => PLe.refl _
  | p :: us, q :: us', l, id, ⟨h1, h2, h3⟩ => by
    obtain ⟨p1, p2⟩ := p
    obtain ⟨q1, q2⟩ := q
    simp only at h1
    subst h1
    simp only [List.cons_append, Go.Proofs.Ytlmnhbobgfpanaa.lo]
    split
    · exact h2
    · exact ULe.lo l id h3
  | [], _ :: _, _, _, h => h.elim
  | _ :: _, [], _, _, h => h.elim
theorem Rel.updLe {d : Option Nat} {v v' : V} {us us' : List (Nat × Ob)} (h : Rel E ρ (σ.upd d v us) a w) (hv : VLe v v') (hu : ULe us us') : Rel E ρ (σ.upd d v' us') a w :=
  h.less (fun t => by
    rw [upd_get, upd_get]
    split
    · exact hv
    · exact VLe.refl _) (fun id => ULe.lo _ _ hu) rfl rfl
theorem ULe.mem {us us' : List (Nat × Ob)} (h : ULe us us') : ∀ p ∈ us', ∃ q ∈ us, q.1 = p.1 := by
  induction us generalizing us' with
  | nil =>
    cases us' with
    | nil => intro p hp; cases hp
    | cons => exact h.elim
  | cons q us ih =>
    cases us' with
    | nil => exact h.elim
    | cons q' us' =>
      intro p hp
      rcases List.mem_cons.1 hp with rfl | hp
      · exact ⟨q, List.mem_cons_self .., h.1.symm⟩
      · obtain ⟨r, h1, h2⟩ := ih h.2.2 p hp
        exact ⟨r, List.mem_cons_of_mem _ h1, h2⟩
end

def StepW (P : Program) (σ : St) (fr : Nat) (r : RO) (rd : List Nat) (v : V) (ups : List (Nat × Ob)) : Prop :=
  ∃ v1 us1, (gsem σ fr r).wp P σ.O fr (fun a b c => a = rd ∧ b = v1 ∧ c = us1) ∧ VLe v1 v ∧ ULe us1 ups
def RunsW (P : Program) (base : Nat) : List RO → Nat → St → List Ef → St → Prop
  | [], _, σ, efs, σ' => efs = [] ∧ σ' = σ
  | r :: rs, i, σ, efs, σ' => ∃ rd v ups es, efs = ⟨base + 16 * i, r.rdT ++ rd.map (fun k => 2 * k + 1), r.dst, v, ups⟩ :: es ∧
      StepW P σ (base + 16 * i) r rd v ups ∧ RunsW P base rs (i + 1) (σ.upd r.dst v ups) es σ'

section
variable {P : Program} {E : Env} {ρ ρ' ρc : Pl} {O O' Oc : Ow} {σ σ' : St} {a : Act} {w w' : World} {o : Oper} {fr : Nat} {K : Act → World → Prop} {Q : Exit → Act → World → Prop} {b b' : Nat → Prop} {r : Nat → Nat}
variable {N : Nat} {ops : Array Oper} {ros : List RO} {deps : List (List Nat)} {base : Nat} {efs : List Ef}
theorem StepW.congr {ro : RO} {rd : List Nat} {v : V} {ups : List (Nat × Ob)} (h : StepW P σ fr ro rd v ups) (h1 : ∀ l ∈ ro.rdT, σ'.at' l = σ.at' l) (h2 : ∀ id ∈ rd, σ'.O id = σ.O id) : StepW P σ' fr ro rd v ups := by
  obtain ⟨v1, us1, k, e1, e2⟩ := h
  refine ⟨v1, us1, ?_, e1, e2⟩
  rw [gsem_congr h1]
  exact wp_local k h2
theorem one_okW (hR : Reg P N ops ros deps) {i : Nat} {ro : RO} (hr : ros[i]? = some ro) (h : Rel E ρ σ a w) (hN : σ.N = N) (hf : ∀ j, j < 16 → σ.O (fr + j) = none ∧ fr + j < σ.next) {rd v ups}
    (k : StepW P σ fr ro rd v ups) (hK : ∀ ρ' a' w', Rel E ρ' (σ.upd ro.dst v ups) a' w' → K a' w') : wpOp P ops Q i K a w := by
  obtain ⟨v1, us1, k, e1, e2⟩ := k
  exact one_ok hR hr h hN hf k fun ρ' a' w' hr' => hK ρ' a' w' (hr'.updLe e1 e2)
theorem gsem_upsW {ro : RO} {rd : List Nat} {v : V} {ups : List (Nat × Ob)} (k : StepW P σ fr ro rd v ups) : ∀ p ∈ ups, σ.O p.1 ≠ none ∨ (fr ≤ p.1 ∧ p.1 < fr + 16) := by
  obtain ⟨v1, us1, k, e1, e2⟩ := k
  intro p hp
  obtain ⟨q, h1, h2⟩ := e2.mem p hp
  rw [← h2]
  exact gsem_ups k q h1

theorem runs_atW : ∀ {rs : List RO} {i : Nat} {σ : St} {efs : List Ef} {σ' : St}, RunsW P base rs i σ efs σ' → efs.length = rs.length ∧
    ∀ (m : Nat) (r : RO) (e : Ef), rs[m]? = some r → efs[m]? = some e → ∃ rd, e.fr = base + 16 * (i + m) ∧ e.rd = r.rdT ++ rd.map (fun k => 2 * k + 1) ∧ e.dst = r.dst ∧
      StepW P (part' σ (efs.zipIdx i |>.map fun p => (p.2, p.1)) (fun q => decide (q < i + m))) (base + 16 * (i + m)) r rd e.v e.ups
  | [], _, _, _, _, ⟨rfl, rfl⟩ => ⟨rfl, fun m r e h => by simp at h⟩
  | r0 :: rs, i, σ, _, σ', ⟨rd, v, ups, es, rfl, h1, h2⟩ => by
    obtain ⟨g1, g2⟩ := runs_atW h2
    refine ⟨by simp [g1], fun m r e hr he => ?_⟩
    have stop : ∀ (es : List Ef) (s : Nat) (τ : St) (S : Nat → Bool), (∀ q, s ≤ q → S q = false) → part' τ (es.zipIdx s |>.map fun p => (p.2, p.1)) S = τ := fun es => by
      induction es with
      | nil => intros; rfl
      | cons e es ih =>
        intro s τ S hS
        simp only [List.zipIdx_cons, List.map_cons, part']
        rw [hS s (Nat.le_refl _)]
        exact ih (s + 1) τ S fun q hq => hS q (by omega)
    cases m with
    | zero =>
      simp only [List.getElem?_cons_zero, Option.some.injEq] at hr he
      subst hr he
      refine ⟨rd, rfl, rfl, rfl, ?_⟩
      rw [stop _ _ _ _ fun q hq => by simp; omega]
      exact h1
    | succ m =>
      simp only [List.getElem?_cons_succ] at hr he
      obtain ⟨rd', f1, f2, f3, f4⟩ := g2 m r e hr he
      refine ⟨rd', by rw [f1]; omega, f2, f3, ?_⟩
      simp only [List.zipIdx_cons, List.map_cons, part']
      rw [if_pos (by simp), show i + (m + 1) = i + 1 + m by omega]
      exact f4

theorem runs_endW : ∀ {rs : List RO} {i : Nat} {σ : St} {efs : List Ef} {σ' : St}, RunsW P base rs i σ efs σ' → σ' = part' σ (efs.zipIdx i |>.map fun p => (p.2, p.1)) (fun _ => true)
  | [], _, _, _, _, ⟨rfl, rfl⟩ => rfl
  | r0 :: rs, i, σ, _, σ', ⟨rd, v, ups, es, rfl, h1, h2⟩ => by
    rw [runs_endW h2]
    rfl

theorem runs_freshW : ∀ {rs : List RO} {i : Nat} {σ : St} {efs : List Ef} {σ' : St}, RunsW P base rs i σ efs σ' → (∀ id, base + 16 * i ≤ id → σ.O id = none) →
    ∀ (m : Nat), m ≤ rs.length → ∀ id, base + 16 * (i + m) ≤ id → (part' σ (efs.zipIdx i |>.map fun p => (p.2, p.1)) (fun q => decide (q < i + m))).O id = none
  | [], i, σ, _, _, ⟨rfl, rfl⟩, h, m, _, id, hid => h id (by omega)
  | r0 :: rs, i, σ, _, σ', ⟨rd, v, ups, es, rfl, h1, h2⟩, h, m, hm, id, hid => by
    cases m with
    | zero =>
      have stop : ∀ (es : List Ef) (s : Nat) (τ : St) (S : Nat → Bool), (∀ q, s ≤ q → S q = false) → part' τ (es.zipIdx s |>.map fun p => (p.2, p.1)) S = τ := fun es => by
        induction es with
        | nil => intros; rfl
        | cons e es ih =>
          intro s τ S hS
          simp only [List.zipIdx_cons, List.map_cons, part']
          rw [hS s (Nat.le_refl _)]
          exact ih (s + 1) τ S fun q hq => hS q (by omega)
      rw [stop _ _ _ _ fun q hq => by simp; omega]
      exact h id (by omega)
    | succ m =>
      have hu := gsem_upsW h1
      have := runs_freshW h2 (fun id hid => by
        rw [upd_O, lo_none, Option.none_or]
        · exact h id (by omega)
        · rintro p hp rfl
          rcases hu p hp with h3 | h3
          · exact h3 (h p.1 (by omega))
          · omega) m (by simpa using hm) id (by omega)
      simp only [List.zipIdx_cons, List.map_cons, part']
      rw [if_pos (by simp), show i + (m + 1) = i + 1 + m by omega]
      exact this

theorem step_okW (hR : Reg P N ops ros deps) {σ0 : St} (hruns : RunsW P base ros 0 σ0 efs σ') (hN : σ0.N = N) (hf0 : ∀ id, base ≤ id → σ0.O id = none) (hnx : base + 16 * ros.length ≤ σ0.next) {S : Nat → Bool} {i : Nat} (hi : i < ros.length) (hS : S i = false) (hc : Clear efs S i)
    (h : Rel E ρ (part' σ0 (zl efs 0) S) a w) (hK : ∀ ρ' a' w', Rel E ρ' (part' σ0 (zl efs 0) fun k => S k || k == i) a' w' → K a' w') : wpOp P ops Q i K a w := by
  obtain ⟨hlen, hat⟩ := runs_atW hruns
  have hr : ros[i]? = some ros[i] := List.getElem?_eq_getElem hi
  have he : efs[i]? = some efs[i] := List.getElem?_eq_getElem (by omega)
  generalize ros[i] = ro at hr
  generalize efs[i]'(by omega) = e at he
  obtain ⟨rd, f1, f2, f3, f4⟩ := hat i ro e hr he
  simp only [Nat.zero_add] at f1 f4
  obtain ⟨n1, n2⟩ := part_next (es := zl efs 0) (σ := σ0) (S := S)
  -- at what it reads, and where it makes, all is as it was in the text's order
  have same : ∀ l, (l ∈ e.rd ∨ (2 * e.fr + 1 ≤ l ∧ l < 2 * e.fr + 32 ∧ l % 2 = 1)) → (part' σ0 (zl efs 0) S).at' l = (part' σ0 (zl efs 0) fun q => decide (q < i)).at' l := fun l hl => by
    refine part_congr rfl fun p hp hw => ?_
    obtain ⟨h1, h2⟩ := zl_mem hp
    rw [Nat.sub_zero] at h2
    by_cases hpi : p.1 = i
    · rw [hpi, hS]; simp
    · have key : ∀ b, S p.1 = b → (p.1 < i ∧ b = false) ∨ (i < p.1 ∧ b = true) → False := fun b hb hh => by
        obtain ⟨g1, g2⟩ := hc p.1 p.2 e h2 he (by rw [hb]; exact hh)
        obtain ⟨q1, q2, q3⟩ := mem_hits g1 hw
        rcases hl with hl | hl
        · exact q1 hl
        · exact q3 hl
      cases hb : S p.1 with
      | false =>
        have : ¬ p.1 < i := fun hlt => key false hb (.inl ⟨hlt, rfl⟩)
        simp [this]
      | true =>
        have : ¬ i < p.1 := fun hlt => key true hb (.inr ⟨hlt, rfl⟩)
        simp; omega
  have hk : StepW P (part' σ0 (zl efs 0) S) (base + 16 * i) ro rd e.v e.ups :=
    f4.congr (fun l hl => same l (.inl (by rw [f2]; exact List.mem_append_left _ hl))) fun id hid => by
      have := same (2 * id + 1) (.inl (by rw [f2]; exact List.mem_append_right _ (List.mem_map_of_mem (f := fun k => 2 * k + 1) hid)))
      rw [at_obj, at_obj] at this
      exact congrArg Prod.snd this
  have hfr : ∀ j, j < 16 → (part' σ0 (zl efs 0) S).O (base + 16 * i + j) = none ∧ base + 16 * i + j < (part' σ0 (zl efs 0) S).next := fun j hj => by
    refine ⟨?_, by rw [n1]; omega⟩
    have h1 := same (2 * (base + 16 * i + j) + 1) (.inr ⟨by omega, by omega, by omega⟩)
    rw [at_obj, at_obj] at h1
    have h2 := congrArg Prod.snd h1
    simp only at h2
    rw [h2]
    have := runs_freshW hruns (fun id hid => hf0 id (by omega)) i (by omega) (base + 16 * i + j) (by omega)
    simp only [Nat.zero_add] at this
    exact this
  refine one_okW hR hr h (by rw [n2]; exact hN) hfr hk fun ρ' a' w' hr' => hK ρ' a' w' ?_
  rw [← f3] at hr'
  have hall : ∀ l, (part' σ0 (zl efs 0) fun k => S k || k == i).at' l = ((part' σ0 (zl efs 0) S).upd e.dst e.v e.ups).at' l := fun l => by
    by_cases hl : l ∈ e.wr
    · refine part_last (Nat.zero_le _) (by simpa using he) (by simp) hl fun k x hk1 _ hx hSk hw => ?_
      rw [Nat.sub_zero] at hx
      have hSk' : S k = true := by simpa [show k ≠ i by omega] using hSk
      obtain ⟨g1, g2⟩ := hc k x e hx he (.inr ⟨hk1, hSk'⟩)
      exact (mem_hits g1 hw).2.1 hl
    · rw [upd_out hl]
      refine part_congr rfl fun p hp hw => ?_
      by_cases hpi : p.1 = i
      · obtain ⟨h1, h2⟩ := zl_mem hp
        rw [Nat.sub_zero, hpi, he] at h2
        cases h2
        exact absurd hw hl
      · simp [hpi]
  obtain ⟨e1, e2⟩ := at_eq hall
  obtain ⟨n3, n4⟩ := part_next (es := zl efs 0) (σ := σ0) (S := fun k => S k || k == i)
  exact hr'.congr e1 e2 (by rw [n3]; exact n1.symm) (by rw [n4]; exact n2.symm)

theorem text_okW (hR : Reg P N ops ros deps) {σ0 : St} (hruns : RunsW P base ros 0 σ0 efs σ') (hN : σ0.N = N) (hf0 : ∀ id, base ≤ id → σ0.O id = none) (hnx : base + 16 * ros.length ≤ σ0.next) (hQ : ∀ ρ' a' w', Rel E ρ' σ' a' w' → Q .normal a' w') :
    ∀ (n m : Nat) {ρ : Pl} {a : Act} {w : World}, n + m = ros.length → Rel E ρ (part' σ0 (zl efs 0) fun k => decide (k < m)) a w → wpOps P ops Q (List.range' m n) a w := by
  have hlen := (runs_atW hruns).1
  intro n
  induction n with
  | zero =>
    intro m ρ a w hm h
    refine hQ ρ a w ?_
    rw [runs_endW hruns]
    rw [← part_S (S := fun k => decide (k < m)) (S' := fun _ => true) fun p hp => ?_] at h
    · exact h
    · obtain ⟨h1, h2⟩ := zl_mem hp
      have := (List.getElem?_eq_some_iff.1 h2).1
      simp; omega
  | succ n ih =>
    intro m ρ a w hm h
    rw [List.range'_succ, wpOps_cons]
    refine step_okW hR hruns hN hf0 hnx (by omega) (by simp) (fun k x e _ _ hh => ?_) h fun ρ' a' w' hr' => ih (m + 1) (ρ := ρ') (by omega) ?_
    · rcases hh with ⟨h1, h2⟩ | ⟨h1, h2⟩
      · simp at h2; omega
      · simp at h2; omega
    · rw [part_S (S := fun k => decide (k < m) || k == m) (S' := fun k => decide (k < m + 1)) fun p _ => ?_]
      · exact hr'
      · rw [Bool.eq_iff_iff]; simp; omega

theorem any_okW (hR : Reg P N ops ros deps) {σ0 : St} (hruns : RunsW P base ros 0 σ0 efs σ') (hN : σ0.N = N) (hf0 : ∀ id, base ≤ id → σ0.O id = none) (hnx : base + 16 * ros.length ≤ σ0.next) (hfree : free deps efs = true) (hQ : ∀ ρ' a' w', Rel E ρ' σ' a' w' → Q .normal a' w') :
    ∀ (fuel : Nat) (L : Array Bool) {ρ : Pl} {a : Act} {w : World}, L.size = ops.size → cnt L ops.size ≤ fuel → (∀ j, L.getD j false = true → ∀ d ∈ deps.getD j [], L.getD d false = true) →
      Rel E ρ (part' σ0 (zl efs 0) fun k => L.getD k false) a w → wpAny P .any ops Q fuel L a w := by
  have hlen := (runs_atW hruns).1
  have hsz := hR.len
  have done : ∀ (L : Array Bool) {ρ : Pl} {a : Act} {w : World}, L.size = ops.size → (∀ i, i < ops.size → L.getD i true = true) → Rel E ρ (part' σ0 (zl efs 0) fun k => L.getD k false) a w → Q .normal a w := by
    intro L ρ a w hL hall h
    refine hQ ρ a w ?_
    rw [runs_endW hruns]
    rw [← part_S (S := fun k => L.getD k false) (S' := fun _ => true) fun p hp => ?_] at h
    · exact h
    · obtain ⟨h1, h2⟩ := zl_mem hp
      have h3 := (List.getElem?_eq_some_iff.1 h2).1
      have := hall p.1 (by omega)
      have hlt : p.1 < L.size := by omega
      simp only [Array.getD_eq_getD_getElem?, Array.getElem?_eq_getElem hlt, Option.getD_some] at this ⊢
      exact this.symm
  have notready : ∀ (L : Array Bool), L.size = ops.size → Region.ready .any ops L = [] → ∀ i, i < ops.size → L.getD i true = true := by
    intro L hL hr i
    induction i using Nat.strongRecOn with
    | _ i ih =>
      intro hi
      cases hb : L.getD i true with
      | true => rfl
      | false =>
        exfalso
        have : i ∈ Region.ready .any ops L := by
          unfold Region.ready
          refine List.mem_filter.2 ⟨List.mem_range.2 hi, ?_⟩
          have ho : ops[i]? = some ops[i] := Array.getElem?_eq_getElem hi
          obtain ⟨h1, h2⟩ := hR.dep i _ ho
          simp only [hb, Bool.not_false, Bool.true_and, ho, Option.map_some, Option.getD_some]
          rw [← Array.all_toList, List.all_eq_true]
          intro e hemem
          cases hbd : Region.binds .any e with
          | false => simp
          | true =>
            have hd : e.on ∈ deps.getD i [] := by
              rw [h1]
              exact List.mem_map_of_mem (List.mem_filter.2 ⟨hemem, hbd⟩)
            have hlt := h2 _ hd
            have h3 := ih e.on hlt (by omega)
            have hlt' : e.on < L.size := by omega
            simp only [Array.getD_eq_getD_getElem?, Array.getElem?_eq_getElem hlt', Option.getD_some] at h3 ⊢
            simp [h3]
        rw [hr] at this
        cases this
  intro fuel
  induction fuel with
  | zero =>
    intro L ρ a w hL hc hcl h
    have hall := cnt_zero L ops.size (by omega)
    refine ⟨?_, done L hL hall h⟩
    unfold Region.ready
    rw [List.filter_eq_nil_iff]
    intro i hi
    rw [hall i (List.mem_range.1 hi)]
    simp
  | succ fuel ih =>
    intro L ρ a w hL hc hcl h
    refine ⟨fun hr => done L hL (notready L hL hr) h, fun i hi => ?_⟩
    unfold Region.ready at hi
    obtain ⟨hi1, hi2⟩ := List.mem_filter.1 hi
    have hlt : i < ops.size := List.mem_range.1 hi1
    have ho : ops[i]? = some ops[i] := Array.getElem?_eq_getElem hlt
    simp only [ho, Option.map_some, Option.getD_some, Bool.and_eq_true, Bool.not_eq_true'] at hi2
    obtain ⟨hi3, hi4⟩ := hi2
    have hlt' : i < L.size := by omega
    have hSi : L.getD i false = false := by
      simp only [Array.getD_eq_getD_getElem?, Array.getElem?_eq_getElem hlt', Option.getD_some] at hi3 ⊢
      exact hi3
    obtain ⟨d1, d2⟩ := hR.dep i _ ho
    have hdeps : ∀ d ∈ deps.getD i [], L.getD d false = true := fun d hd => by
      rw [d1] at hd
      obtain ⟨e, he, rfl⟩ := List.mem_map.1 hd
      obtain ⟨he1, he2⟩ := List.mem_filter.1 he
      rw [← Array.all_toList] at hi4
      have := List.all_eq_true.1 hi4 e he1
      simpa [he2] using this
    have hpair : ∀ i j x y, i < j → efs[i]? = some x → efs[j]? = some y → x.confl y = true → reach deps efs.length i j = true := fun i j x y hij hx hy hc => by
      have hj := (List.getElem?_eq_some_iff.1 hy).1
      have h1 := List.all_eq_true.1 hfree j (List.mem_range.2 hj)
      have h2 := List.all_eq_true.1 h1 i (List.mem_range.2 hij)
      rw [hx, hy] at h2
      simpa [hc] using h2
    refine step_okW hR hruns hN hf0 hnx (S := fun k => L.getD k false) (by omega) hSi (fun k x e hx he hh => ?_) h fun ρ' a' w' hr' => ih (L.setIfInBounds i true) (ρ := ρ') (by simpa using hL) ?_ ?_ ?_
    · have nc : x.confl e = false ∧ e.confl x = false := by
        have hcc : e.confl x = x.confl e := by simp [Ef.confl, Bool.or_comm]
        rw [hcc]
        cases hb : x.confl e with
        | false => exact ⟨rfl, rfl⟩
        | true =>
          exfalso
          rcases hh with ⟨h1, h2⟩ | ⟨h1, h2⟩
          · have hr := hpair k i x e h1 hx he hb
            have := reach_done (S := fun k => L.getD k false = true) hcl _ _ _ hr hdeps
            have h2' : L.getD k false = false := h2
            rw [h2'] at this; cases this
          · have hr := hpair i k e x h1 he hx (by rw [hcc]; exact hb)
            have := reach_done (S := fun k => L.getD k false = true) hcl _ _ _ hr (hcl k h2)
            rw [hSi] at this; cases this
      unfold Ef.confl at nc
      simp only [Bool.or_eq_false_iff] at nc
      exact ⟨nc.1.1, nc.1.2⟩
    · have := cnt_set L i hlt' hi3 ops.size
      rw [if_pos hlt] at this
      omega
    · intro j hj d hd
      by_cases hji : j = i
      · subst hji
        have hdi := d2 d hd
        have := hdeps d hd
        simpa [Array.getD_eq_getD_getElem?, Array.getElem?_setIfInBounds, show j ≠ d by omega] using this
      · have hj' : L.getD j false = true := by simpa [Array.getD_eq_getD_getElem?, Array.getElem?_setIfInBounds, Ne.symm hji] using hj
        have := hcl j hj' d hd
        by_cases hdi : d = i
        · subst hdi
          simp [Array.getD_eq_getD_getElem?, hlt']
        · simpa [Array.getD_eq_getD_getElem?, Array.getElem?_setIfInBounds, Ne.symm hdi] using this
    · rw [part_S (S := fun k => L.getD k false || k == i) (S' := fun k => (L.setIfInBounds i true).getD k false) fun p _ => ?_]
      · exact hr'
      · by_cases hpi : p.1 = i
        · rw [hpi]; simp [Array.getD_eq_getD_getElem?, hlt']
        · simp [Array.getD_eq_getD_getElem?, Ne.symm hpi, hpi]

theorem region_okW (hR : Reg P N ops ros deps) (hm : P.follows .mixedOrders = true) (h : Rel E ρ σ a w) (hN : σ.N = N) {efs : List Ef} (hruns : RunsW P σ.next ros 0 { σ with next := σ.next + 16 * ros.length } efs σ') {draw : Bool} (hfree : draw = true → free deps efs = true)
    (hQ : ∀ ρ' a' w', Rel E ρ' σ' a' w' → Q .normal a' w') (id : Nat) : (Code.region id ops draw).wp P Q a w := by
  have h0 : ∀ w', w'.heap = w.heap → w'.os = w.os → w'.tape = w.tape → w'.output = w.output → Rel E ρ (part' { σ with next := σ.next + 16 * ros.length } (zl efs 0) fun _ => false) a w' := fun w' e1 e2 e3 e4 => by
    have nop : ∀ (es : List Ef) (s : Nat) (τ : St), part' τ (zl es s) (fun _ => false) = τ := fun es => by
      induction es with
      | nil => intros; rfl
      | cons e es ih =>
        intro s τ
        simp only [zl, List.zipIdx_cons, List.map_cons, part']
        exact ih (s + 1) τ
    rw [nop]
    have ex : Ext ρ σ.O w ρ σ.O w' := ⟨fun g _ ho => ⟨by rw [e1], ho⟩, fun g q _ ho => ⟨look_of_block (by rw [e1]), ho⟩, fun id o ho => ⟨o, ho, Nat.le_refl _, fun _ => ⟨rfl, Ob.fits_refl o, fun g cs e _ _ hh => ⟨cs, by rw [e1]; exact hh, rfl⟩⟩⟩⟩
    exact ⟨fun t => V.rel_ext ex (h.tm t), h.N, fun id o ho => Ob.rel_ext ex rfl (fun g _ => by rw [e1]) (h.ob id o ho), fun id o g a1 a2 a3 => by rw [e1]; exact h.hi id o g a1 a2 a3, h.inj, fun id hid => h.nx id (by have : σ.next + 16 * ros.length ≤ id := hid; omega),
      h.ext.trans h.bs ex, by rw [e1]; exact h.bs, e2.trans h.os, e3.trans h.tape, e4.trans h.output, h.df, h.gl.ext ex, h.le⟩
  cases draw with
  | false =>
    refine wp_region ?_
    rw [List.range_eq_range']
    refine text_okW hR hruns hN (fun id hid => h.nx id hid) (Nat.le_refl _) hQ ops.size 0 (by rw [hR.len]; rfl) (ρ := ρ) ?_
    rw [part_S (S := fun _ => false) (S' := fun k => decide (k < 0)) fun p _ => by simp]
    exact h0 w rfl rfl rfl rfl
  | true =>
    refine wp_region_any hm ?_
    refine any_okW hR hruns hN (fun id hid => h.nx id hid) (Nat.le_refl _) (hfree rfl) hQ ops.size _ (ρ := ρ) (by simp) ?_ ?_ ?_
    · have : ∀ (k n : Nat), k ≤ n → cnt (Array.replicate n false) k ≤ k := fun k => by
        induction k with
        | zero => intro n _; exact Nat.le_refl _
        | succ k ih =>
          intro n hn
          simp only [cnt]
          have := ih n (by omega)
          split <;> omega
      exact this _ _ (Nat.le_refl _)
    · intro j hj
      by_cases hlt : j < ops.size
      · simp [Array.getD_eq_getD_getElem?, hlt] at hj
      · simp [Array.getD_eq_getD_getElem?, hlt] at hj
    · rw [part_S (S := fun _ => false) (S' := fun k => (Array.replicate ops.size false).getD k false) fun p _ => ?_]
      · exact h0 { w with drawn := w.drawn + 1 } rfl rfl rfl rfl
      · by_cases hlt : p.1 < ops.size
        · simp [Array.getD_eq_getD_getElem?, hlt]
        · simp [Array.getD_eq_getD_getElem?, hlt]
end
end Go.Proofs.Ytlmnhbobgfpanaa
