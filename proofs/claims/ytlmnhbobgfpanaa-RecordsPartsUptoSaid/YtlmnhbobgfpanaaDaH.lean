/-
  Where less is known: a state that an annotation makes of another one. General; nothing of this program.
-/
import Derived.Test.YtlmnhbobgfpanaaDaG
namespace Go.Proofs.Ytlmnhbobgfpanaa
open Go.RowKit

def DSt.at' (σ : DSt) (l : Nat) : DV × Option DOb := if l % 2 = 0 then (σ.get (l / 2), none) else (.dead, σ.O (l / 2))
theorem dat_tmp (σ : DSt) (t : Nat) : σ.at' (2 * t) = (σ.get t, none) := by
  unfold DSt.at'
  rw [if_pos (by omega), show 2 * t / 2 = t by omega]
theorem dat_obj (σ : DSt) (k : Nat) : σ.at' (2 * k + 1) = (.dead, σ.O k) := by
  unfold DSt.at'
  rw [if_neg (by omega), show (2 * k + 1) / 2 = k by omega]

theorem mk_cnt : ∀ (s : Sh) (x : den s.ty) (k : Nat), (s.mk x k).2.2 = k + s.cnt ∧ (s.mk x k).2.1.map (·.1) = List.range' k s.cnt := by
  intro s
  induction s with
  | own zz e τ => intro x k; exact ⟨rfl, rfl⟩
  | box e n l ih =>
    intro x k
    obtain ⟨h1, h2⟩ := ih x (k + 1)
    exact ⟨by simp only [Sh.mk, Sh.cnt, h1]; omega, by simp only [Sh.mk, Sh.cnt, List.map_cons, h2]; rfl⟩
  | agg n l ih => intro x k; exact ih x k
  | tup n l ih => intro x k; exact ih x k
  | ifc t s ih => intro x k; exact ih x k
  | clo fn n l m c ih1 ih2 =>
    intro x k
    obtain ⟨h1, h2⟩ := ih1 x.1 k
    obtain ⟨h3, h4⟩ := ih2 x.2 (l.mk x.1 k).2.2
    refine ⟨by simp only [Sh.mk, Sh.cnt]; omega, ?_⟩
    rw [h1] at h4
    simp only [Sh.mk, Sh.cnt, List.map_append, h2, h1, h4]
    exact List.range'_append_1 ..
  | cons a b ih1 ih2 =>
    intro x k
    obtain ⟨h1, h2⟩ := ih1 x.1 k
    obtain ⟨h3, h4⟩ := ih2 x.2 (a.mk x.1 k).2.2
    refine ⟨by simp only [Sh.mk, Sh.cnt]; omega, ?_⟩
    rw [h1] at h4
    simp only [Sh.mk, Sh.cnt, List.map_append, h2, h1, h4]
    exact List.range'_append_1 ..
  | _ => intro x k; exact ⟨rfl, rfl⟩
theorem mk_names (s : Sh) (x : den s.ty) (k : Nat) : ∃ n, (s.mk x k).2.2 = k + n ∧ (s.mk x k).2.1.map (·.1) = List.range' k n := ⟨s.cnt, mk_cnt s x k⟩
theorem nodupN_ok : ∀ {l : List Nat}, nodupN l = true → l.Nodup
  | [], _ => List.nodup_nil
  | a :: l, h => by
    simp only [nodupN, Bool.and_eq_true, Bool.not_eq_true', List.contains_eq_mem, decide_eq_false_iff_not] at h
    exact List.nodup_cons.2 ⟨h.1, nodupN_ok h.2⟩
theorem nodupO_ok : ∀ {l : List (Option Nat)}, nodupO l = true → ∀ (i j : Nat) (a : Nat), l[i]? = some (some a) → l[j]? = some (some a) → i = j
  | [], _, i, j, a, h1, h2 => by simp at h1
  | none :: l, h, i, j, a, h1, h2 => by
    cases i with
    | zero => simp at h1
    | succ i =>
      cases j with
      | zero => simp at h2
      | succ j => rw [nodupO_ok (l := l) h i j a (by simpa using h1) (by simpa using h2)]
  | some b :: l, h, i, j, a, h1, h2 => by
    simp only [nodupO, Bool.and_eq_true, Bool.not_eq_true', List.contains_eq_mem, decide_eq_false_iff_not] at h
    cases i with
    | zero =>
      simp at h1
      subst h1
      cases j with
      | zero => rfl
      | succ j => exact absurd (List.mem_of_getElem? (by simpa using h2)) h.1
    | succ i =>
      cases j with
      | zero =>
        simp at h2
        subst h2
        exact absurd (List.mem_of_getElem? (by simpa using h1)) h.1
      | succ j => rw [nodupO_ok (l := l) h.2 i j a (by simpa using h1) (by simpa using h2)]
theorem rnm_mem : ∀ {l : List (Nat × Nat)}, (l.map (·.1)).Nodup → ∀ {a b : Nat}, (a, b) ∈ l → rnm l a = b
  | [], _, a, b, h => by cases h
  | (p, q) :: l, hn, a, b, h => by
    simp only [List.map_cons, List.nodup_cons] at hn
    rcases List.mem_cons.1 h with h | h
    · cases h
      simp [rnm]
    · have : p ≠ a := fun e => hn.1 (e ▸ List.mem_map_of_mem (f := (·.1)) h)
      simp only [rnm, if_neg this]
      exact rnm_mem hn.2 h
theorem rnm_none : ∀ {l : List (Nat × Nat)} {a : Nat}, a ∉ l.map (·.1) → rnm l a = a
  | [], _, _ => rfl
  | (p, q) :: l, a, h => by
    simp only [List.map_cons, List.mem_cons, not_or] at h
    simp only [rnm, if_neg (Ne.symm h.1)]
    exact rnm_none h.2
theorem dlo_mem : ∀ {l : List (Nat × DOb)}, (l.map (·.1)).Nodup → ∀ {a : Nat} {b : DOb}, (a, b) ∈ l → dlo l a = some b
  | [], _, a, b, h => by cases h
  | (p, q) :: l, hn, a, b, h => by
    simp only [List.map_cons, List.nodup_cons] at hn
    rcases List.mem_cons.1 h with h | h
    · cases h
      simp [dlo]
    · have : p ≠ a := fun e => hn.1 (e ▸ List.mem_map_of_mem (f := (·.1)) h)
      simp only [dlo, nbeq_iff, this, decide_false, cond_false]
      exact dlo_mem hn.2 h
theorem refB_vw {O : Nat → Option DOb} {ids : List Nat} {μ : Nat → Nat} {O1 O2 : Ow} (h : ∀ id ∈ ids, μ id = id ∧ ∀ o, O id = some o → ∃ o1 o2, O1 id = some o1 ∧ O2 id = some o2 ∧ o2.ver = o.toOb.ver ∧ o1.ver = o2.ver ∧ o1.isVar = o2.isVar) :
    ∀ {v : DV}, v.refB O ids = true → VW μ O1 O2 v.toV v.toV
  | .dead, _ => VW_dead _ _ _ _
  | .im _ _, _ => by simp only [DV.toV, VW]; exact T.le_refl _
  | .raw _, _ => by simp only [DV.toV, VW]; exact T.le_refl _
  | .unk, _ => by simp only [DV.toV, VW]; exact T.le_refl _
  | .glo _ _, _ => by simp only [DV.toV, VW]; exact T.le_refl _
  | .sd _ _ _ _, _ => by simp only [DV.toV, VW]; exact T.le_refl _
  | .alt c x y, hv => by
    simp only [DV.refB, Bool.and_eq_true] at hv
    simp only [DV.toV]
    cases x.isOne && y.isOne with
    | false => exact VW_dead _ _ _ _
    | true =>
      cases c with
      | true => exact refB_vw h hv.1
      | false => exact refB_vw h hv.2
  | .elem _ _ _ _ _, _ => by simp only [DV.toV, VW]; exact .inl trivial
  | .agg n f, hv => by
    simp only [DV.refB, List.all_eq_true, List.mem_range] at hv
    simp only [DV.toV, VW]
    exact ⟨trivial, allLt_iff.2 fun j hj => refB_vw h (hv j hj)⟩
  | .tup n f, hv => by
    simp only [DV.refB, List.all_eq_true, List.mem_range] at hv
    simp only [DV.toV, VW]
    exact ⟨trivial, allLt_iff.2 fun j hj => refB_vw h (hv j hj)⟩
  | .ifc t v, hv => by
    simp only [DV.refB] at hv
    simp only [DV.toV, VW]
    exact ⟨trivial, refB_vw h hv⟩
  | .clo fn n f m g, hv => by
    simp only [DV.refB, Bool.and_eq_true, List.all_eq_true, List.mem_range] at hv
    simp only [DV.toV, VW]
    exact ⟨trivial, trivial, trivial, allLt_iff.2 fun j hj => refB_vw h (hv.1 j hj), allLt_iff.2 fun j hj => refB_vw h (hv.2 j hj)⟩
  | .buf id ver off len w, hv => by
    simp only [DV.refB, Bool.and_eq_true, List.contains_eq_mem, decide_eq_true_eq] at hv
    obtain ⟨h1, h2⟩ := h id hv.1
    have hv2 := hv.2
    cases ho : O id with
    | none => rw [ho] at hv2; cases hv2
    | some o =>
      rw [ho] at hv2
      obtain ⟨o1, o2, e1, e2, e3, e4, e5⟩ := h2 o ho
      simp only [DV.toV, VW, h1, e1, e2]
      refine ⟨trivial, trivial, trivial, ?_, fun e => by omega⟩
      rw [e3]
      cases o with
      | var => cases hv2
      | map => cases hv2
      | arr zz e τ v l => exact nble hv2
      | gone v => exact nble hv2
  | .vsl id len, hv => by
    simp only [DV.refB, Bool.and_eq_true, List.contains_eq_mem, decide_eq_true_eq] at hv
    obtain ⟨h1, h2⟩ := h id hv.1
    have hv2 := hv.2
    cases ho : O id with
    | none => rw [ho] at hv2; cases hv2
    | some o =>
      rw [ho] at hv2
      obtain ⟨o1, o2, e1, e2, e3, e4, e5⟩ := h2 o ho
      simp only [DV.toV, VW, h1, e1, e2]
      exact ⟨trivial, trivial, fun hv => e5.trans hv⟩
  | .mp id, hv => by
    simp only [DV.refB, Bool.and_eq_true, List.contains_eq_mem, decide_eq_true_eq] at hv
    obtain ⟨h1, h2⟩ := h id hv.1
    have hv2 := hv.2
    cases ho : O id with
    | none => rw [ho] at hv2; cases hv2
    | some o =>
      obtain ⟨o1, o2, e1, e2, e3, e4, e5⟩ := h2 o ho
      simp only [DV.toV, VW, h1, e1, e2]
      exact ⟨trivial, trivial⟩
  | .ptr id ver i j, hv => by
    simp only [DV.refB, Bool.and_eq_true, List.contains_eq_mem, decide_eq_true_eq] at hv
    obtain ⟨h1, h2⟩ := h id hv.1
    have hv2 := hv.2
    cases ho : O id with
    | none => rw [ho] at hv2; cases hv2
    | some o =>
      rw [ho] at hv2
      obtain ⟨o1, o2, e1, e2, e3, e4, e5⟩ := h2 o ho
      simp only [DV.toV, VW, h1, e1, e2]
      refine ⟨trivial, trivial, trivial, ?_, fun e => by omega⟩
      rw [e3]
      cases o with
      | var => rw [nbeq hv2]; exact Nat.zero_le _
      | map => cases hv2
      | arr zz e τ v l => exact nble hv2
      | gone v => exact nble hv2
theorem VW_cell {μ : Nat → Nat} {O O' : Ow} {n : Nat} {f : Nat → V} {v : DV} (h : VW μ O O' (.agg n f) v.toV) : ∀ t, t < n → VW μ O O' (f t) (v.cell t).toV := by
  intro t ht
  cases v with
  | dead => exact VW_dead _ _ _ _
  | agg n' g =>
    simp only [DV.toV, VW] at h
    exact allLt_iff.1 h.2 t ht
  | alt c x y =>
    have hh : ∀ z : DV, z.isOne = true → ¬ VW μ O O' (.agg n f) z.toV := fun z hz hv => by
      cases z <;> first | (cases hz; done) | (simp only [DV.toV, VW] at hv)
    show VW μ O O' (f t) (DV.alt c x y).toV
    simp only [DV.toV] at h ⊢
    cases hx : x.isOne with
    | false => exact VW_dead _ _ _ _
    | true =>
      cases hy : y.isOne with
      | false => exact VW_dead _ _ _ _
      | true =>
        rw [hx, hy] at h
        cases c with
        | true => exact absurd h (hh x hx)
        | false => exact absurd h (hh y hy)
  | im τ x => simp only [DV.toV, VW] at h
  | raw v => simp only [DV.toV, VW] at h
  | tup n g => simp only [DV.toV, VW] at h
  | buf => simp only [DV.toV, VW] at h
  | ptr => simp only [DV.toV, VW] at h
  | elem => simp only [DV.toV, VW] at h
  | ifc => simp only [DV.toV, VW] at h
  | clo => simp only [DV.toV, VW] at h
  | mp => simp only [DV.toV, VW] at h
  | vsl => simp only [DV.toV, VW] at h
  | unk => simp only [DV.toV, VW] at h
  | sd => simp only [DV.toV, VW] at h
  | glo => simp only [DV.toV, VW] at h
theorem zipIdx_mem {α : Type} {l : List α} {p : α × Nat} (h : p ∈ l.zipIdx) : l[p.2]? = some p.1 := by
  obtain ⟨k, hk, rfl⟩ := List.getElem_of_mem h
  simp only [List.length_zipIdx] at hk
  simp [hk]

theorem rowV_ok : ∀ {n : Nat} {f : Nat → DV} {τ : Tp} {y : den τ}, rowV n f = some ⟨τ, y⟩ → τ.size = n ∧ ∀ j, j < n → VLe (f j).toV (.im (cellT τ y j))
  | 0, f, τ, y, h => by cases h; exact ⟨rfl, fun j hj => by omega⟩
  | n + 1, f, τ, y, h => by
    unfold rowV at h
    split at h
    · rename_i τ0 x hf
      have h0 := cond_some h; clear h; obtain ⟨hn, h⟩ := h0
      have hs := nbeq hn
      split at h
      · rename_i τ' y' hr
        cases h
        obtain ⟨h1, h2⟩ := rowV_ok hr
        refine ⟨by simp only [Tp.size, hs, h1]; omega, fun j hj => ?_⟩
        cases j with
        | zero =>
          rw [hf]
          simp only [DV.toV, cellT, hs, Nat.zero_lt_one, if_true]
          exact VLe.refl _
        | succ j =>
          simp only [cellT, hs, show ¬ j + 1 < 1 by omega, if_false, Nat.add_sub_cancel]
          exact h2 j (by omega)
      · cases h
    · cases h
theorem shareD_some {σ : DSt} {id : Nat} {p : Nat × DOb} (h : shareD σ id = some p) : p.1 = id ∧ ∃ e τ v l, p.2 = .arr .sh e τ v l ∧ ((∃ z, σ.O id = some (.arr z e τ v l)) ∨ (v = 0 ∧ ∃ y f, l = [y] ∧ σ.O id = some (.var e τ.size f) ∧ ∀ j, j < τ.size → VLe (f j).toV (.im (cellT τ y j)))) := by
  unfold shareD at h
  split at h
  · rename_i z e τ v l ho
    cases h
    exact ⟨rfl, e, τ, v, l, rfl, .inl ⟨z, ho⟩⟩
  · rename_i e n f ho
    split at h
    · rename_i τ y hr
      cases h
      obtain ⟨rfl, h2⟩ := rowV_ok hr
      exact ⟨rfl, e, τ, 0, [y], rfl, .inr ⟨rfl, y, f, rfl, ho, h2⟩⟩
    · cases h
  · cases h
theorem share_st (σ : DSt) (ids : List Nat) : ∃ us, (σ.share ids).st = { σ.st with ob := us ++ σ.st.ob } ∧ FrozenG σ.st.O us := by
  cases ids with
  | nil => exact ⟨[], rfl, fun p hp => by cases hp⟩
  | cons k ks =>
    refine ⟨((k :: ks).filterMap (shareD σ)).map fun p => (p.1, p.2.toOb), ?_, fun p hp => ?_⟩
    · simp only [DSt.share, DSt.st, List.map_append]
    · obtain ⟨q, hq, rfl⟩ := List.mem_map.1 hp
      obtain ⟨id, _, hs⟩ := List.mem_filterMap.1 hq
      obtain ⟨h1, e, τ, v, l, h3, h2⟩ := shareD_some hs
      refine ⟨e, τ.size, v, l.length, rowsT τ l, by rw [h3]; rfl, ?_⟩
      rcases h2 with ⟨z, h2⟩ | ⟨rfl, y, f, rfl, h2, h4⟩
      · exact .inl ⟨z, by rw [h1, O_st_some h2]; rfl⟩
      · exact .inr ⟨rfl, rfl, fun j => (f j).toV, by rw [h1, O_st_some h2]; rfl, h4⟩
theorem share_rel {E : Env} {ρ : Pl} {act : Act} {w : World} {σ : DSt} (ids : List Nat) (h : Rel E ρ σ.st act w) : Rel E ρ (σ.share ids).st act w := by
  obtain ⟨us, h1, h2⟩ := share_st σ ids
  rw [h1]
  exact (h.freezeG h2).1
theorem share_at (σ : DSt) (ids : List Nat) {l : Nat} (h : (σ.share ids).wr l = false) : σ.wr l = false ∧ (σ.share ids).at' l = σ.at' l := by
  cases ids with
  | nil => exact ⟨h, rfl⟩
  | cons k ks =>
    have h' : ((k :: ks).any (fun k => Nat.beq (2 * k + 1) l) || σ.wr l) = false := h
    rw [Bool.or_eq_false_iff] at h'
    refine ⟨h'.2, ?_⟩
    unfold DSt.at'
    by_cases hl : l % 2 = 0
    · rw [if_pos hl, if_pos hl]; rfl
    · rw [if_neg hl, if_neg hl]
      congr 1
      show dlo ((k :: ks).filterMap (shareD σ) ++ σ.ob) (l / 2) = dlo σ.ob (l / 2)
      have : ∀ (us : List (Nat × DOb)), (∀ p ∈ us, p.1 ≠ l / 2) → dlo (us ++ σ.ob) (l / 2) = dlo σ.ob (l / 2) := by
        intro us
        induction us with
        | nil => intro _; rfl
        | cons p us ih =>
          intro hp
          obtain ⟨q, o⟩ := p
          have hne : q ≠ l / 2 := hp (q, o) (by simp)
          simp only [List.cons_append, dlo]
          have hb : Nat.beq q (l / 2) = false := by
            rw [← Bool.not_eq_true]; exact fun e => hne (nbeq e)
          simp only [hb, cond_false]
          exact ih fun p hp' => hp p (by simp [hp'])
      refine this _ fun p hp => ?_
      obtain ⟨id, hid, hs⟩ := List.mem_filterMap.1 hp
      obtain ⟨h1, _⟩ := shareD_some hs
      intro he
      have := List.any_eq_false.1 h'.1 id hid
      apply this
      rw [nbeq_iff]
      simp only [decide_eq_true_eq]
      omega

theorem cut_rel {E : Env} {ρ : Pl} {act : Act} {w : World} {σ : DSt} (t : Nat) (h : Rel E ρ σ.st act w) : Rel E ρ (σ.cut t).st act w := by
  unfold DSt.cut
  split
  · rename_i id ver len hv
    split
    · rename_i rm e τ ver' l ho
      cases hb : Nat.beq ver' ver with
      | false => exact h
      | true =>
        obtain rfl := nbeq hb
        have hx := h.tm t
        rw [get_st, hv] at hx
        obtain ⟨A, c, o, e1, e2, e3, e4, e5⟩ := hx
        rw [O_st_some ho] at e3
        cases e3
        obtain ⟨_, _, _, _, _, hob, hlen, hp⟩ := e5 rfl
        clear e5
        cases hob
        have hid : id < σ.st.next := by
          rcases Nat.lt_or_ge id σ.st.next with hl | hl
          · exact hl
          · have := h.nx id hl; rw [O_st_some ho] at this; cases this
        have hlen : len ≤ l.length := by rw [Nat.zero_add] at hlen; exact hlen
        have hrow : ∀ i, i < len → (List.take len l).getD i (dflt τ) = l.getD i (dflt τ) := fun i hi => by
          rw [List.getD_eq_getElem?_getD, List.getElem?_take, if_pos hi, ← List.getD_eq_getElem?_getD]
        have hps : pset ρ id (ρ id) = ρ := by
          funext k
          unfold pset
          split
          · rename_i hk; rw [hk]
          · rfl
        have hold := h.ob id _ (O_st_some ho)
        have hone := h.one id hid (.arr (.own none) e τ.size (ver' + 1) (List.take len l).length (rowsT τ (List.take len l))) (ρ id) w (fun _ _ _ => rfl)
          (fun g hl hg => ⟨(h.hi id _ g (O_st_some ho) rfl hg).2, .inl ⟨_, O_st_some ho, rfl, hg⟩⟩)
          (fun o g k ho' _ _ hk => by rw [O_st_some ho] at ho'; cases ho'; exact absurd hk (Nat.not_lt_zero _))
          (fun o ho' => by rw [O_st_some ho] at ho'; cases ho'; exact ⟨Nat.le_succ _, fun q => by simp [Ob.ver, DOb.toOb] at q⟩)
          (fun ext => by
            rcases hold with ⟨p1, p2⟩ | ⟨g, cs, cap, p1, p2, p3, p4, p5, p6⟩
            · exact .inl ⟨p1, by have : l.length = 0 := p2; simp; omega⟩
            · refine .inr ⟨g, cs, cap, p1, p2, p3, by have : l.length ≤ cap := p4; simp; omega, ⟨p5.1, nofun, Room.none nofun⟩, fun i j hi hj => ?_⟩
              have hi' : i < len := by simp at hi; omega
              have := p6 i j (by show i < l.length; omega) hj
              refine ⟨this.1, ?_⟩
              show (cellT τ ((List.take len l).getD i (dflt τ)) j).rel _ _ _
              rw [hrow i hi']
              exact T.rel_mono ext.okb this.2)
          (Nat.le_refl _) rfl rfl rfl
        rw [hps] at hone
        obtain ⟨hr, ext⟩ := hone
        rw [cond_true]
        refine ⟨fun t' => ?_, hr.N, hr.ob, hr.hi, hr.inj, hr.nx, hr.ext, hr.bs, hr.os, hr.tape, hr.output, hr.df, hr.gl, hr.le⟩
        show (lk ((t, V.buf id (ver' + 1) 0 len) :: σ.st.tm) t').rel _ _ _ _ _
        unfold lk
        split
        · rename_i ht
          subst ht
          exact ⟨A, c, .arr (.own none) e τ.size (ver' + 1) (List.take len l).length (rowsT τ (List.take len l)), e1, e2, if_pos rfl, Nat.le_refl _, fun _ => ⟨_, _, _, _, _, rfl, by simp; omega, hp⟩⟩
        · exact hr.tm t'
    · exact h
  · exact h
theorem cut_at (σ : DSt) (t : Nat) {l : Nat} (h : (σ.cut t).wr l = false) : σ.wr l = false ∧ (σ.cut t).at' l = σ.at' l := by
  unfold DSt.cut at h ⊢
  split at h
  · rename_i id ver len hv
    split at h
    · rename_i e τ ver' k ho
      cases hb : Nat.beq ver' ver with
      | false => rw [hb] at h; exact ⟨h, rfl⟩
      | true =>
        rw [hb] at h
        simp only [cond_true, Bool.or_eq_false_iff] at h
        obtain ⟨h1, h2, h3⟩ := h
        refine ⟨h3, ?_⟩
        simp only [cond_true]
        rcases Nat.mod_two_eq_zero_or_one l with hl | hl
        · obtain ⟨q, rfl⟩ : ∃ q, l = 2 * q := ⟨l / 2, by omega⟩
          rw [dat_tmp, dat_tmp]
          congr 1
          show dlk ((t, _) :: σ.tm) q = dlk σ.tm q
          have hd : ¬ t = q := fun e => by subst e; rw [nbeq_iff] at h1; simp at h1
          simp only [dlk, nbeq_iff, hd, decide_false, cond_false]
        · obtain ⟨q, rfl⟩ : ∃ q, l = 2 * q + 1 := ⟨l / 2, by omega⟩
          rw [dat_obj, dat_obj]
          congr 1
          show dlo ((id, _) :: σ.ob) q = dlo σ.ob q
          have hd : ¬ id = q := fun e => by subst e; rw [nbeq_iff] at h2; simp at h2
          simp only [dlo, nbeq_iff, hd, decide_false, cond_false]
    · exact ⟨h, rfl⟩
  · exact ⟨h, rfl⟩
theorem cut_m (σ : DSt) (t : Nat) : (σ.cut t).m = σ.m ∧ (σ.cut t).next = σ.next ∧ (σ.cut t).N = σ.N := by
  unfold DSt.cut
  split
  · split
    · rename_i ver' _ _
      cases Nat.beq ver' _ <;> exact ⟨rfl, rfl, rfl⟩
    · exact ⟨rfl, rfl, rfl⟩
  · exact ⟨rfl, rfl, rfl⟩
theorem cuts_ok {E : Env} {ρ : Pl} {act : Act} {w : World} : ∀ (ts : List Nat) {σ : DSt}, ((σ.cuts ts).m = σ.m ∧ (σ.cuts ts).next = σ.next ∧ (σ.cuts ts).N = σ.N) ∧ (∀ l, (σ.cuts ts).wr l = false → σ.wr l = false ∧ (σ.cuts ts).at' l = σ.at' l) ∧ (Rel E ρ σ.st act w → Rel E ρ (σ.cuts ts).st act w)
  | [], σ => ⟨⟨rfl, rfl, rfl⟩, fun _ h => ⟨h, rfl⟩, id⟩
  | t :: ts, σ => by
    obtain ⟨h1, h2, h3⟩ := cuts_ok (E := E) (ρ := ρ) (act := act) (w := w) ts (σ := σ.cut t)
    obtain ⟨c1, c2, c3⟩ := cut_m σ t
    exact ⟨⟨h1.1.trans c1, h1.2.1.trans c2, h1.2.2.trans c3⟩, fun l hl => ⟨(cut_at σ t (h2 l hl).1).1, (h2 l hl).2.trans (cut_at σ t (h2 l hl).1).2⟩, fun hr => h3 (cut_rel t hr)⟩

section
variable {R : Type} {r : R}
theorem join_okS {a : Ann} {σ0 σ : DSt} {K : den a.ty → Option R} (h : a.getS σ0 σ K = some r) (hN : σ.N = σ0.N) (hmn : σ0.m ≤ σ0.next) (hsame : ∀ l, σ.wr l = false → σ.at' l = σ0.at' l)
    {E : Env} {ρ : Pl} {act : Act} {w : World} (hE : ∀ id, σ0.m ≤ id → E.O id = none) (hr : Rel E ρ σ.st act w) :
    ∃ e ρ', K e = some r ∧ Rel E ρ' (a.put σ0 e).st act w ∧ σ0.next ≤ (a.put σ0 e).next ∧
      ∀ l, (a.keepT.any (fun t => Nat.beq (2 * t) l) || a.keepO.any fun k => Nat.beq (2 * k + 1) l) = true → (a.put σ0 e).at' l = σ0.at' l := by
  unfold Ann.getS at h
  have h0 := cond_some h; clear h; obtain ⟨hok, h⟩ := h0
  obtain ⟨x, s, h, hx⟩ := get_fits (by simp) h
  obtain ⟨y, s', h, hy⟩ := get_fits (by simp) h
  have h0 := cond_some h; clear h; obtain ⟨hnd, h⟩ := h0
  simp only [Bool.and_eq_true] at hnd
  refine ⟨(x, y), ?_⟩
  have hx := hx σ0.next
  have hy := hy (a.sh.mk x σ0.next).2.2
  -- what was asked
  unfold Ann.ok at hok
  simp only [Bool.and_eq_true, List.all_eq_true, Bool.not_eq_true'] at hok
  obtain ⟨k1, k2, k3, k4, k5, k6⟩ := hok
  have idsnd := nodupN_ok k4
  have keptO : ∀ id ∈ a.keepO, ∃ o, σ0.O id = some o ∧ σ.O id = some o ∧ id < σ0.next ∧ o.refB σ0.O a.ids = true := fun id hid => by
    obtain ⟨⟨q1, q2⟩, q3⟩ := k2 id hid
    have := hsame _ q1
    rw [dat_obj, dat_obj] at this
    have e : σ.O id = σ0.O id := congrArg Prod.snd this
    cases ho : σ0.O id with
    | none => rw [ho] at q3; cases q3
    | some o => rw [ho] at q3 e; exact ⟨o, rfl, e, nblt q2, q3⟩
  have obsO : ∀ p ∈ a.obs, ∃ f e' n' f', σ.O p.1 = some (.var p.2.1 p.2.2 f) ∧ σ0.O p.1 = some (.var e' n' f') ∧ p.1 < σ0.next := fun p hp => by
    obtain ⟨q1, q2⟩ := k3 p hp
    cases ho : σ.O p.1 with
    | none => rw [ho] at q2; cases q2
    | some o =>
      rw [ho] at q2
      cases o with
      | var e n f =>
        cases ho2 : σ0.O p.1 with
        | none => rw [ho2] at q2; cases q2
        | some o2 =>
          rw [ho2] at q2
          cases o2 with
          | var e2 n2 f2 =>
            simp only [Bool.and_eq_true] at q2
            rw [nbeq q2.1, nbeq q2.2]
            exact ⟨f, e2, n2, f2, rfl, rfl, nblt q1⟩
          | _ => cases q2
      | _ => cases q2
  -- the names
  obtain ⟨c1, n1, g1⟩ := mk_names a.sh x σ0.next
  obtain ⟨c2, n2, g2⟩ := mk_names a.osh y (a.sh.mk x σ0.next).2.2
  let objs := (a.sh.mk x σ0.next).2.1 ++ (a.osh.mk y (a.sh.mk x σ0.next).2.2).2.1
  let S := s ++ s'
  have hlen : objs.length = S.length := by
    show List.length (_ ++ _) = List.length (_ ++ _)
    rw [List.length_append, List.length_append, hx.len, hy.len]
  have hzip : objs.zip S = (a.sh.mk x σ0.next).2.1.zip s ++ (a.osh.mk y (a.sh.mk x σ0.next).2.2).2.1.zip s' := List.zip_append hx.len.symm
  have hnames : objs.map (·.1) = List.range' σ0.next (c1 + c2) := by
    show List.map _ (_ ++ _) = _
    rw [List.map_append, g1, g2, n1]
    exact List.range'_append_1 ..
  let L : List (Nat × Nat) := (objs.zip S).zipIdx.map fun p => (p.1.1.1, p.1.2.getD (σ.next + p.2))
  have hLk : L.map (·.1) = objs.map (·.1) := by
    show List.map _ (List.map _ (objs.zip S).zipIdx) = _
    rw [List.map_map]
    have : ((fun x : Nat × Nat => x.1) ∘ fun p : Src × Nat => (p.1.1.1, p.1.2.getD (σ.next + p.2))) = (fun q : Nat × DOb => q.1) ∘ (fun q : Src => q.1) ∘ fun p : Src × Nat => p.1 := rfl
    rw [this, ← List.map_map, ← List.map_map, List.zipIdx_map_fst, List.map_fst_zip (by omega)]
  have hLnd : (L.map (·.1)).Nodup := by rw [hLk, hnames]; exact List.nodup_range' ..
  have hren : ∀ q ∈ objs.zip S, ∃ j, (objs.zip S)[j]? = some q ∧ rnm L q.1.1 = q.2.getD (σ.next + j) := fun q hq => by
    obtain ⟨j, hj, e⟩ := List.getElem_of_mem hq
    refine ⟨j, by rw [List.getElem?_eq_getElem hj, e], rnm_mem hLnd ?_⟩
    exact List.mem_map.2 ⟨(q, j), by rw [List.mem_iff_getElem?]; exact ⟨j, by simp [List.getElem?_eq_getElem hj, e]⟩, rfl⟩
  have hid : ∀ id, id < σ0.next → rnm L id = id := fun id hlt => rnm_none (by
    rw [hLk, hnames, List.mem_range'_1]
    omega)
  have hS : ∀ q ∈ objs.zip S, ∀ id, q.2 = some id → id ∉ a.ids := fun q hq id e => by
    have : q.2 ∈ S := (List.of_mem_zip hq).2
    have := List.all_eq_true.1 hnd.2 q.2 this
    rw [e] at this
    simpa using this
  -- the new state's objects
  have hkey : (a.put σ0 (x, y)).ob.map (·.1) = a.obs.map (·.1) ++ (objs.map (·.1) ++ a.keepO) := by
    show List.map _ (_ ++ (_ ++ _)) = _
    rw [List.map_append, List.map_append, List.map_map]
    congr 1
    · have : ((fun x : Nat × DOb => x.1) ∘ fun p : (Nat × TypeId × Nat) × Nat => (p.1.1, DOb.var p.1.2.1 p.1.2.2 (dl (a.osh.mk y (a.sh.mk x σ0.next).2.2).1 p.2).cell)) = (fun q : Nat × TypeId × Nat => q.1) ∘ fun p : (Nat × TypeId × Nat) × Nat => p.1 := rfl
      rw [this, ← List.map_map, List.zipIdx_map_fst]
    · congr 1
      have : ∀ l : List Nat, (∀ id ∈ l, ∃ o, σ0.O id = some o) → (l.filterMap fun id => (σ0.O id).map fun o => (id, o)).map (·.1) = l := fun l => by
        induction l with
        | nil => intro _; rfl
        | cons q l ih =>
          intro hl
          obtain ⟨o, ho⟩ := hl q (List.mem_cons_self ..)
          simp only [List.filterMap_cons, ho, Option.map_some, List.map_cons]
          rw [ih fun id hid => hl id (List.mem_cons_of_mem _ hid)]
      exact this _ fun id hid => by obtain ⟨o, h1, _⟩ := keptO id hid; exact ⟨o, h1⟩
  have hlow : ∀ id ∈ a.ids, id < σ0.next := fun id hid => by
    rcases List.mem_append.1 hid with h1 | h1
    · obtain ⟨p, hp, rfl⟩ := List.mem_map.1 h1
      obtain ⟨_, _, _, _, _, _, q⟩ := obsO p hp
      exact q
    · obtain ⟨_, _, _, q, _⟩ := keptO id h1
      exact q
  have hobnd : ((a.put σ0 (x, y)).ob.map (·.1)).Nodup := by
    rw [hkey, hnames]
    have h1 := List.nodup_append.1 idsnd
    refine List.nodup_append.2 ⟨h1.1, List.nodup_append.2 ⟨List.nodup_range' .., h1.2.1, fun i hi j hj e => ?_⟩, fun i hi j hj e => ?_⟩
    · rw [List.mem_range'_1] at hi
      have := hlow j (List.mem_append_right _ hj)
      omega
    · rcases List.mem_append.1 hj with hj | hj
      · rw [List.mem_range'_1] at hj
        have := hlow i (List.mem_append_left _ hi)
        omega
      · exact h1.2.2 i hi j hj e
  have obAt : ∀ {id : Nat} {o : DOb}, (id, o) ∈ (a.put σ0 (x, y)).ob → (a.put σ0 (x, y)).O id = some o := fun hm => dlo_mem hobnd hm
  have inObs : ∀ (p : Nat × TypeId × Nat) (j : Nat), (p, j) ∈ a.obs.zipIdx → (p.1, DOb.var p.2.1 p.2.2 (dl (a.osh.mk y (a.sh.mk x σ0.next).2.2).1 j).cell) ∈ (a.put σ0 (x, y)).ob := fun p j hp =>
    List.mem_append_left _ (List.mem_map.2 ⟨(p, j), hp, rfl⟩)
  have inObj : ∀ q ∈ objs, q ∈ (a.put σ0 (x, y)).ob := fun q hq => List.mem_append_right _ (List.mem_append_left _ hq)
  have inKeep : ∀ id ∈ a.keepO, ∀ o, σ0.O id = some o → (id, o) ∈ (a.put σ0 (x, y)).ob := fun id hid o ho =>
    List.mem_append_right _ (List.mem_append_right _ (List.mem_filterMap.2 ⟨id, hid, by rw [ho]; rfl⟩))
  have idsO : ∀ id ∈ a.ids, rnm L id = id ∧ ∀ o, σ0.O id = some o → ∃ o1 o2, σ.st.O id = some o1 ∧ (a.put σ0 (x, y)).st.O id = some o2 ∧ o2.ver = o.toOb.ver ∧ o1.ver = o2.ver ∧ o1.isVar = o2.isVar := fun id hm => by
    refine ⟨hid id (hlow id hm), fun o ho => ?_⟩
    rcases List.mem_append.1 hm with h1 | h1
    · obtain ⟨p, hp, rfl⟩ := List.mem_map.1 h1
      obtain ⟨f, e', n', f', q1, q2, _⟩ := obsO p hp
      rw [q2] at ho
      cases ho
      obtain ⟨j, hj, e⟩ := List.getElem_of_mem hp
      have hmem : (p, j) ∈ a.obs.zipIdx := by rw [List.mem_iff_getElem?]; exact ⟨j, by simp [List.getElem?_eq_getElem hj, e]⟩
      exact ⟨_, _, O_st_some q1, O_st_some (obAt (inObs p j hmem)), rfl, rfl, rfl⟩
    · obtain ⟨o', q1, q2, _⟩ := keptO id h1
      rw [q1] at ho
      cases ho
      exact ⟨_, _, O_st_some q2, O_st_some (obAt (inKeep id h1 _ q1)), rfl, rfl, rfl⟩
  have slf : ∀ {v : DV}, v.refB σ0.O a.ids = true → VW (rnm L) σ.st.O (a.put σ0 (x, y)).st.O v.toV v.toV := fun hv => refB_vw idsO hv
  have hlt : ∀ id o, σ.O id = some o → id < σ.next := fun id o ho => by
    rcases Nat.lt_or_ge id σ.next with h1 | h1
    · exact h1
    · have := hr.nx id h1
      rw [O_st_some ho] at this
      cases this
  -- the shapes
  have hz : ∀ q ∈ objs.zip S, (a.put σ0 (x, y)).st.O q.1.1 = some q.1.2.toOb ∧ match q.2 with
      | some id => rnm L q.1.1 = id
      | none => σ.st.O (rnm L q.1.1) = none := fun q hq => by
    refine ⟨O_st_some (obAt (inObj q.1 (List.of_mem_zip hq).1)), ?_⟩
    obtain ⟨j, _, e⟩ := hren q hq
    cases h2 : q.2 with
    | some id => simp only; rw [e, h2]; rfl
    | none =>
      simp only
      rw [e, h2]
      exact hr.nx _ (by show σ.next ≤ σ.next + j; omega)
  have hptr : ∀ id ∈ a.sh.ptrs ++ a.osh.ptrs, rnm L id = id ∧ ∃ o o', σ.st.O id = some o ∧ (a.put σ0 (x, y)).st.O id = some o' ∧ o.ver = 0 := fun id hp => by
    have h1 := k6 id hp
    simp only [Bool.or_eq_true, Bool.and_eq_true, List.contains_eq_mem, decide_eq_true_eq] at h1
    rcases h1 with h1 | ⟨h1, h2⟩
    · obtain ⟨p, hp', rfl⟩ := List.mem_map.1 h1
      obtain ⟨f, e', n', f', q1, q2, _⟩ := obsO p hp'
      obtain ⟨e1, e2⟩ := idsO p.1 (List.mem_append_left _ h1)
      obtain ⟨o1, o2, g3, g4, g5, g6⟩ := e2 _ q2
      exact ⟨e1, o1, o2, g3, g4, by rw [g6.1, g5]; rfl⟩
    · obtain ⟨e1, e2⟩ := idsO id (List.mem_append_right _ h1)
      cases ho : σ0.O id with
      | none => rw [ho] at h2; cases h2
      | some o =>
        rw [ho] at h2
        obtain ⟨o1, o2, g3, g4, g5, g6⟩ := e2 _ ho
        refine ⟨e1, o1, o2, g3, g4, ?_⟩
        cases o with
        | var => rw [g6.1, g5]; rfl
        | _ => cases h2
  obtain ⟨v1, w1⟩ := hx.vw (rnm L) (a.put σ0 (x, y)).st.O (fun id hi => hptr id (List.mem_append_left _ hi)) fun q hq => hz q (by rw [hzip]; exact List.mem_append_left _ hq)
  obtain ⟨v2, w2⟩ := hy.vw (rnm L) (a.put σ0 (x, y)).st.O (fun id hi => hptr id (List.mem_append_right _ hi)) fun q hq => hz q (by rw [hzip]; exact List.mem_append_right _ hq)
  have hw : ∀ q ∈ objs.zip S, match q.2 with
      | some id => ∃ o, σ.O id = some o ∧ OW (rnm L) σ.st.O (a.put σ0 (x, y)).st.O o.toOb q.1.2.toOb
      | none => ∃ zz e s v f, q.1.2.toOb = .arr zz e s v 0 f := fun q hq => by
    rw [hzip] at hq
    rcases List.mem_append.1 hq with hq | hq
    · exact w1 q hq
    · exact w2 q hq
  have hnext : (a.put σ0 (x, y)).next = σ0.next + (c1 + c2) := by
    show (a.osh.mk y (a.sh.mk x σ0.next).2.2).2.2 = _
    omega
  have hweak : WeakR σ0.m L σ.st (a.put σ0 (x, y)).st := by
    refine ⟨hN.symm, allLt_iff.2 fun id hi => ⟨hid id (by omega), ?_⟩, allP_iff.2 fun p hp => ?_, ?_, allP_iff.2 fun p hp => ?_⟩
    · have hc : id ∈ a.ids := by simpa using k5 id (List.mem_range.2 hi)
      obtain ⟨_, e2⟩ := idsO id hc
      unfold keptP
      have : ∃ o, σ0.O id = some o := by
        rcases List.mem_append.1 hc with h1 | h1
        · obtain ⟨p, hp, rfl⟩ := List.mem_map.1 h1
          obtain ⟨_, _, _, _, _, q2, _⟩ := obsO p hp
          exact ⟨_, q2⟩
        · obtain ⟨o, q1, _⟩ := keptO id h1
          exact ⟨o, q1⟩
      obtain ⟨o, ho⟩ := this
      obtain ⟨o1, o2, g3, g4, g5, g6⟩ := e2 o ho
      rw [g3, g4]
      exact g6.1.symm
    · obtain ⟨q, hq, rfl⟩ := List.mem_map.1 hp
      unfold obR
      rcases List.mem_append.1 hq with hq | hq
      · obtain ⟨z, hz', rfl⟩ := List.mem_map.1 hq
        obtain ⟨p, j⟩ := z
        have hpm : p ∈ a.obs := List.mem_of_getElem? (zipIdx_mem hz')
        obtain ⟨f, e', n', f', q1, q2, q3⟩ := obsO p hpm
        refine ⟨by show p.1 < _; rw [show (a.put σ0 (x, y)).st.next = (a.put σ0 (x, y)).next from rfl, hnext]; omega, ?_⟩
        simp only [hid p.1 q3, O_st_some q1]
        have := v2 j
        have hj : a.obs.getD j (0, 0, 0) = p := by rw [List.getD_eq_getElem?_getD, zipIdx_mem hz']; rfl
        simp only [hj, q1] at this
        exact ⟨rfl, rfl, allLt_iff.2 fun t ht => VW_cell this t ht⟩
      · rcases List.mem_append.1 hq with hq | hq
        · have hz1 : ∃ b, (q, b) ∈ objs.zip S := by
            obtain ⟨j, hj, e⟩ := List.getElem_of_mem hq
            have hj' : j < S.length := by rw [← hlen]; exact hj
            refine ⟨S[j], ?_⟩
            rw [List.mem_iff_getElem?]
            exact ⟨j, by rw [List.getElem?_zip_eq_some]; exact ⟨by rw [List.getElem?_eq_getElem hj]; exact congrArg some e, List.getElem?_eq_getElem hj'⟩⟩
          obtain ⟨b, hb⟩ := hz1
          have hq1 : q.1 ∈ objs.map (·.1) := List.mem_map_of_mem (f := (·.1)) hq
          rw [hnames, List.mem_range'_1] at hq1
          refine ⟨by show q.1 < _; rw [show (a.put σ0 (x, y)).st.next = (a.put σ0 (x, y)).next from rfl, hnext]; omega, ?_⟩
          obtain ⟨_, h2⟩ := hz (q, b) hb
          have h3 := hw (q, b) hb
          cases b with
          | some id =>
            simp only at h2 h3
            obtain ⟨o, ho, hO⟩ := h3
            simp only [h2, O_st_some ho]
            exact hO
          | none =>
            simp only at h2 h3
            obtain ⟨zz, e, s2, v, f, he⟩ := h3
            simp only [h2, he]
            exact ⟨by omega, trivial⟩
        · obtain ⟨id, hid', he⟩ := List.mem_filterMap.1 hq
          obtain ⟨o, q1, q2, q3, q4⟩ := keptO id hid'
          rw [q1] at he
          cases he
          refine ⟨by show id < _; rw [show (a.put σ0 (x, y)).st.next = (a.put σ0 (x, y)).next from rfl, hnext]; omega, ?_⟩
          simp only [hid id q3, O_st_some q2]
          cases o with
          | var e n f =>
            simp only [DOb.refB, List.all_eq_true, List.mem_range] at q4
            exact ⟨rfl, rfl, allLt_iff.2 fun t ht => slf (q4 t ht)⟩
          | arr zz e τ v l => exact ⟨.inl rfl, rfl, rfl, rfl, fun i j _ _ => T.le_refl _⟩
          | map ag κ τ l => exact ⟨rfl, fun _ _ => rfl, fun _ _ => T.le_refl _⟩
          | gone v => trivial
    · -- no two of one source
      have e1 : (a.put σ0 (x, y)).st.ob.map (fun p => rnm L p.1) = ((a.put σ0 (x, y)).ob.map (·.1)).map (rnm L) := by
        show List.map _ (List.map _ (a.put σ0 (x, y)).ob) = _
        rw [List.map_map, List.map_map]; rfl
      rw [e1, hkey, List.map_append, List.map_append]
      have i1 : (a.obs.map (·.1)).map (rnm L) = a.obs.map (·.1) := by
        conv => rhs; rw [← List.map_id (a.obs.map (·.1))]
        exact List.map_congr_left fun id hi => hid id (hlow id (List.mem_append_left _ hi))
      have i2 : a.keepO.map (rnm L) = a.keepO := by
        conv => rhs; rw [← List.map_id a.keepO]
        exact List.map_congr_left fun id hi => hid id (hlow id (List.mem_append_right _ hi))
      rw [i1, i2]
      have hmem : ∀ k ∈ (objs.map (·.1)).map (rnm L), ∃ (j : Nat) (q : Src), (objs.zip S)[j]? = some q ∧ k = q.2.getD (σ.next + j) := fun k hk => by
        obtain ⟨n, hn, rfl⟩ := List.mem_map.1 hk
        obtain ⟨q, hq, rfl⟩ := List.mem_map.1 hn
        obtain ⟨j, hj, e⟩ := List.getElem_of_mem hq
        have hj' : j < S.length := by rw [← hlen]; exact hj
        have hz1 : (objs.zip S)[j]? = some (q, S[j]) := by rw [List.getElem?_zip_eq_some]; exact ⟨by rw [List.getElem?_eq_getElem hj]; exact congrArg some e, List.getElem?_eq_getElem hj'⟩
        have hzn : (objs.zip S).map (fun q : Src => q.1.1) = objs.map (·.1) := by
          have : (fun q : Src => q.1.1) = (fun q : Nat × DOb => q.1) ∘ fun q : Src => q.1 := rfl
          rw [this, ← List.map_map, List.map_fst_zip (by omega)]
        exact ⟨j, _, hz1, rnm_mem hLnd (List.mem_map.2 ⟨((q, S[j]), j), by rw [List.mem_iff_getElem?]; exact ⟨j, by rw [List.getElem?_zipIdx, hz1]; simp⟩, rfl⟩)⟩
      have hout : ∀ k ∈ (objs.map (·.1)).map (rnm L), k ∉ a.ids := fun k hk hin => by
        obtain ⟨j, q, hq, rfl⟩ := hmem k hk
        cases h2 : q.2 with
        | some id => rw [h2] at hin; exact hS q (List.mem_of_getElem? hq) id h2 hin
        | none =>
          rw [h2] at hin
          simp only [Option.getD_none] at hin
          have : ∃ o, σ.O (σ.next + j) = some o := by
            rcases List.mem_append.1 hin with h1 | h1
            · obtain ⟨p, hp, e⟩ := List.mem_map.1 h1
              obtain ⟨f, _, _, _, q1, _⟩ := obsO p hp
              rw [← e]; exact ⟨_, q1⟩
            · obtain ⟨o, _, q2, _⟩ := keptO _ h1
              exact ⟨o, q2⟩
          obtain ⟨o, ho⟩ := this
          have := hlt _ _ ho
          omega
      have hmid : ((objs.map (·.1)).map (rnm L)).Nodup := by
        have e2 : (objs.map (·.1)).map (rnm L) = (objs.zip S).zipIdx.map fun p => p.1.2.getD (σ.next + p.2) := by
          rw [← hLk]
          have : ∀ l : List (Nat × Nat), (∀ p ∈ l, rnm L p.1 = p.2) → (l.map (·.1)).map (rnm L) = l.map (·.2) := fun l hl => by
            rw [List.map_map]
            exact List.map_congr_left fun p hp => hl p hp
          rw [this L fun p hp => rnm_mem hLnd hp]
          show List.map _ (List.map _ (objs.zip S).zipIdx) = _
          rw [List.map_map]; rfl
        rw [e2]
        rw [List.Nodup, List.pairwise_iff_getElem]
        intro i j hi hj hij e
        simp only [List.length_map, List.length_zipIdx] at hi hj
        simp only [List.getElem_map, List.getElem_zipIdx, Nat.zero_add] at e
        have mi : (objs.zip S)[i] ∈ objs.zip S := List.getElem_mem _
        have mj : (objs.zip S)[j] ∈ objs.zip S := List.getElem_mem _
        have si : S[i]? = some ((objs.zip S)[i]).2 := by
          have := List.getElem?_eq_getElem hi
          rw [List.getElem?_zip_eq_some] at this
          exact this.2
        have sj : S[j]? = some ((objs.zip S)[j]).2 := by
          have := List.getElem?_eq_getElem hj
          rw [List.getElem?_zip_eq_some] at this
          exact this.2
        have lo : ∀ q ∈ objs.zip S, ∀ id, q.2 = some id → id < σ.next := fun q hq id hq2 => by
          have := hw q hq
          rw [hq2] at this
          obtain ⟨o, ho, _⟩ := this
          exact hlt id o ho
        cases h1 : ((objs.zip S)[i]).2 with
        | some u =>
          rw [h1] at e si
          cases h2 : ((objs.zip S)[j]).2 with
          | some v =>
            rw [h2] at e sj
            simp only [Option.getD_some] at e
            subst e
            have := nodupO_ok hnd.1 i j u si sj
            omega
          | none =>
            rw [h2] at e
            simp only [Option.getD_some, Option.getD_none] at e
            have := lo _ mi u h1
            omega
        | none =>
          rw [h1] at e
          cases h2 : ((objs.zip S)[j]).2 with
          | some v =>
            rw [h2] at e
            simp only [Option.getD_some, Option.getD_none] at e
            have := lo _ mj v h2
            omega
          | none =>
            rw [h2] at e
            simp only [Option.getD_none] at e
            omega
      have h1 := List.nodup_append.1 idsnd
      refine List.nodup_append.2 ⟨h1.1, List.nodup_append.2 ⟨hmid, h1.2.1, fun i hi j hj e => ?_⟩, fun i hi j hj e => ?_⟩
      · exact hout i hi (e ▸ List.mem_append_right _ hj)
      · rcases List.mem_append.1 hj with hj | hj
        · exact hout j hj (e ▸ List.mem_append_left _ hi)
        · exact h1.2.2 i hi j hj e
    · obtain ⟨q, hq, rfl⟩ := List.mem_map.1 hp
      rcases List.mem_append.1 hq with hq | hq
      · obtain ⟨z, hz', rfl⟩ := List.mem_map.1 hq
        obtain ⟨t, j⟩ := z
        have := v1 j
        have hj : a.sl.getD j 0 = t := by rw [List.getD_eq_getElem?_getD, zipIdx_mem hz']; rfl
        rw [hj] at this
        rw [get_st]
        exact this
      · obtain ⟨t, ht, rfl⟩ := List.mem_map.1 hq
        obtain ⟨q1, q2, q3⟩ := k1 t ht
        have := hsame _ q1
        rw [dat_tmp, dat_tmp] at this
        have e : σ.get t = σ0.get t := congrArg Prod.fst this
        rw [get_st, e]
        exact slf q2
  obtain ⟨ρ', hrel⟩ := (weakR_of hweak).2 E ρ act w hE hr
  refine ⟨ρ', h, hrel, by rw [hnext]; omega, fun l hl => ?_⟩
  simp only [Bool.or_eq_true, List.any_eq_true] at hl
  rcases hl with ⟨t, ht, e⟩ | ⟨k, hk, e⟩
  · obtain rfl := nbeq e
    rw [dat_tmp, dat_tmp]
    congr 1
    obtain ⟨q1, q2, q3⟩ := k1 t ht
    have hns : t ∉ a.sl := by simpa using q3
    show dlk (a.sl.zipIdx.map (fun p => (p.1, dl (a.sh.mk x σ0.next).1 p.2)) ++ a.keepT.map fun t => (t, σ0.get t)) t = σ0.get t
    have l1 : ∀ (l l' : List (Nat × DV)), t ∉ l.map (·.1) → dlk (l ++ l') t = dlk l' t := fun l l' => by
      induction l with
      | nil => intro _; rfl
      | cons p l ih =>
        intro h
        simp only [List.map_cons, List.mem_cons, not_or] at h
        obtain ⟨p1, p2⟩ := p
        simp only [List.cons_append, dlk, nbeq_iff]
        rw [show decide (p1 = t) = false by simpa using Ne.symm h.1]
        exact ih h.2
    rw [l1 _ _ (by
      rw [List.map_map]
      have : ((fun x : Nat × DV => x.1) ∘ fun p : Nat × Nat => (p.1, dl (a.sh.mk x σ0.next).1 p.2)) = fun p : Nat × Nat => p.1 := rfl
      rw [this, List.zipIdx_map_fst]
      exact hns)]
    have l2 : ∀ l : List Nat, t ∈ l → dlk (l.map fun t => (t, σ0.get t)) t = σ0.get t := fun l => by
      induction l with
      | nil => intro h; cases h
      | cons q l ih =>
        intro h
        simp only [List.map_cons, dlk, nbeq_iff]
        by_cases hq : q = t
        · subst hq; simp
        · rw [show decide (q = t) = false by simpa using hq]
          exact ih (by simpa [Ne.symm hq] using h)
    exact l2 _ ht
  · obtain rfl := nbeq e
    rw [dat_obj, dat_obj]
    congr 1
    obtain ⟨o, q1, q2, _⟩ := keptO k hk
    rw [obAt (inKeep k hk o q1), q1]
theorem join_ok {a : Ann} {σ0 σ : DSt} {K : den a.ty → Option R} (h : a.get σ0 σ K = some r) (hN : σ.N = σ0.N) (hmn : σ0.m ≤ σ0.next) (hsame : ∀ l, σ.wr l = false → σ.at' l = σ0.at' l)
    {E : Env} {ρ : Pl} {act : Act} {w : World} (hE : ∀ id, σ0.m ≤ id → E.O id = none) (hr : Rel E ρ σ.st act w) :
    ∃ e ρ', K e = some r ∧ Rel E ρ' (a.put σ0 e).st act w ∧ σ0.next ≤ (a.put σ0 e).next ∧
      ∀ l, (a.keepT.any (fun t => Nat.beq (2 * t) l) || a.keepO.any fun k => Nat.beq (2 * k + 1) l) = true → (a.put σ0 e).at' l = σ0.at' l := by
  obtain ⟨⟨-, -, c1⟩, c2, c3⟩ := cuts_ok (E := E) (ρ := ρ) (act := act) (w := w) (cutsOf a.sl a.sh) (σ := σ)
  have h' : a.getS σ0 ((σ.cuts (cutsOf a.sl a.sh)).share (a.rows (σ.cuts (cutsOf a.sl a.sh)))) K = some r := h
  generalize σ.cuts (cutsOf a.sl a.sh) = σ1 at h' c1 c2 c3
  refine join_okS (σ := σ1.share (a.rows σ1)) h' ?_ hmn (fun l hl => ?_) hE (share_rel _ (c3 hr))
  · rw [← hN, ← c1]; cases a.rows σ1 <;> rfl
  · obtain ⟨h1, h2⟩ := share_at σ1 _ hl
    obtain ⟨h3, h4⟩ := c2 l h1
    exact (h2.trans h4).trans (hsame l h3)
end
end Go.Proofs.Ytlmnhbobgfpanaa
