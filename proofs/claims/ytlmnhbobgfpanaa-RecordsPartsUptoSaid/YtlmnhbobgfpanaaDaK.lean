/-
  A function's entry out of its typed body. General; nothing of this program.
-/
import Derived.Test.YtlmnhbobgfpanaaDaJ
namespace Go.Proofs.Ytlmnhbobgfpanaa
open Go.RowKit

section
variable {P : Program} {E : Env} {ρ ρ' ρc : Pl} {O O' Oc : Ow} {σ σ' : St} {a : Act} {w w' : World} {N m : Nat} {μ : Nat → Nat} {b : Sees}
theorem fc_ofW {f : FuncId} {fn : Func} {code : Code} {rs : List RVx} {os : List Ob} {args : List V} {r : Ret}
    (hf : P.funcs[f]? = some fn) (hn : (fn.name == "runtime.NumGoroutine") = false) (hb : fn.body = some code) (hr : compRes P fn.results.toList = some rs) (ha : args.length ≤ fn.ntmps)
    (hbody : ∀ (E : Env) (ρ : Pl) (a : Act) (w : World), E.O = lol os → (∀ id, os.length ≤ id → E.O id = none) → Rel E ρ (st0 os args fn.ntmps) a w →
      code.wp P (fun e a' w' => ∃ x σ' ρ', e = AX.out x ∧ Rel E ρ' σ' a' w' ∧ match x with
        | .exit _ => False
        | _ => ∃ v nl, resV σ' rs = some v ∧ Gives os.length nl σ' v r) a w) : FC P f os args r := by
  refine ⟨⟨fn, hf, hn, by rw [hb]; rfl⟩, fun ok ρ w vs hmo hgl h1 h2 h3 h4 h5 => ?_⟩
  have hO : (st0 os args fn.ntmps).O = lol os := funext fun k => lo_zip0 os k
  have rel0 : Rel ⟨w, ρ, lol os, ok, nobody⟩ ρ (st0 os args fn.ntmps) { tmps := vs ++ Array.replicate (fn.ntmps - vs.size) undef, defers := [] } w := by
    have okb' : ∀ qc g c, g < w.heap.size → okb ok ρ (lol os) qc g c → okb (Env.b ⟨w, ρ, lol os, ok, nobody⟩) ρ (lol os) qc g c := fun qc g c _ k => ⟨.inl k.1, k.2⟩
    have up : ∀ {v : V} {x : Value}, v.rel ok ρ (lol os) w x → v.rel (Env.b ⟨w, ρ, lol os, ok, nobody⟩) ρ (lol os) w x := fun {v x} hv => by
      have key : ∀ {v : V} {x : Value}, v.rel ok ρ (lol os) w x → (v.ren fun k => k).rel (Env.b ⟨w, ρ, lol os, ok, nobody⟩) ρ (lol os) w x := fun {v x} hv =>
        V.rel_ren (r := fun k => k) (fun id o ho => ⟨by rw [ho]; congr 1; exact (oren_id o).symm, rfl⟩) (.inl okb') hv
      have := key hv
      rwa [ren_id] at this
    refine ⟨fun t => ?_, by simp [h4, st0]; omega, fun id o ho => ?_, fun id o g ho hl hg => ?_, fun id id' o o' g k1 k2 l1 l2 p1 p2 => ?_, fun id hid => ?_, by rw [hO]; exact ExtE.refl, Nat.le_refl _, rfl, rfl, rfl, rfl, by rw [hO]; exact hgl.mono okb', hmo⟩
    · rw [hO]
      show (lk (args.zipIdx.map (fun p => (p.2, p.1)) ++ _) t).rel _ _ _ _ _
      by_cases ht : t < args.length
      · rw [lk_zip args 0 t _ (Nat.zero_le _) (by omega)]
        have := h5 t (args.getD t .dead) (by simp [List.getD, ht])
        rw [Nat.sub_zero]
        have e : (vs ++ Array.replicate (fn.ntmps - vs.size) undef).getD t undef = vs.getD t undef := by
          rw [Array.getD_eq_getD_getElem?, Array.getElem?_append_left (by omega), ← Array.getD_eq_getD_getElem?]
        rw [e]
        exact up this
      · rw [lk_append _ _ _ (fun p hp e => by
          obtain ⟨q, hq, rfl⟩ := List.mem_map.1 hp
          obtain ⟨i, hi, rfl⟩ := List.getElem_of_mem hq
          simp only [List.length_zipIdx] at hi
          simp at e
          omega)]
        rcases lk_in (l := (List.range (fn.ntmps - args.length)).map fun j => (args.length + j, V.im (.val undef))) (k := t) with e | e
        · rw [e]; trivial
        · obtain ⟨j, hj, e2⟩ := List.mem_map.1 e
          have e3 := congrArg Prod.snd e2
          simp only at e3
          rw [← e3]
          show _ = undef
          rw [Array.getD_eq_getD_getElem?, Array.getElem?_append_right (by omega), Array.getElem?_replicate]
          split <;> rfl
    · rw [hO] at ho ⊢
      have := h1 id o ho
      have key := Ob.rel_ren (r := fun k => k) (Oc := lol os) (O' := lol os) (ρc := ρ) (ρ' := ρ) (b' := Env.b ⟨w, ρ, lol os, ok, nobody⟩) (fun id o ho => ⟨by rw [ho]; congr 1; exact (oren_id o).symm, rfl⟩) (.inl okb') this
      rwa [oren_id] at key
    · rw [hO] at ho
      exact ⟨.inr (.inl ⟨id, o, ho, hl, hg⟩), h2 id o g ho hl hg⟩
    · rw [hO] at k1 k2
      exact h3 id id' o o' g k1 k2 l1 l2 p1 p2
    · rw [hO]
      exact List.getElem?_eq_none hid
  refine calls_of_wp hf hb (wp_mono (hbody _ _ _ _ rfl (fun id hid => List.getElem?_eq_none hid) rel0) ?_)
  rintro e a' w' ⟨x, σ, ρ', rfl, hrel, hq⟩
  have fin : (∃ v nl, resV σ rs = some v ∧ Gives os.length nl σ v r) → a'.defers = [] ∧ ∃ v, (results fn a'.tmps).run P w' = .ok v w' ∧ ∃ ρ' x, Ending.returned v = .returned x ∧ r.os.length = os.length ∧
      r.v.rel (Env.b ⟨w, ρ, lol os, ok, nobody⟩) ρ' (lol (r.os ++ r.new)) w' x ∧
      (∀ k o, lol (r.os ++ r.new) k = some o → o.rel (Env.b ⟨w, ρ, lol os, ok, nobody⟩) ρ' (lol (r.os ++ r.new)) w' (ρ' k)) ∧
      (∀ k o g, lol (r.os ++ r.new) k = some o → o.live = true → ρ' k = some g → (w.heap.size ≤ g ∨ own ρ (lol os) g) ∧ g < w'.heap.size) ∧
      (∀ k k' o o' g, lol (r.os ++ r.new) k = some o → lol (r.os ++ r.new) k' = some o' → o.live = true → o'.live = true → ρ' k = some g → ρ' k' = some g → k = k') ∧
      Ext ρ (lol os) w ρ' (lol (r.os ++ r.new)) w' ∧ w.heap.size ≤ w'.heap.size ∧ w'.os = w.os ∧ w'.tape = w.tape ∧ w'.output = w.output := by
    rintro ⟨v, nl, hv, g1, g2, g3, g4, g5, g6⟩
    rw [allP_iff] at g4 g5
    obtain ⟨x, hx, hvx⟩ := res_run hrel hr hv
    have hob : ∀ k o', lol (r.os ++ r.new) k = some o' → (∃ o, σ.O (mu os.length nl k) = some o ∧ OW (mu os.length nl) σ.O (lol (r.os ++ r.new)) o o' ∧ (k < os.length → o'.ver = o.ver)) ∨ (σ.O (mu os.length nl k) = none ∧ os.length ≤ k ∧ ∃ zz e s v f, o' = .arr zz e s v 0 f) := fun k o' ho => by
      have hp := g5 (o', k) (by
        rw [List.mem_iff_getElem?]
        have ho' : (r.os ++ r.new)[k]? = some o' := ho
        exact ⟨k, by rw [List.getElem?_zipIdx, ho']; simp⟩)
      simp only at hp
      split at hp
      · rename_i o e
        exact .inl ⟨o, e, hp⟩
      · rename_i e
        obtain ⟨hmk, hp⟩ := hp
        cases o' with
        | arr zz' e' s v n f => exact .inr ⟨e, hmk, zz', e', s, v, f, by simp only at hp; rw [hp]⟩
        | _ => exact hp.elim
    have nm : Named (mu os.length nl) ρ' σ.O (fun k => match σ.O (mu os.length nl k) with | some _ => ρ' (mu os.length nl k) | none => none) (lol (r.os ++ r.new)) := fun id o' ho => by
      rcases hob id o' ho with ⟨o, e1, e2, _⟩ | ⟨e1, e2, e3⟩
      · exact .inl ⟨o, e1, e2.hd, by simp only [e1]⟩
      · exact .inr ⟨e1, by simp only [e1], e3⟩
    have hlen : ∀ k o, lol (r.os ++ r.new) k = some o → k < os.length + nl.length := fun k o ho => by
      have := (List.getElem?_eq_some_iff.1 ho).1
      rw [List.length_append, g2, ← g1] at this
      exact this
    have hmu : ∀ k k', k < os.length + nl.length → k' < os.length + nl.length → mu os.length nl k = mu os.length nl k' → k = k' := fun k k' hk hk' e => by
      have hge : ∀ q, ¬ q < os.length → q < os.length + nl.length → ∃ h : q - os.length < nl.length, mu os.length nl q = nl[q - os.length] ∧ os.length ≤ nl[q - os.length] := fun q h1 h2 => by
        have hq : q - os.length < nl.length := by omega
        refine ⟨hq, ?_, g4 _ (List.getElem_mem hq)⟩
        simp only [mu, if_neg h1]
        rw [List.getD_eq_getElem?_getD, List.getElem?_eq_getElem hq]
        rfl
      by_cases c1 : k < os.length
      · by_cases c2 : k' < os.length
        · simpa only [mu, if_pos c1, if_pos c2] using e
        · obtain ⟨q1, q2, q3⟩ := hge k' c2 hk'
          simp only [mu, if_pos c1] at e
          simp only [mu] at q2
          omega
      · obtain ⟨p1, p2, p3⟩ := hge k c1 hk
        by_cases c2 : k' < os.length
        · simp only [mu, if_pos c2] at e
          simp only [mu] at p2
          omega
        · obtain ⟨q1, q2, q3⟩ := hge k' c2 hk'
          rw [p2, q2] at e
          have := (List.getElem_inj g3).1 e
          omega
    refine ⟨hrel.df, x, hx, (fun k => match σ.O (mu os.length nl k) with | some _ => ρ' (mu os.length nl k) | none => none), x, rfl, g2, VW.rel (Env.mono hrel.le) nm hrel.ob g6 hvx, fun k o' ho => ?_, fun k o' g ho hl hg => ?_, fun k k' o1 o2 g k1 k2 l1 l2 p1 p2 => ?_, ⟨fun g hg ho => ?_, fun g c hg ho => ?_, fun id o ho => ?_⟩, hrel.bs, hrel.os, hrel.tape, hrel.output⟩
    · rcases hob k o' ho with ⟨o, e1, e2, _⟩ | ⟨e1, e2, zz, e, s, v, f, rfl⟩
      · simp only [e1]
        exact OW.rel (Env.mono hrel.le) nm hrel.ob e2 (hrel.ob _ o e1)
      · simp only [e1]
        exact .inl ⟨rfl, rfl⟩
    · rcases hob k o' ho with ⟨o, e1, e2, _⟩ | ⟨e1, _⟩
      · simp only [e1] at hg
        have hh := hrel.hi _ o g e1 (by rw [← Ob.hd_live e2.hd]; exact hl) hg
        exact ⟨hh.1.imp id fun k => k.elim id fun k => k.elim, hh.2⟩
      · simp only [e1] at hg; cases hg
    · rcases hob k o1 k1 with ⟨q1, e1, e2, _⟩ | ⟨e1, _⟩
      · rcases hob k' o2 k2 with ⟨q2, f1, f2, _⟩ | ⟨f1, _⟩
        · simp only [e1] at p1
          simp only [f1] at p2
          exact hmu k k' (hlen k o1 k1) (hlen k' o2 k2) (hrel.inj _ _ q1 q2 g e1 f1 (by rw [← Ob.hd_live e2.hd]; exact l1) (by rw [← Ob.hd_live f2.hd]; exact l2) p1 p2)
        · simp only [f1] at p2; cases p2
      · simp only [e1] at p1; cases p1
    · obtain ⟨k1, k2⟩ := hrel.ext.keep g hg fun k => k.elim ho id
      exact ⟨k1, fun k => k2 (nm.own k)⟩
    · obtain ⟨k1, k2⟩ := hrel.ext.cell g c hg fun k => k.elim ho id
      exact ⟨k1, fun k => k2 (nm.ownc k)⟩
    · have hid : id < os.length := (List.getElem?_eq_some_iff.1 ho).1
      obtain ⟨o1, e1, e2, e3⟩ := hrel.ext.same id o ho
      have hid2 : id < (r.os ++ r.new).length := by rw [List.length_append, g2]; omega
      have ho2 : lol (r.os ++ r.new) id = some (r.os ++ r.new)[id] := List.getElem?_eq_getElem hid2
      have hmi : mu os.length nl id = id := by simp only [mu, if_pos hid]
      rcases hob id _ ho2 with ⟨o4, q1, q2, q3⟩ | ⟨q1, q2, _⟩
      · rw [hmi, e1] at q1; cases q1
        refine ⟨_, ho2, by rw [q3 hid]; exact e2, fun hv => ?_⟩
        rw [q3 hid] at hv
        obtain ⟨f1, f2, f3⟩ := e3 hv
        refine ⟨by simp only [hmi, e1]; exact f1, ?_, f3⟩
        exact fits_hd f2 q2.hd
      · omega
  cases x with
  | normal => exact fin hq
  | ret => exact fin hq
  | exit id => exact hq.elim
end

def BodyD (P : Program) (f : FuncId) (N : Nat) (c : AC) (rs : List RVx) : Prop :=
  ∃ fn code, P.funcs[f]? = some fn ∧ (fn.name == "runtime.NumGoroutine") = false ∧ fn.body = some code ∧ fn.ntmps = N ∧ compC P false N code = some c ∧ compRes P fn.results.toList = some rs
theorem bodyD_mk {P : Program} {f : FuncId} {fn : Func} {N : Nat} {c : AC} {rs : List RVx} (h1 : P.funcs[f]? = some fn) (h2 : (fn.name == "runtime.NumGoroutine") = false) (h3 : fn.ntmps = N) (h4 : (fn.body.bind fun code => compC P false N code) = some c) (h5 : compRes P fn.results.toList = some rs) : BodyD P f N c rs := by
  cases hb : fn.body with
  | none => rw [hb] at h4; cases h4
  | some code => rw [hb] at h4; exact ⟨fn, code, h1, h2, hb, h3, h4, h5⟩
theorem dres_ok {σ : DSt} : ∀ {rs : List RVx} {vs : List DV}, dres σ rs = some vs → rvVs σ.st rs = some (vs.map DV.toV)
  | [], vs, h => by cases h; rfl
  | .tmp t :: rs, vs, h => by
    simp only [dres, Option.map_eq_some_iff] at h
    obtain ⟨l, h1, rfl⟩ := h
    simp only [rvVs, rvV, dres_ok h1, get_st, List.map_cons]
  | .cell p g sz :: rs, vs, h => by
    simp only [dres] at h
    split at h
    · rename_i id hp
      split at h
      · rename_i e s f ho
        have h0 := cond_some h; clear h; obtain ⟨hs, h⟩ := h0
        simp only [Option.map_eq_some_iff] at h
        obtain ⟨l, h1, rfl⟩ := h
        have hs := nble hs
        simp only [rvVs, rvV, get_st, hp, DV.toV, O_st_some ho, DOb.toOb, hs, if_true, dres_ok h1, List.map_cons]
        cases g <;> rfl
      · cases h
    · cases h
theorem resV_ok {σ : DSt} {rs : List RVx} {vs : List DV} (h : dres σ rs = some vs) : resV σ.st rs = some (match vs with
    | [v] => v
    | vs => DV.tup vs.length (dl vs)).toV := by
  unfold resV
  rw [dres_ok h]
  match vs with
  | [] => 
    simp only [List.map_nil, DV.toV]
    congr 2
  | [v] => rfl
  | v :: v' :: vs =>
    simp only [List.map_cons, DV.toV]
    congr 2
    · simp
    · funext j
      exact lf_toV (v :: v' :: vs) j
def rE (m : Nat) (ks : List Bool) (id : Nat) : Nat := if ks.getD id true = true then id else m + id
theorem kinds_cnt : ∀ {s : Sh}, s.plain = true → s.kinds.length = s.cnt := by
  intro s
  induction s with
  | box e n l ih => intro h; simp only [Sh.kinds, Sh.cnt, List.length_cons, ih h]
  | agg n l ih => intro h; exact ih h
  | tup n l ih => intro h; exact ih h
  | ifc t s ih => intro h; exact ih h
  | clo fn n l m c ih1 ih2 =>
    intro h
    simp only [Sh.plain, Bool.and_eq_true] at h
    simp only [Sh.kinds, Sh.cnt, List.length_append, ih1 h.1, ih2 h.2]
  | cons a b ih1 ih2 =>
    intro h
    simp only [Sh.plain, Bool.and_eq_true] at h
    simp only [Sh.kinds, Sh.cnt, List.length_append, ih1 h.1, ih2 h.2]
  | ptr id => intro h; cases h
  | _ => intro _; rfl
theorem mkM_ren (m : Nat) (rr : Nat → Nat) : ∀ (s : Sh) (x : den s.ty) (k : Nat), s.plain = true → (∀ j, j < s.cnt → rr (k + j) = if s.kinds.getD j true = true then k + j else m + (k + j)) →
    (∀ i, (dl (s.mkM m x k).1 i).toV = (dl (s.mk x k).1 i).toV.ren rr) ∧ (s.mkM m x k).2.1.map (fun q => (q.1, q.2.toOb)) = (s.mk x k).2.1.map (fun q => (rr q.1, q.2.toOb.ren rr)) ∧ (s.mkM m x k).2.2 = (s.mk x k).2.2 ∧
    (s.mkM m x k).1.length = (s.mk x k).1.length := by
  intro s
  have one : ∀ {v v' : DV} {i : Nat}, v.toV = v'.toV.ren rr → (dl [v] i).toV = (dl [v'] i).toV.ren rr := fun {v v' i} h => by
    cases i with
    | zero => exact h
    | succ i => rfl
  induction s with
  | own zz e τ =>
    intro x k _ h
    have h0 := h 0 (by simp [Sh.cnt])
    simp only [Nat.add_zero, Sh.kinds, List.getD_cons_zero, Bool.false_eq_true, if_false] at h0
    refine ⟨fun i => one ?_, ?_, rfl, rfl⟩
    · simp only [DV.toV, V.ren, h0]
    · simp only [Sh.mk, Sh.mkM, List.map_cons, List.map_nil, h0]; rfl
  | mown ag κ τ =>
    intro x k _ h
    have h0 := h 0 (by simp [Sh.cnt])
    simp only [Nat.add_zero, Sh.kinds, List.getD_cons_zero, Bool.false_eq_true, if_false] at h0
    refine ⟨fun i => one ?_, ?_, rfl, rfl⟩
    · simp only [DV.toV, V.ren, h0]
    · simp only [Sh.mk, Sh.mkM, List.map_cons, List.map_nil, h0]; rfl
  | box e n l ih =>
    intro x k hp h
    have h0 := h 0 (by simp [Sh.cnt])
    simp only [Nat.add_zero, Sh.kinds, List.getD_cons_zero, if_true] at h0
    obtain ⟨h1, h2, h3, h4⟩ := ih x (k + 1) hp fun j hj => by
      have := h (j + 1) (by simp only [Sh.cnt]; omega)
      simp only [Sh.kinds, List.getD_cons_succ] at this
      rw [show k + 1 + j = k + (j + 1) by omega, this]
    refine ⟨fun i => one ?_, ?_, h3, rfl⟩
    · simp only [DV.toV, V.ren, h0]
    · simp only [Sh.mk, Sh.mkM, List.map_cons, h0, h2]
      congr 2
      simp only [DOb.toOb, Ob.ren]
      congr 1
      exact funext h1
  | ptr id => intro x k hp _; cases hp
  | agg n l ih =>
    intro x k hp h
    obtain ⟨h1, h2, h3, h4⟩ := ih x k hp h
    refine ⟨fun i => one ?_, h2, h3, rfl⟩
    simp only [DV.toV, V.ren]
    congr 1
    exact funext h1
  | tup n l ih =>
    intro x k hp h
    obtain ⟨h1, h2, h3, h4⟩ := ih x k hp h
    refine ⟨fun i => one ?_, h2, h3, rfl⟩
    simp only [DV.toV, V.ren]
    congr 1
    exact funext h1
  | ifc t s ih =>
    intro x k hp h
    obtain ⟨h1, h2, h3, h4⟩ := ih x k hp h
    refine ⟨fun i => one ?_, h2, h3, rfl⟩
    simp only [DV.toV, V.ren]
    congr 1
    exact h1 0
  | clo fn n l mm c ih1 ih2 =>
    intro x k hp h
    simp only [Sh.plain, Bool.and_eq_true] at hp
    have c1 := mk_cnt l x.1 k
    have kc := kinds_cnt hp.1
    obtain ⟨h1, h2, g1, g2⟩ := ih1 x.1 k hp.1 fun j hj => by
      have := h j (by simp only [Sh.cnt]; omega)
      simp only [Sh.kinds, List.getD_eq_getElem?_getD] at this
      rw [List.getElem?_append_left (by omega), ← List.getD_eq_getElem?_getD] at this
      exact this
    obtain ⟨h3, h4, g3, g4⟩ := ih2 x.2 (l.mk x.1 k).2.2 hp.2 fun j hj => by
      rw [c1.1]
      have := h (l.cnt + j) (by simp only [Sh.cnt]; omega)
      simp only [Sh.kinds, List.getD_eq_getElem?_getD] at this
      rw [List.getElem?_append_right (by omega), kc, show l.cnt + j - l.cnt = j by omega, ← List.getD_eq_getElem?_getD] at this
      rw [show k + l.cnt + j = k + (l.cnt + j) by omega, this]
    refine ⟨fun i => one ?_, ?_, ?_, rfl⟩
    · simp only [DV.toV, V.ren, g1]
      congr 1
      · exact funext h1
      · exact funext h3
    · simp only [Sh.mk, Sh.mkM, List.map_append, h2, h4, g1]
    · simp only [Sh.mk, Sh.mkM, g1, g3]
  | cons a b ih1 ih2 =>
    intro x k hp h
    simp only [Sh.plain, Bool.and_eq_true] at hp
    have c1 := mk_cnt a x.1 k
    have kc := kinds_cnt hp.1
    obtain ⟨h1, h2, g1, g2⟩ := ih1 x.1 k hp.1 fun j hj => by
      have := h j (by simp only [Sh.cnt]; omega)
      simp only [Sh.kinds, List.getD_eq_getElem?_getD] at this
      rw [List.getElem?_append_left (by omega), ← List.getD_eq_getElem?_getD] at this
      exact this
    obtain ⟨h3, h4, g3, g4⟩ := ih2 x.2 (a.mk x.1 k).2.2 hp.2 fun j hj => by
      rw [c1.1]
      have := h (a.cnt + j) (by simp only [Sh.cnt]; omega)
      simp only [Sh.kinds, List.getD_eq_getElem?_getD] at this
      rw [List.getElem?_append_right (by omega), kc, show a.cnt + j - a.cnt = j by omega, ← List.getD_eq_getElem?_getD] at this
      rw [show k + a.cnt + j = k + (a.cnt + j) by omega, this]
    refine ⟨fun i => ?_, ?_, ?_, ?_⟩
    · cases i with
      | zero => simp only [Sh.mk, Sh.mkM, dl_cons_zero]; exact h1 0
      | succ i => simp only [Sh.mk, Sh.mkM, dl_cons_succ, g1]; exact h3 i
    · simp only [Sh.mk, Sh.mkM, List.map_append, h2, h4, g1]
    · simp only [Sh.mk, Sh.mkM, g1, g3]
    · simp only [Sh.mk, Sh.mkM, List.length_cons, g1, g4]
  | nil => intro x k _ _; exact ⟨fun i => rfl, rfl, rfl, rfl⟩
  | hole τ => intro x k _ _; exact ⟨fun i => one rfl, rfl, rfl, rfl⟩
  | nilp => intro x k _ _; exact ⟨fun i => one rfl, rfl, rfl, rfl⟩
  | nils => intro x k _ _; exact ⟨fun i => one rfl, rfl, rfl, rfl⟩
  | nilv kd => intro x k _ _; exact ⟨fun i => one rfl, rfl, rfl, rfl⟩
  | cst g t => intro x k _ _; exact ⟨fun i => one rfl, rfl, rfl, rfl⟩
  | look l => intro x k _ _; exact ⟨fun i => one rfl, rfl, rfl, rfl⟩
  | alt q a b => intro x k _ _; exact ⟨fun i => one ((altV_ok q a b x).1 _).symm, rfl, rfl, rfl⟩
  | dead => intro x k _ _; exact ⟨fun i => one rfl, rfl, rfl, rfl⟩
theorem Ob.fits_ren {o o' : Ob} {r : Nat → Nat} : o.fits o' → o.fits (o'.ren r) := by cases o <;> cases o' <;> exact fun h => h
theorem Rel.entry {E : Env} {ρ : Pl} {σ σ' : St} {a : Act} {w : World} (h : Rel E ρ σ a w) (r q : Nat → Nat) (hq : ∀ id o, σ.O id = some o → q (r id) = id) (hN : σ'.N = σ.N) (ht : ∀ t, σ'.get t = (σ.get t).ren r)
    (f1 : ∀ id o, σ.O id = some o → σ'.O (r id) = some (o.ren r)) (f2 : ∀ id' o', σ'.O id' = some o' → o'.held = true → ∃ id o, σ.O id = some o ∧ r id = id' ∧ o' = o.ren r)
    (f3 : ∀ id o, σ.O id = some o → r id ≠ id → ∃ v, σ'.O id = some (.gone v) ∧ o.ver < v) (hnx : ∀ id, σ'.next ≤ id → σ'.O id = none) : Rel E (fun id' => ρ (q id')) σ' a w := by
  have hO : ∀ id o, σ.O id = some o → σ'.O (r id) = some (o.ren r) ∧ ρ (q (r id)) = ρ id := fun id o ho => ⟨f1 id o ho, by rw [hq id o ho]⟩
  have own1 : ∀ g, own (fun id' => ρ (q id')) σ'.O g → own ρ σ.O g := by
    rintro g ⟨id', o', h1, h2, h3⟩
    obtain ⟨id, o, e1, rfl, rfl⟩ := f2 id' o' h1 (Ob.held_of_live h2)
    exact ⟨id, o, e1, by rw [← Ob.ren_live o r]; exact h2, by rw [← hq id o e1]; exact h3⟩
  have own2 : ∀ g c, ownc (fun id' => ρ (q id')) σ'.O g c → ownc ρ σ.O g c := by
    rintro g c ⟨id', o', h1, h2, h3, h4⟩
    obtain ⟨id, o, e1, rfl, rfl⟩ := f2 id' o' h1 (Ob.held_of_live h2)
    exact ⟨id, o, e1, by rw [← Ob.ren_live o r]; exact h2, by rw [← hq id o e1]; exact h3, by rw [← Ob.ren_lo o r]; exact h4⟩
  have hb : ∀ qc g c, g < w.heap.size → okb E.b ρ σ.O qc g c → okb E.b (fun id' => ρ (q id')) σ'.O qc g c := fun qc g c _ k => ⟨k.1, fun ho => k.2 (own2 g c ho)⟩
  refine ⟨fun t => ?_, h.N.trans hN.symm, fun id' o' ho => ?_, fun id' o' g ho hl hg => ?_, fun id id' o1 o2 g k1 k2 l1 l2 p1 p2 => ?_, hnx, ⟨fun g hg ho => ?_, fun g c hg ho => ?_, fun id o ho => ?_⟩, h.bs, h.os, h.tape, h.output, h.df, h.gl.mono hb, h.le⟩
  · rw [ht]
    exact V.rel_ren (ρ' := fun id' => ρ (q id')) hO (.inl hb) (h.tm t)
  · cases hl : o'.held with
    | false => cases o' <;> first | trivial | cases hl
    | true =>
      obtain ⟨id, o, e1, rfl, rfl⟩ := f2 id' o' ho hl
      show (o.ren r).rel _ _ _ _ (ρ (q (r id)))
      rw [hq id o e1]
      exact Ob.rel_ren (ρ' := fun id' => ρ (q id')) hO (.inl hb) (h.ob id o e1)
  · obtain ⟨id, o, e1, rfl, rfl⟩ := f2 id' o' ho (Ob.held_of_live hl)
    have hg' : ρ (q (r id)) = some g := hg
    rw [hq id o e1] at hg'
    exact h.hi id o g e1 (by rw [← Ob.ren_live o r]; exact hl) hg'
  · obtain ⟨i1, q1, e1, rfl, rfl⟩ := f2 id o1 k1 (Ob.held_of_live l1)
    obtain ⟨i2, q2, e2, rfl, rfl⟩ := f2 id' o2 k2 (Ob.held_of_live l2)
    have p1' : ρ (q (r i1)) = some g := p1
    have p2' : ρ (q (r i2)) = some g := p2
    rw [hq i1 q1 e1] at p1'
    rw [hq i2 q2 e2] at p2'
    rw [h.inj i1 i2 q1 q2 g e1 e2 (by rw [← Ob.ren_live q1 r]; exact l1) (by rw [← Ob.ren_live q2 r]; exact l2) p1' p2']
  · obtain ⟨k1, k2⟩ := h.ext.keep g hg ho
    exact ⟨k1, fun k => k2 (own1 g k)⟩
  · obtain ⟨k1, k2⟩ := h.ext.cell g c hg ho
    exact ⟨k1, fun k => k2 (own2 g c k)⟩
  · obtain ⟨o1, e1, e2, e3⟩ := h.ext.same id o ho
    by_cases hr : r id = id
    · have := f1 id o1 e1
      rw [hr] at this
      refine ⟨_, this, by rw [Ob.ren_ver]; exact e2, fun hv => ?_⟩
      rw [Ob.ren_ver] at hv
      obtain ⟨g1, g2, g3⟩ := e3 hv
      refine ⟨?_, Ob.fits_ren g2, g3⟩
      show ρ (q id) = _
      have := hq id o1 e1
      rw [hr] at this
      rw [this]
      exact g1
    · obtain ⟨v, k1, k2⟩ := f3 id o1 e1 hr
      refine ⟨_, k1, ?_, fun hv => ?_⟩
      · show o.ver ≤ v; omega
      · have hv' : v = o.ver := hv
        omega
theorem getD_idx {α : Type} {l : List α} {j : Nat} {d a : α} (h : l[j]? = some a) : l.getD j d = a := by
  rw [List.getD_eq_getElem?_getD, h]; rfl
theorem lo_mem_pair {l : List (Nat × Ob)} {k : Nat} {o : Ob} (h : lo l k = some o) : (k, o) ∈ l := by
  induction l with
  | nil => cases h
  | cons p l ih =>
    obtain ⟨q, o'⟩ := p
    simp only [lo] at h
    split at h
    · rename_i e
      subst e
      cases h
      exact List.mem_cons_self ..
    · exact List.mem_cons_of_mem _ (ih h)
theorem dst0_rel {en : Ent} {x : den en.ash.ty} {N : Nat} (hc : en.ash.chain = true) (hp : en.ash.plain = true) {E : Env} {ρ : Pl} {a : Act} {w : World} (h : Rel E ρ (st0 ((en.os x).map DOb.toOb) (en.args x) N) a w) :
    ∃ ρ', Rel E ρ' (dst0 en.ash x N).st a w := by
  obtain ⟨c1, c2⟩ := mk_cnt en.ash x 0
  have hl := mk_len en.ash x 0 hc
  have kc := kinds_cnt hp
  obtain ⟨kk1, kk2⟩ := mk_kinds (s := en.ash) (x := x) (k := 0) hp
  let m := en.ash.cnt
  let ks := en.ash.kinds
  let r := rE m ks
  have hks : ks.length = m := kc
  have hr0 : ∀ j, j < m → r (0 + j) = if ks.getD j true = true then 0 + j else m + (0 + j) := fun j _ => by simp only [Nat.zero_add]; rfl
  obtain ⟨m1, m2, m3, m4⟩ := mkM_ren m r en.ash x 0 hp hr0
  have hlen : (en.os x).length = m := by unfold Ent.os; rw [List.length_map, ← kk1, kc]
  have hlenO : ((en.os x).map DOb.toOb).length = m := by rw [List.length_map, hlen]
  have hO0 : ∀ k, (st0 ((en.os x).map DOb.toOb) (en.args x) N).O k = ((en.os x).map DOb.toOb)[k]? := fun k => lo_zip0 _ k
  have hinj : ∀ i j, i < m → j < m → r i = r j → i = j := fun i j hi hj e => by
    simp only [r, rE] at e
    split at e <;> split at e <;> omega
  -- the objects
  have hob : (dst0 en.ash x N).st.ob = (((en.os x).map DOb.toOb).zipIdx.map fun p => (r p.2, p.1.ren r)) ++ (ks.zipIdx.filterMap fun p => cond p.1 none (some (p.2, Ob.gone 1))) := by
    show List.map _ (_ ++ _) = _
    rw [List.map_append]
    congr 1
    · rw [show (List.map (fun p : Nat × DOb => (p.1, p.2.toOb)) (en.ash.mkM en.ash.cnt x 0).2.1) = _ from m2]
      unfold Ent.os
      apply List.ext_getElem?
      intro j
      rw [List.getElem?_map, List.getElem?_map, List.getElem?_zipIdx, List.getElem?_map, List.getElem?_map]
      cases hj : (en.ash.mk x 0).2.1[j]? with
      | none => rfl
      | some q =>
        have h2 : ((en.ash.mk x 0).2.1.map (·.1))[j]? = some j := by
          have := (List.getElem?_eq_some_iff.1 hj).1
          rw [c2, List.getElem?_range' (by omega)]; simp
        rw [List.getElem?_map, hj] at h2
        simp only [Option.map_some, Option.some.injEq] at h2
        simp only [Option.map_some, Nat.zero_add, h2]
    · rw [List.map_filterMap]
      congr 1
      funext p
      cases p.1 <;> rfl
  have hA : ∀ k, k < m → lo (((en.os x).map DOb.toOb).zipIdx.map fun p => (r p.2, p.1.ren r)) (r k) = (((en.os x).map DOb.toOb)[k]?).map (Ob.ren r) := fun k hk => by
    have := lo_zip r (Ob.ren r) ((en.os x).map DOb.toOb) 0 k (fun i j _ _ hi hj e => hinj i j (by omega) (by omega) e) (Nat.zero_le _) (by omega)
    rw [Nat.sub_zero] at this
    exact this
  have hO1 : ∀ id, (dst0 en.ash x N).st.O id = (lo (((en.os x).map DOb.toOb).zipIdx.map fun p => (r p.2, p.1.ren r)) id).or (lo (ks.zipIdx.filterMap fun p => cond p.1 none (some (p.2, Ob.gone 1))) id) := fun id => by
    show lo (dst0 en.ash x N).st.ob id = _
    rw [hob, lo_append]
  have hA2 : ∀ id o, lo (((en.os x).map DOb.toOb).zipIdx.map fun p => (r p.2, p.1.ren r)) id = some o → ∃ k o1, k < m ∧ r k = id ∧ ((en.os x).map DOb.toOb)[k]? = some o1 ∧ o = o1.ren r := fun id o ho => by
    have := lo_mem_pair ho
    obtain ⟨p, hp, e⟩ := List.mem_map.1 this
    have h2 := zipIdx_mem hp
    cases e
    exact ⟨p.2, p.1, by have := (List.getElem?_eq_some_iff.1 h2).1; omega, rfl, h2, rfl⟩
  have hB : ∀ id o, lo (ks.zipIdx.filterMap fun p => cond p.1 none (some (p.2, Ob.gone 1))) id = some o → id < m ∧ o = .gone 1 := fun id o ho => by
    have := lo_mem_pair ho
    obtain ⟨p, hp, e⟩ := List.mem_filterMap.1 this
    have h2 := zipIdx_mem hp
    cases hb : p.1 with
    | true => rw [hb] at e; cases e
    | false =>
      rw [hb] at e
      simp only [cond_false, Option.some.injEq, Prod.mk.injEq] at e
      have h3 := (List.getElem?_eq_some_iff.1 h2).1
      exact ⟨by rw [← e.1]; omega, e.2.symm⟩
  have hBat : ∀ id, id < m → ks.getD id true = false → lo (ks.zipIdx.filterMap fun p => cond p.1 none (some (p.2, Ob.gone 1))) id = some (.gone 1) := fun id hid hk => by
    have hidl : id < ks.length := by omega
    have hmem : (id, Ob.gone 1) ∈ ks.zipIdx.filterMap fun p => cond p.1 none (some (p.2, Ob.gone 1)) := by
      refine List.mem_filterMap.2 ⟨(ks[id], id), ?_, ?_⟩
      · rw [List.mem_iff_getElem?]; exact ⟨id, by simp [List.getElem?_eq_getElem hidl]⟩
      · have : ks[id] = false := by rw [← hk]; exact (getD_idx (List.getElem?_eq_getElem hidl)).symm
        simp only [this, cond_false]
    obtain ⟨o, ho⟩ := lo_mem (k := id) (List.mem_map_of_mem (f := (·.1)) hmem)
    rw [ho, (hB id o ho).2]
  have hkl : ∀ k o, ((en.os x).map DOb.toOb)[k]? = some o → k < m := fun k o ho => by have := (List.getElem?_eq_some_iff.1 ho).1; omega
  refine ⟨_, h.entry r (fun id => if id < m then id else id - m) (fun id o ho => ?_) rfl (fun t => ?_) (fun id o ho => ?_) (fun id' o' ho hl => ?_) (fun id o ho hne => ?_) (fun id hid => ?_)⟩
  · rw [hO0] at ho
    have hid := hkl id o ho
    cases hb : ks.getD id true with
    | true =>
      have e : r id = id := by simp only [r, rE, hb, if_true]
      show (if r id < m then r id else r id - m) = id
      rw [e, if_pos hid]
    | false =>
      have e : r id = m + id := by simp only [r, rE, hb, Bool.false_eq_true, if_false]
      show (if r id < m then r id else r id - m) = id
      rw [e, if_neg (by omega)]; omega
  · -- slots
    have e1 : ((en.ash.mkM en.ash.cnt x 0).1.zipIdx.map (fun p => (p.2, p.1.toV))) = (en.args x).zipIdx.map fun p => (p.2, p.1.ren r) := by
      unfold Ent.args
      apply List.ext_getElem?
      intro j
      rw [List.getElem?_map, List.getElem?_map, List.getElem?_zipIdx, List.getElem?_zipIdx, List.getElem?_map]
      have := m1 j
      by_cases hj : j < (en.ash.mk x 0).1.length
      · have hj' : j < (en.ash.mkM m x 0).1.length := by omega
        have q1 : dl (en.ash.mkM m x 0).1 j = (en.ash.mkM m x 0).1[j] := getD_idx (List.getElem?_eq_getElem hj')
        have q2 : dl (en.ash.mk x 0).1 j = (en.ash.mk x 0).1[j] := getD_idx (List.getElem?_eq_getElem hj)
        rw [q1, q2] at this
        rw [List.getElem?_eq_getElem hj, List.getElem?_eq_getElem hj']
        simp only [Option.map_some, Nat.zero_add, this]
      · have hj' : ¬ j < (en.ash.mkM m x 0).1.length := by omega
        have hj2 : (en.ash.mkM en.ash.cnt x 0).1[j]? = none := List.getElem?_eq_none (by show (en.ash.mkM m x 0).1.length ≤ j; omega)
        have hj3 : (en.ash.mk x 0).1[j]? = none := List.getElem?_eq_none (by omega)
        rw [hj2, hj3]
        rfl
    have e2 : (dst0 en.ash x N).st.tm = ((st0 ((en.os x).map DOb.toOb) (en.args x) N).tm).map fun p => (p.1, p.2.ren r) := by
      show List.map _ (_ ++ _) = List.map _ (_ ++ _)
      rw [List.map_append, List.map_append]
      congr 1
      · rw [List.map_map, List.map_map]
        exact e1
      · have hal : (en.args x).length = en.ash.len := by unfold Ent.args; rw [List.length_map, hl]
        rw [List.map_map, List.map_map, hal]
        rfl
    show lk _ t = (lk _ t).ren r
    rw [e2]
    have : ∀ l : List (Nat × V), lk (l.map fun p => (p.1, p.2.ren r)) t = (lk l t).ren r := fun l => by
      induction l with
      | nil => rfl
      | cons p l ih =>
        obtain ⟨k, v⟩ := p
        simp only [List.map_cons, lk]
        split
        · rfl
        · exact ih
    exact this _
  · rw [hO0] at ho
    rw [hO1, hA id (hkl id o ho), ho]; rfl
  · rw [hO1] at ho
    cases h1 : lo (((en.os x).map DOb.toOb).zipIdx.map fun p => (r p.2, p.1.ren r)) id' with
    | some o1 =>
      rw [h1] at ho
      cases ho
      obtain ⟨k, o2, q1, q2, q3, q4⟩ := hA2 id' _ h1
      exact ⟨k, o2, by rw [hO0]; exact q3, q2, q4⟩
    | none =>
      rw [h1, Option.none_or] at ho
      rw [(hB id' o' ho).2] at hl
      cases hl
  · rw [hO0] at ho
    have hid := hkl id o ho
    have hk : ks.getD id true = false := by
      cases hb : ks.getD id true with
      | false => rfl
      | true => exact absurd (show r id = id by simp only [r, rE, hb, if_true]) hne
    refine ⟨1, ?_, ?_⟩
    · rw [hO1, hBat id hid hk]
      cases h1 : lo (((en.os x).map DOb.toOb).zipIdx.map fun p => (r p.2, p.1.ren r)) id with
      | none => rfl
      | some o1 =>
        obtain ⟨k, o2, q1, q2, q3, q4⟩ := hA2 id _ h1
        simp only [r, rE] at q2
        split at q2
        · rename_i hkk
          subst q2
          rw [hk] at hkk; cases hkk
        · omega
    · unfold Ent.os at ho
      rw [List.map_map, List.getElem?_map] at ho
      obtain ⟨q, hq, rfl⟩ := Option.map_eq_some_iff.1 ho
      have hidl : id < en.ash.kinds.length := by omega
      have := kk2 (q, en.ash.kinds[id]) (by
        rw [List.mem_iff_getElem?]
        exact ⟨id, by rw [List.getElem?_zip_eq_some]; exact ⟨hq, List.getElem?_eq_getElem hidl⟩⟩)
      have hkf : en.ash.kinds[id] = false := by rw [← hk]; exact (getD_idx (List.getElem?_eq_getElem hidl)).symm
      rw [hkf] at this
      obtain ⟨qn, qo⟩ := q
      cases qo with
      | arr zz e τ v l => obtain rfl : v = 0 := this; exact Nat.zero_lt_one
      | map ag κ τ l => exact Nat.zero_lt_one
      | var => exact this.elim
      | gone => exact this.elim
  · have hid' : m + m ≤ id := hid
    rw [hO1]
    cases h1 : lo (((en.os x).map DOb.toOb).zipIdx.map fun p => (r p.2, p.1.ren r)) id with
    | some o1 =>
      obtain ⟨k, o2, q1, q2, q3, q4⟩ := hA2 id _ h1
      simp only [r, rE] at q2
      split at q2 <;> omega
    | none =>
      rw [Option.none_or]
      cases h2 : lo (ks.zipIdx.filterMap fun p => cond p.1 none (some (p.2, Ob.gone 1))) id with
      | none => rfl
      | some o => have := (hB id o h2).1; omega
def Ent.wfD (en : Ent) (N : Nat) : Bool := en.wf && Nat.ble en.ash.len N

theorem gives_ok {en : Ent} {x : den en.ash.ty} {y : den en.osh.ty} {z : den en.vsh.ty} {rs : List RVx} {σ : DSt} (hw : en.wf = true) (hN : σ.m = (en.os x).length) (hmn : σ.m ≤ σ.next) (h : dfinS en.ash.kinds en.osh en.vsh rs σ = some (y, z))
    {E : Env} {ρ : Pl} {a : Act} {w : World} (hE : E.O = lol ((en.os x).map DOb.toOb)) (hr : Rel E ρ σ.st a w) :
    ∃ v nl, resV σ.st rs = some v ∧ Gives ((en.os x).map DOb.toOb).length nl σ.st v ⟨(en.ros x y).map DOb.toOb, (en.new x y z).map (·.2.toOb), (en.val x y z).toV⟩ := by
  unfold Ent.wf at hw
  simp only [Bool.and_eq_true] at hw
  obtain ⟨w1, w2, w34, w5⟩ := hw
  have w3 : ∀ i ∈ en.osh.ptrs, en.ash.kinds.getD i false = true := fun i hi => List.all_eq_true.1 w34 i (List.mem_append_left _ hi)
  have w4 : ∀ i ∈ en.vsh.ptrs, en.ash.kinds.getD i false = true := fun i hi => List.all_eq_true.1 w34 i (List.mem_append_right _ hi)
  unfold dfinS at h
  cases hd : dres σ rs with
  | none => rw [hd] at h; cases h
  | some vs =>
    rw [hd] at h
    have h0 := cond_some h; clear h; obtain ⟨hrt, h⟩ := h0
    obtain ⟨y', s, h, hy⟩ := get_fits (by simp) h
    obtain ⟨z', s', h, hz⟩ := get_fits (by simp) h
    have h0 := cond_some h; clear h; obtain ⟨hnd, h⟩ := h0
    simp only [Option.some.injEq, Prod.mk.injEq] at h
    obtain ⟨rfl, rfl⟩ := h
    simp only [Bool.and_eq_true] at hnd
    have hy := hy (en.os x).length
    have hz := hz (en.osh.mk y' (en.os x).length).2.2
    obtain ⟨c1, c2⟩ := mk_cnt en.osh y' (en.os x).length
    obtain ⟨c3, c4⟩ := mk_cnt en.vsh z' (en.osh.mk y' (en.os x).length).2.2
    let m := (en.os x).length
    let S := s ++ s'
    have hlen : (en.new x y' z').length = S.length := by
      show List.length (_ ++ _) = List.length (_ ++ _)
      rw [List.length_append, List.length_append, hy.len, hz.len]
    have hzip : (en.new x y' z').zip S = (en.osh.mk y' (en.os x).length).2.1.zip s ++ (en.vsh.mk z' (en.osh.mk y' (en.os x).length).2.2).2.1.zip s' := List.zip_append hy.len.symm
    have hnames : (en.new x y' z').map (·.1) = List.range' m (en.osh.cnt + en.vsh.cnt) := by
      unfold Ent.new
      rw [List.map_append, c2, c4, c1]
      exact List.range'_append_1 ..
    let nl : List Nat := S.zipIdx.map fun p => p.1.getD (σ.next + p.2)
    have hnl : nl.length = (en.new x y' z').length := by
      show List.length (List.map _ _) = _
      rw [List.length_map, List.length_zipIdx, hlen]
    have hml : ((en.os x).map DOb.toOb).length = m := List.length_map ..
    let rr : Ret := ⟨(en.ros x y').map DOb.toOb, (en.new x y' z').map (·.2.toOb), (en.val x y' z').toV⟩
    have hros : (en.ros x y').length = m := by unfold Ent.ros; rw [List.length_map, List.length_zipIdx]
    have hlo : ∀ j, j < m → lol (rr.os ++ rr.new) j = ((en.ros x y')[j]?).map DOb.toOb := fun j hj => by
      show ((en.ros x y').map DOb.toOb ++ _)[j]? = _
      rw [List.getElem?_append_left (by rw [List.length_map, hros]; exact hj), List.getElem?_map]
    have hnew : ∀ j, lol (rr.os ++ rr.new) (m + j) = ((en.new x y' z')[j]?).map (·.2.toOb) := fun j => by
      show ((en.ros x y').map DOb.toOb ++ (en.new x y' z').map (·.2.toOb))[m + j]? = _
      rw [List.getElem?_append_right (by rw [List.length_map, hros]; omega), List.length_map, hros, List.getElem?_map, show m + j - m = j by omega]
    have hmu : ∀ j, j < S.length → mu m nl (m + j) = (S.getD j none).getD (σ.next + j) := fun j hj => by
      simp only [mu, if_neg (show ¬ m + j < m by omega), show m + j - m = j by omega]
      rw [List.getD_eq_getElem?_getD]
      show (((S.zipIdx.map fun p => p.1.getD (σ.next + p.2))[j]?).getD 0) = _
      rw [List.getElem?_map, List.getElem?_zipIdx, List.getElem?_eq_getElem hj, List.getD_eq_getElem?_getD, List.getElem?_eq_getElem hj]
      simp
    have hq : ∀ q ∈ (en.new x y' z').zip S, ∃ j, j < S.length ∧ (en.new x y' z')[j]? = some q.1 ∧ S[j]? = some q.2 ∧ q.1.1 = m + j := fun q hq => by
      obtain ⟨j, hj, e⟩ := List.getElem_of_mem hq
      have h1 := List.getElem?_eq_getElem hj
      rw [List.getElem?_zip_eq_some, e] at h1
      rw [List.length_zip] at hj
      refine ⟨j, by omega, h1.1, h1.2, ?_⟩
      have h2 : ((en.new x y' z').map (·.1))[j]? = some (m + j) := by
        have hl2 : (en.new x y' z').length = en.osh.cnt + en.vsh.cnt := by rw [← List.length_map (f := (·.1)), hnames, List.length_range']
        rw [hnames, List.getElem?_range' (by omega)]; simp
      rw [List.getElem?_map, h1.1] at h2
      simpa using h2
    have hcond : ∀ q ∈ (en.new x y' z').zip S, lol (rr.os ++ rr.new) q.1.1 = some q.1.2.toOb ∧ match q.2 with
        | some id => mu m nl q.1.1 = id
        | none => σ.st.O (mu m nl q.1.1) = none := fun q hq' => by
      obtain ⟨j, g1, g2, g3, g4⟩ := hq q hq'
      refine ⟨by rw [g4, hnew, g2]; rfl, ?_⟩
      have g5 : S.getD j none = q.2 := by rw [List.getD_eq_getElem?_getD, g3]; rfl
      cases h2 : q.2 with
      | some id => simp only; rw [g4, hmu j g1, g5, h2]; rfl
      | none =>
        simp only
        rw [g4, hmu j g1, g5, h2]
        exact hr.nx _ (by show σ.next ≤ σ.next + j; omega)
    have hroot : ∀ i, en.ash.kinds.getD i false = true → mu m nl i = i ∧ ∃ o o', σ.st.O i = some o ∧ lol (rr.os ++ rr.new) i = some o' ∧ o.ver = 0 := fun i hi => by
      obtain ⟨kk1, _⟩ := mk_kinds (s := en.ash) (x := x) (k := 0) w2
      have him : i < m := by
        rcases Nat.lt_or_ge i en.ash.kinds.length with h1 | h1
        · show i < (en.os x).length
          unfold Ent.os
          rw [List.length_map]
          omega
        · rw [List.getD_eq_getElem?_getD, List.getElem?_eq_none h1] at hi; cases hi
      refine ⟨by simp only [mu, if_pos him], ?_⟩
      have hv := List.all_eq_true.1 hrt i (List.mem_range.2 (by rw [hN]; exact him))
      have hkt : en.ash.kinds.getD i true = true := by
        rcases Nat.lt_or_ge i en.ash.kinds.length with h1 | h1
        · rw [List.getD_eq_getElem?_getD, List.getElem?_eq_getElem h1] at hi ⊢; exact hi
        · rw [List.getD_eq_getElem?_getD, List.getElem?_eq_none h1]; rfl
      have hr2 : i < (en.ros x y').length := by rw [hros]; exact him
      cases ho : σ.O i with
      | none => simp [ho] at hv
      | some o =>
        cases o with
        | var e n f => exact ⟨_, _, O_st_some ho, by rw [hlo i him, List.getElem?_eq_getElem hr2]; rfl, rfl⟩
        | arr => simp [ho] at hv
        | map => simp [ho] at hv
        | gone v =>
          have h9 : (!en.ash.kinds.getD i true && Nat.beq v 1) = true := by rw [ho] at hv; exact hv
          rw [hkt] at h9; cases h9
    obtain ⟨v1, k1⟩ := hy.vw (mu m nl) (lol (rr.os ++ rr.new)) (fun id hid => hroot id (w3 id hid)) fun q hq' => hcond q (by rw [hzip]; exact List.mem_append_left _ hq')
    obtain ⟨v2, k2⟩ := hz.vw (mu m nl) (lol (rr.os ++ rr.new)) (fun id hid => hroot id (w4 id hid)) fun q hq' => hcond q (by rw [hzip]; exact List.mem_append_right _ hq')
    have hlt : ∀ id o, σ.O id = some o → id < σ.next := fun id o ho => by
      rcases Nat.lt_or_ge id σ.next with h1 | h1
      · exact h1
      · have := hr.nx id h1
        rw [O_st_some ho] at this
        cases this
    have lo : ∀ (i u : Nat), S[i]? = some (some u) → u < σ.next := fun i u hs => by
      have hi : i < S.length := (List.getElem?_eq_some_iff.1 hs).1
      have hi' : i < (en.new x y' z').length := by omega
      have hm : ((en.new x y' z')[i], some u) ∈ (en.new x y' z').zip S := by
        rw [List.mem_iff_getElem?]
        exact ⟨i, by rw [List.getElem?_zip_eq_some]; exact ⟨List.getElem?_eq_getElem hi', hs⟩⟩
      rw [hzip] at hm
      rcases List.mem_append.1 hm with hm | hm
      · obtain ⟨o, ho, _⟩ := k1 _ hm
        exact hlt u o ho
      · obtain ⟨o, ho, _⟩ := k2 _ hm
        exact hlt u o ho
    have hnlat : ∀ (i u : Nat), nl[i]? = some u → ∃ o, S[i]? = some o ∧ u = o.getD (σ.next + i) := fun i u hu => by
      have hu' : (S.zipIdx.map fun p => p.1.getD (σ.next + p.2))[i]? = some u := hu
      rw [List.getElem?_map, List.getElem?_zipIdx] at hu'
      cases hs : S[i]? with
      | none => rw [hs] at hu'; cases hu'
      | some o =>
        rw [hs] at hu'
        simp only [Option.map_some, Nat.zero_add, Option.some.injEq] at hu'
        exact ⟨o, rfl, hu'.symm⟩
    refine ⟨_, nl, resV_ok hd, ?_⟩
    rw [hml]
    refine ⟨by rw [hnl]; exact (List.length_map ..).symm, by show List.length (List.map _ _) = m; rw [List.length_map, hros], ?_, allP_iff.2 fun k hk => ?_, allP_iff.2 fun p hp => ?_, v2 0⟩
    · rw [List.Nodup, List.pairwise_iff_getElem]
      intro i j hi hj hij e
      obtain ⟨o1, s1, e1⟩ := hnlat i nl[i] (List.getElem?_eq_getElem hi)
      obtain ⟨o2, s2, e2⟩ := hnlat j nl[j] (List.getElem?_eq_getElem hj)
      rw [e1, e2] at e
      cases o1 with
      | some u =>
        have hu := lo i u s1
        cases o2 with
        | some v =>
          simp only [Option.getD_some] at e
          subst e
          have := nodupO_ok hnd.1 i j u s1 s2
          omega
        | none => simp only [Option.getD_some, Option.getD_none] at e; omega
      | none =>
        cases o2 with
        | some v =>
          have hv := lo j v s2
          simp only [Option.getD_some, Option.getD_none] at e
          omega
        | none => simp only [Option.getD_none] at e; omega
    · obtain ⟨i, hi, rfl⟩ := List.getElem_of_mem hk
      obtain ⟨o1, s1, e1⟩ := hnlat i nl[i] (List.getElem?_eq_getElem hi)
      rw [e1]
      cases o1 with
      | some u =>
        have := List.all_eq_true.1 hnd.2 (some u) (List.mem_of_getElem? s1)
        have := nble this
        show m ≤ u
        omega
      | none => show m ≤ σ.next + i; omega
    · have hp2 := zipIdx_mem hp
      obtain ⟨ob, k⟩ := p
      simp only at hp2 ⊢
      by_cases hk : k < m
      · have h1 := hlo k hk
        have hp3 : lol (rr.os ++ rr.new) k = some ob := hp2
        rw [h1] at hp3
        have hmk : mu m nl k = k := by simp only [mu, if_pos hk]
        rw [hmk]
        -- what it was, it is still, or it is given away
        have hv := List.all_eq_true.1 hrt k (List.mem_range.2 (by rw [hN]; exact hk))
        have hkm : k < (en.ash.mk x 0).2.1.length := by
          have hko : k < (en.os x).length := hk
          unfold Ent.os at hko; rw [List.length_map] at hko; exact hko
        obtain ⟨kk1, kk2⟩ := mk_kinds (s := en.ash) (x := x) (k := 0) w2
        have hkl : k < en.ash.kinds.length := by omega
        have hkd : en.ash.kinds.getD k true = en.ash.kinds[k] := getD_idx (List.getElem?_eq_getElem hkl)
        have hosk : (en.os x)[k]? = some ((en.ash.mk x 0).2.1[k]).2 := by
          unfold Ent.os
          rw [List.getElem?_map, List.getElem?_eq_getElem hkm]; rfl
        have hki := kk2 ((en.ash.mk x 0).2.1[k], en.ash.kinds[k]) (by
          rw [List.mem_iff_getElem?]
          exact ⟨k, by rw [List.getElem?_zip_eq_some]; exact ⟨List.getElem?_eq_getElem hkm, List.getElem?_eq_getElem hkl⟩⟩)
        simp only at hki
        generalize ((en.ash.mk x 0).2.1[k]).2 = ok at hosk hki
        have hEk : E.O k = some ok.toOb := by
          rw [hE]
          show ((en.os x).map DOb.toOb)[k]? = _
          rw [List.getElem?_map, hosk]; rfl
        obtain ⟨o', q1, q2, q3⟩ := hr.ext.same k _ hEk
        have hro : (en.ros x y')[k]? = some (rootD (some ok) (dl (en.osh.mk y' (en.os x).length).1 k)) := by
          unfold Ent.ros
          rw [List.getElem?_map, List.getElem?_zipIdx, hosk]
          simp
        rw [hro] at hp3
        simp only [Option.map_some, Option.some.injEq] at hp3
        subst hp3
        cases ho : σ.O k with
        | none => rw [ho] at hv; cases hv
        | some o =>
          rw [ho] at hv
          rw [O_st_some ho] at q1
          cases q1
          cases o with
          | var e n f =>
            have hv : en.ash.kinds.getD k true = true := hv
            rw [hkd] at hv
            rw [hv] at hki
            cases ok with
            | var e' n' g =>
              obtain ⟨_, q4, _⟩ := q3 rfl
              obtain ⟨rfl, rfl⟩ := q4
              rw [O_st_some ho]
              have := v1 k
              simp only [ho] at this
              exact ⟨⟨rfl, rfl, allLt_iff.2 fun t ht => VW_cell this t ht⟩, fun _ => rfl⟩
            | _ => exact hki.elim
          | arr zz e τ v l => cases hv
          | map ag κ τ l => cases hv
          | gone v =>
            simp only [Bool.and_eq_true, Bool.not_eq_true'] at hv
            obtain ⟨hv1, hv2⟩ := hv
            obtain rfl := nbeq hv2
            rw [hkd] at hv1
            rw [hv1] at hki
            cases ok with
            | arr zz' e' τ' v' l' =>
              obtain rfl : v' = 0 := hki
              rw [O_st_some ho]
              have hvk := v1 k
              simp only [ho] at hvk
              rcases rootD_cases zz' e' τ' 0 l' (dl (en.osh.mk y' (en.os x).length).1 k) with ⟨_, τ2, l2, e2, _, _⟩ | e1
              · rw [e2] at hvk; exact hvk.elim
              · rw [e1]; exact ⟨trivial, fun _ => rfl⟩
            | map ag κ τ l =>
              rw [O_st_some ho]
              exact ⟨trivial, fun _ => rfl⟩
            | var => exact hki.elim
            | gone => exact hki.elim
      · obtain ⟨j, rfl⟩ : ∃ j, k = m + j := ⟨k - m, by omega⟩
        have hp3 : lol (rr.os ++ rr.new) (m + j) = some ob := hp2
        rw [hnew] at hp3
        cases hnj : (en.new x y' z')[j]? with
        | none => rw [hnj] at hp3; cases hp3
        | some q =>
          rw [hnj] at hp3
          simp only [Option.map_some, Option.some.injEq] at hp3
          subst hp3
          have hj : j < S.length := by rw [← hlen]; exact (List.getElem?_eq_some_iff.1 hnj).1
          have hm : (q, S[j]) ∈ (en.new x y' z').zip S := by
            rw [List.mem_iff_getElem?]
            exact ⟨j, by rw [List.getElem?_zip_eq_some]; exact ⟨hnj, List.getElem?_eq_getElem hj⟩⟩
          obtain ⟨j', _, _, _, g4⟩ := hq _ hm
          obtain ⟨_, h2⟩ := hcond _ hm
          have hk3 : match (q, S[j]).2 with
              | some id => ∃ o, σ.O id = some o ∧ OW (mu m nl) σ.st.O (lol (rr.os ++ rr.new)) o.toOb (q, S[j]).1.2.toOb
              | none => ∃ zz e s v f, (q, S[j]).1.2.toOb = .arr zz e s v 0 f := by
            have hm' := hm
            rw [hzip] at hm'
            rcases List.mem_append.1 hm' with hm' | hm'
            · exact k1 _ hm'
            · exact k2 _ hm'
          have hqn : q.1 = m + j := by
            have h3 : ((en.new x y' z').map (·.1))[j]? = some (m + j) := by
              have hl2 : (en.new x y' z').length = en.osh.cnt + en.vsh.cnt := by rw [← List.length_map (f := (·.1)), hnames, List.length_range']
              rw [hnames, List.getElem?_range' (by omega)]; simp
            rw [List.getElem?_map, hnj] at h3
            simpa using h3
          simp only [hqn] at h2
          cases hs : S[j] with
          | some id =>
            rw [hs] at h2 hk3
            simp only at h2 hk3
            obtain ⟨o, ho, hO⟩ := hk3
            rw [h2, O_st_some ho]
            exact ⟨hO, fun hlt => by omega⟩
          | none =>
            rw [hs] at h2 hk3
            simp only at h2 hk3
            obtain ⟨zz, e, s2, v, f, he⟩ := hk3
            rw [h2, he]
            exact ⟨by omega, rfl⟩

theorem share_m (σ : DSt) (ids : List Nat) : (σ.share ids).m = σ.m ∧ (σ.share ids).next = σ.next := by cases ids <;> exact ⟨rfl, rfl⟩
theorem good_of {P : Program} (hm : P.follows .mixedOrders = true) {fu : Nat} {en : Ent} {c : DC} {rs : List RVx} {N : Nat} (hb : BodyD P en.f N c.erase rs) (hc : c.Good P false) (_ : c.calm = true)
    (hw : en.wfD N = true) (hv : evF fu c rs N en.ash en.osh en.vsh = en.p) : en.Good P := by
  obtain ⟨fn, code, b1, b2, b3, rfl, b5, b6⟩ := hb
  unfold Ent.wfD at hw
  simp only [Bool.and_eq_true] at hw
  obtain ⟨hw, hl⟩ := hw
  have hw' := hw
  unfold Ent.wf at hw'
  simp only [Bool.and_eq_true] at hw'
  intro x y z hp
  rw [← hv] at hp
  unfold evF at hp
  rw [Sh.normK_eq] at hp
  have c1 := mk_cnt en.ash x 0
  have hm1 : (dst0 en.ash x fn.ntmps).m = (en.os x).length := by
    show en.ash.cnt = _
    unfold Ent.os
    rw [List.length_map, ← List.length_map (f := (·.1)), c1.2, List.length_range']
  refine fc_ofW b1 b2 b3 b6 (by unfold Ent.args; rw [List.length_map, mk_len _ _ _ hw'.1]; exact nble hl) fun E ρ a w hE hE' hr => ?_
  obtain ⟨ρ1, hr'⟩ := dst0_rel hw'.1 hw'.2.1 hr
  refine wp_mono (evD_ok hm (z := false) (σ := dst0 en.ash x fn.ntmps) hc b5 rfl (Nat.le_add_left _ _) ⟨fun id hid => hE' id (by rw [List.length_map, ← hm1]; exact hid), fun e => nomatch e⟩ hr' (prodQ_sound (denQ_sound _) (denQ_sound _)) hp) ?_
  rintro e a' w' ⟨ax, σ', E1, ρ', rfl, ⟨hi, hs, _⟩, hr2, hk⟩
  obtain rfl : E1 = E := by
    rcases hs with h | ⟨h, _⟩
    · exact h
    · cases h
  obtain ⟨⟨c1, c2, c3⟩, -, c4⟩ := cuts_ok (E := E1) (ρ := ρ') (act := a') (w := w') (cutsR rs en.vsh) (σ := σ')
  have hr3 := c4 hr2
  cases ax with
  | exit id => cases hk
  | normal => exact ⟨.normal, _, ρ', rfl, share_rel _ hr3, gives_ok hw ((share_m _ _).1.trans (c1.trans (hi.m.trans hm1))) (by rw [(share_m _ _).1, (share_m _ _).2, c1, c2, hi.m]; exact Nat.le_trans (Nat.le_add_left _ _) hi.next) hk hE (share_rel _ hr3)⟩
  | ret => exact ⟨.ret, _, ρ', rfl, share_rel _ hr3, gives_ok hw ((share_m _ _).1.trans (c1.trans (hi.m.trans hm1))) (by rw [(share_m _ _).1, (share_m _ _).2, c1, c2, hi.m]; exact Nat.le_trans (Nat.le_add_left _ _) hi.next) hk hE (share_rel _ hr3)⟩
def Qc.mildC : Qc → Bool
  | .any | .old => true
  | _ => false
def Tp.mild : Tp → Bool
  | .sl .new _ => false
  | .sl .mid _ => false
  | .sl .saf _ => false
  | .sl _ e => e.mild
  | .pair a b => a.mild && b.mild
  | _ => true
def Sh.mild : Sh → Bool
  | .hole τ => τ.mild
  | .agg _ l => l.mild
  | .nil => true
  | .cons a b => a.mild && b.mild
  | _ => false
def DV.mild : DV → Prop
  | .im τ _ => τ.mild = true
  | .agg n f => ∀ j, j < n → (f j).mild
  | .dead => True
  | _ => False
theorem mild_cell {ok ok' : Sees} {w : World} (h : ∀ q g k, Qc.mildC q = true → g < w.heap.size → ok q g k → ok' q g k) : ∀ (τ : Tp) (x : den τ) (j : Nat) {u : Value}, τ.mild = true → (cellT τ x j).rel ok w u → (cellT τ x j).rel ok' w u
  | .bool, _, j, _, _, hu => by cases j <;> exact hu
  | .str, _, j, _, _, hu => by cases j <;> exact hu
  | .int _, _, j, _, _, hu => by cases j <;> exact hu
  | .hv _, _, j, _, _, hu => by cases j <;> exact hu
  | .op _, _, j, _, _, hu => by cases j <;> exact hu
  | .unit, _, _, _, _, hu => hu
  | .sl .new e, l, j, u, ho, hu => by cases ho
  | .sl .mid e, l, j, u, ho, hu => by cases ho
  | .sl .saf e, l, j, u, ho, hu => by cases ho
  | .sl .any e, l, 0, u, ho, hu => by
    obtain ⟨A, c, e1, hn, hf⟩ := hu
    refine ⟨A, c, e1, hn, fun i j hi hj => ?_⟩
    obtain ⟨ad, v, h1, h2, h3, h4, h5⟩ := hf i j hi hj
    have hlt := World.block_lt_of_cell? w _ h3
    rw [block_add] at hlt
    exact ⟨ad, v, h1, ⟨h _ _ _ rfl hlt h2.1, nofun⟩, h3, h4, mild_cell h e _ j ho h5⟩
  | .sl .old e, l, 0, u, ho, hu => by
    obtain ⟨A, c, e1, hn, hf⟩ := hu
    refine ⟨A, c, e1, hn, fun i j hi hj => ?_⟩
    obtain ⟨ad, v, h1, h2, h3, h4, h5⟩ := hf i j hi hj
    have hlt := World.block_lt_of_cell? w _ h3
    rw [block_add] at hlt
    exact ⟨ad, v, h1, ⟨h _ _ _ rfl hlt h2.1, nofun⟩, h3, h4, mild_cell h e _ j ho h5⟩
  | .sl .any e, _, j + 1, _, _, hu => hu
  | .sl .old e, _, j + 1, _, _, hu => hu
  | .pair c d, x, j, u, ho, hu => by
    have ho' : (c.mild && d.mild) = true := ho
    simp only [Bool.and_eq_true] at ho'
    simp only [cellT] at hu ⊢
    split at hu
    · rename_i hj; rw [if_pos hj]; exact mild_cell h c x.1 _ ho'.1 hu
    · rename_i hj; rw [if_neg hj]; exact mild_cell h d x.2 _ ho'.2 hu
theorem mild_rel {b b' : Sees} {ρ ρ' : Pl} {O O' : Ow} {w : World} (h : ∀ q g k, Qc.mildC q = true → g < w.heap.size → okb b ρ O q g k → okb b' ρ' O' q g k) : ∀ (v : DV) {u : Value}, v.mild → v.toV.rel b ρ O w u → v.toV.rel b' ρ' O' w u := by
  intro v
  induction v with
  | im τ x => intro u hv hu; exact mild_cell h τ x 0 hv hu
  | agg n f ih => intro u hv ⟨cs, e, h1, h2⟩; exact ⟨cs, e, h1, fun j hj => ⟨(h2 j hj).1, ih j (hv j hj) (h2 j hj).2⟩⟩
  | dead => intro u _ _; exact trivial
  | _ => intro u hv; exact hv.elim
theorem mild_mk : ∀ (s : Sh) (x : den s.ty) (k : Nat), s.mild = true → (s.mk x k).2.1 = [] ∧ ∀ d ∈ (s.mk x k).1, d.mild := by
  intro s
  induction s with
  | hole τ => intro x k h; exact ⟨rfl, fun d hd => by obtain rfl := List.mem_singleton.1 hd; exact h⟩
  | agg n l ih =>
    intro x k h
    obtain ⟨h1, h2⟩ := ih x k h
    refine ⟨h1, fun d hd => ?_⟩
    obtain rfl := List.mem_singleton.1 hd
    intro j _
    unfold dl
    rcases Nat.lt_or_ge j (l.mk x k).1.length with hj | hj
    · rw [List.getD_eq_getElem?_getD, List.getElem?_eq_getElem hj]
      exact h2 _ (List.getElem_mem hj)
    · rw [List.getD_eq_getElem?_getD, List.getElem?_eq_none hj]
      exact trivial
  | nil => intro x k _; exact ⟨rfl, fun d hd => by cases hd⟩
  | cons a b ih1 ih2 =>
    intro x k h
    have h' : (a.mild && b.mild) = true := h
    simp only [Bool.and_eq_true] at h'
    obtain ⟨h1, h2⟩ := ih1 x.1 k h'.1
    obtain ⟨h3, h4⟩ := ih2 x.2 (a.mk x.1 k).2.2 h'.2
    refine ⟨by show _ ++ _ = []; rw [h1, h3]; rfl, fun d hd => ?_⟩
    rcases List.mem_cons.1 hd with rfl | hd
    · unfold dl
      rcases Nat.lt_or_ge 0 (a.mk x.1 k).1.length with hj | hj
      · rw [List.getD_eq_getElem?_getD, List.getElem?_eq_getElem hj]
        exact h2 _ (List.getElem_mem hj)
      · rw [List.getD_eq_getElem?_getD, List.getElem?_eq_none hj]
        exact trivial
    · exact h4 d hd
  | _ => intro x k h; cases h
theorem fc_ofZ {P : Program} {f : FuncId} {fn : Func} {code : Code} {rs : List RVx} {args : List DV} {bb : Bool}
    (hf : P.funcs[f]? = some fn) (hn : (fn.name == "runtime.NumGoroutine") = false) (hb : fn.body = some code) (hr : compRes P fn.results.toList = some rs) (ha : args.length ≤ fn.ntmps) (hmild : ∀ d ∈ args, d.mild)
    (hbody : ∀ (E : Env) (ρ : Pl) (a : Act) (w : World), KE 0 true E → E.O = lol [] → Rel E ρ (st0 [] (args.map DV.toV) fn.ntmps) a w →
      code.wp P (fun e a' w' => ∃ x σ' E' ρ', e = AX.out x ∧ (StepZ true E E' ∧ KE 0 true E') ∧ Rel E' ρ' σ' a' w' ∧ match x with
        | .exit _ => False
        | _ => ∃ v nl, resV σ' rs = some v ∧ Gives 0 nl σ' v ⟨[], [], .im (.val (.bool bb))⟩) a w) : FC P f [] (args.map DV.toV) ⟨[], [], .im (.val (.bool bb))⟩ := by
  refine ⟨⟨fn, hf, hn, by rw [hb]; rfl⟩, fun ok ρ w vs hmo hgl h1 h2 h3 h4 h5 => ?_⟩
  have hno : ∀ id, lol ([] : List Ob) id = none := fun id => by simp [lol]
  have hnow : ∀ (ρ : Pl) g k, ¬ ownc ρ (lol []) g k := fun ρ g k ⟨id, o, ho, _⟩ => by rw [hno] at ho; cases ho
  have hnow' : ∀ (ρ : Pl) g, ¬ own ρ (lol []) g := fun ρ g ⟨id, o, ho, _⟩ => by rw [hno] at ho; cases ho
  have hO : (st0 [] (args.map DV.toV) fn.ntmps).O = lol [] := funext fun k => lo_zip0 [] k
  have up : ∀ q g k, Qc.mildC q = true → g < w.heap.size → okb ok ρ (lol []) q g k → okb (Env.b ⟨w, ρ, lol [], fun q g k => (q ≠ .new ∧ q ≠ .mid) ∧ g < w.heap.size ∧ ok .any g k, nobody⟩) ρ (lol []) q g k := fun q g k hq hg hk => ⟨.inl ⟨(by cases q <;> first | (cases hq; done) | exact ⟨nofun, nofun⟩), hg, hmo.1 _ _ _ hk.1⟩, hk.2⟩
  have hla : (args.map DV.toV).length = args.length := List.length_map ..
  have rel0 : Rel ⟨w, ρ, lol [], fun q g k => (q ≠ .new ∧ q ≠ .mid) ∧ g < w.heap.size ∧ ok .any g k, nobody⟩ ρ (st0 [] (args.map DV.toV) fn.ntmps) { tmps := vs ++ Array.replicate (fn.ntmps - vs.size) undef, defers := [] } w := by
    refine ⟨fun t => ?_, by simp [h4, st0]; omega, fun id o ho => (by rw [hO, hno] at ho; cases ho), fun id o g ho => (by rw [hO, hno] at ho; cases ho), fun id id' o o' g k1 => (by rw [hO, hno] at k1; cases k1), fun id hid => (by rw [hO, hno]), by rw [hO]; exact ExtE.refl, Nat.le_refl _, rfl, rfl, rfl, rfl, ?_, ⟨fun q g k hk => ⟨⟨nofun, nofun⟩, hk.2⟩, fun q g k _ hk => ⟨⟨nofun, nofun⟩, hk.2⟩⟩⟩
    · rw [hO]
      show (lk ((args.map DV.toV).zipIdx.map (fun p => (p.2, p.1)) ++ _) t).rel _ _ _ _ _
      by_cases ht : t < (args.map DV.toV).length
      · rw [lk_zip (args.map DV.toV) 0 t _ (Nat.zero_le _) (by omega)]
        have := h5 t ((args.map DV.toV).getD t .dead) (by rw [List.getD_eq_getElem?_getD, List.getElem?_eq_getElem ht]; rfl)
        rw [Nat.sub_zero]
        have e : (vs ++ Array.replicate (fn.ntmps - vs.size) undef).getD t undef = vs.getD t undef := by
          rw [Array.getD_eq_getD_getElem?, Array.getElem?_append_left (by omega), ← Array.getD_eq_getD_getElem?]
        rw [e]
        have ht' : t < args.length := by omega
        have e2 : (args.map DV.toV).getD t .dead = (args[t]).toV := by simp [List.getD, ht']
        rw [e2] at this ⊢
        exact mild_rel up _ (hmild _ (List.getElem_mem ht')) this
      · rw [lk_append _ _ _ (fun p hp e => by
          obtain ⟨q, hq, rfl⟩ := List.mem_map.1 hp
          obtain ⟨i, hi, rfl⟩ := List.getElem_of_mem hq
          simp only [List.length_zipIdx] at hi
          simp at e
          omega)]
        rcases lk_in (l := (List.range (fn.ntmps - (args.map DV.toV).length)).map fun j => ((args.map DV.toV).length + j, V.im (.val undef))) (k := t) with e | e
        · rw [e]; trivial
        · obtain ⟨j, hj, e2⟩ := List.mem_map.1 e
          have e3 := congrArg Prod.snd e2
          simp only at e3
          rw [← e3]
          show _ = undef
          rw [Array.getD_eq_getD_getElem?, Array.getElem?_append_right (by omega), Array.getElem?_replicate]
          split <;> rfl
    · rw [hO]
      refine ⟨fun p hp k v hv => ?_, fun p hp => ?_⟩
      · obtain ⟨g1, g2⟩ := hgl.1 p hp k v hv
        exact ⟨up _ _ _ rfl (World.block_lt_of_cell? w _ g2) g1, g2⟩
      · obtain ⟨ad, g1, g2⟩ := hgl.2 p hp
        exact ⟨ad, up _ _ _ rfl (World.block_lt_of_cell? w _ g2) g1, g2⟩
  have hE0 : KE 0 true ⟨w, ρ, lol [], fun q g k => (q ≠ .new ∧ q ≠ .mid) ∧ g < w.heap.size ∧ ok .any g k, nobody⟩ := ⟨fun id _ => hno id, fun _ => ⟨hno, fun g k hk => hk.1.1 rfl, fun g k hk => ⟨hk.2.1, id⟩, fun g k hk => (hk.1.2 rfl).elim⟩⟩
  refine calls_of_wp hf hb (wp_mono (hbody _ _ _ _ hE0 rfl rel0) ?_)
  rintro e a' w' ⟨x, σ, E', ρ', rfl, ⟨hs, hE'⟩, hrel, hq⟩
  have fin : (∃ v nl, resV σ rs = some v ∧ Gives 0 nl σ v ⟨[], [], .im (.val (.bool bb))⟩) → a'.defers = [] ∧ ∃ v, (results fn a'.tmps).run P w' = .ok v w' ∧ ∃ ρ' x, Ending.returned v = .returned x ∧ ([] : List Ob).length = ([] : List Ob).length ∧
      (V.im (.val (.bool bb))).rel (Env.b ⟨w, ρ, lol [], ok, nobody⟩) ρ' (lol ([] ++ [])) w' x ∧
      (∀ k o, lol ([] ++ []) k = some o → o.rel (Env.b ⟨w, ρ, lol [], ok, nobody⟩) ρ' (lol ([] ++ [])) w' (ρ' k)) ∧
      (∀ k o g, lol ([] ++ []) k = some o → o.live = true → ρ' k = some g → (w.heap.size ≤ g ∨ own ρ (lol []) g) ∧ g < w'.heap.size) ∧
      (∀ k k' o o' g, lol ([] ++ []) k = some o → lol ([] ++ []) k' = some o' → o.live = true → o'.live = true → ρ' k = some g → ρ' k' = some g → k = k') ∧
      Ext ρ (lol []) w ρ' (lol ([] ++ [])) w' ∧ w.heap.size ≤ w'.heap.size ∧ w'.os = w.os ∧ w'.tape = w.tape ∧ w'.output = w.output := by
    rintro ⟨v, nl, hv, g1, g2, g3, g4, g5, g6⟩
    obtain ⟨x, hx, hvx⟩ := res_run hrel hr hv
    have nm : Named (mu 0 nl) ρ' σ.O (fun _ => none) (lol ([] ++ [])) := fun id o' ho => by rw [show lol ([] ++ []) id = none from hno id] at ho; cases ho
    have hx2 : (V.im (.val (.bool bb))).rel E'.b (fun _ => none) (lol ([] ++ [])) w' x := VW.rel (Env.mono hrel.le) nm hrel.ob g6 hvx
    have hw : w.heap.size ≤ w'.heap.size ∧ (∀ g, g < w.heap.size → w'.heap[g]? = w.heap[g]?) ∧ w'.os = w.os ∧ w'.tape = w.tape ∧ w'.output = w.output := by
      have hm0 : ∀ g, ¬ Env.mine ⟨w, ρ, lol [], fun q g k => (q ≠ .new ∧ q ≠ .mid) ∧ g < w.heap.size ∧ ok .any g k, nobody⟩ g := fun g hg => hg.elim (hnow' _ g) id
      rcases hs with rfl | ⟨_, k1, k2, k3, k4, k5⟩
      · exact ⟨hrel.bs, fun g hg => (hrel.ext.keep g hg (hm0 g)).1, hrel.os, hrel.tape, hrel.output⟩
      · exact ⟨Nat.le_trans k1 hrel.bs, fun g hg => (hrel.ext.keep g (Nat.lt_of_lt_of_le hg k1) (k2 g hg (hm0 g) fun k hk => hk.1.2 rfl).2.1).1.trans (k2 g hg (hm0 g) fun k hk => hk.1.2 rfl).1, hrel.os.trans k3, hrel.tape.trans k4, hrel.output.trans k5⟩
    exact ⟨hrel.df, x, hx, fun _ => none, x, rfl, rfl, hx2, fun k o ho => (by rw [show lol ([] ++ []) k = none from hno k] at ho; cases ho), fun k o g ho => (by rw [show lol ([] ++ []) k = none from hno k] at ho; cases ho), fun k k' o o' g ho => (by rw [show lol ([] ++ []) k = none from hno k] at ho; cases ho),
      ⟨fun g hg _ => ⟨hw.2.1 g hg, hnow' _ g⟩, fun g k hg _ => ⟨look_of_block (hw.2.1 g hg), hnow _ g k⟩, fun id o ho => by rw [hno] at ho; cases ho⟩, hw.1, hw.2.2⟩
  cases x with
  | normal => exact fin hq
  | ret => exact fin hq
  | exit id => exact hq.elim
theorem good_ofz {P : Program} (hm : P.follows .mixedOrders = true) {fu : Nat} {f : FuncId} {ash : Sh} {p : den ash.ty → Option (den Sh.nil.ty × den (Sh.hole .bool).ty)} {c : DC} {rs : List RVx} {N : Nat} (hb : BodyD P f N c.erase rs) (hc : c.Good P true)
    (hw : (⟨f, ash, .nil, .hole .bool, p⟩ : Ent).wfD N = true) (hmild : ash.mild = true) (hv : evF fu c rs N ash .nil (.hole .bool) = p) : (⟨f, ash, .nil, .hole .bool, p⟩ : Ent).Good P := by
  obtain ⟨fn, code, b1, b2, b3, rfl, b5, b6⟩ := hb
  unfold Ent.wfD at hw
  simp only [Bool.and_eq_true] at hw
  obtain ⟨hw, hl⟩ := hw
  have hw' := hw
  unfold Ent.wf at hw'
  simp only [Bool.and_eq_true] at hw'
  intro x y bb hp
  have hp' := hp
  obtain ⟨m1, m2⟩ := mild_mk ash x 0 hmild
  have e1 : (⟨f, ash, .nil, .hole .bool, p⟩ : Ent).os x = [] := by unfold Ent.os; show List.map _ (ash.mk x 0).2.1 = []; rw [m1]; rfl
  have e2 : (⟨f, ash, .nil, .hole .bool, p⟩ : Ent).ros x y = [] := by unfold Ent.ros; rw [e1]; rfl
  have c1 := mk_cnt ash x 0
  have n0 : ash.cnt = 0 := by
    have := congrArg List.length c1.2
    rw [m1] at this
    simpa using this.symm
  have hm1 : (dst0 ash x fn.ntmps).m = ((⟨f, ash, .nil, .hole .bool, p⟩ : Ent).os x).length := by rw [e1]; exact n0
  have hp2 : evF fu c rs fn.ntmps ash .nil (.hole .bool) x = some (y, bb) := by rw [hv]; exact hp
  clear hp hp'
  have hp := hp2
  unfold evF at hp
  rw [Sh.normK_eq] at hp
  have key : FC P f [] ((ash.mk x 0).1.map DV.toV) ⟨[], [], .im (.val (.bool bb))⟩ := by
    refine fc_ofZ b1 b2 b3 b6 (by rw [mk_len _ _ _ hw'.1]; exact nble hl) m2 fun E ρ a w hE hEO hr => ?_
    obtain ⟨ρ1, hr'⟩ := dst0_rel (en := ⟨f, ash, .nil, .hole .bool, p⟩) (x := x) hw'.1 hw'.2.1 (by rw [e1]; exact hr)
    refine wp_mono (evD_ok hm (z := true) (σ := dst0 ash x fn.ntmps) hc b5 rfl (Nat.le_add_left _ _) (by rw [show (dst0 ash x fn.ntmps).m = 0 from n0]; exact hE) hr' (prodQ_sound (denQ_sound _) (denQ_sound _)) hp) ?_
    rintro e a' w' ⟨ax, σ', E1, ρ', rfl, ⟨hi, hs, hE1⟩, hr2, hk⟩
    rw [show (dst0 ash x fn.ntmps).m = 0 from n0] at hE1
    obtain ⟨⟨c1, c2, c3⟩, -, c4⟩ := cuts_ok (E := E1) (ρ := ρ') (act := a') (w := w') (cutsR rs (.hole .bool)) (σ := σ')
    have hr3 := c4 hr2
    have hEO1 : E1.O = lol (List.map DOb.toOb ((⟨f, ash, .nil, .hole .bool, p⟩ : Ent).os x)) := by
      rw [e1]
      funext id
      rw [(hE1.zn rfl).1 id]
      rfl
    cases ax with
    | exit id => cases hk
    | normal =>
      have h := gives_ok (en := ⟨f, ash, .nil, .hole .bool, p⟩) (x := x) (y := y) (z := bb) hw ((share_m _ _).1.trans (c1.trans (hi.m.trans hm1))) (by rw [(share_m _ _).1, (share_m _ _).2, c1, c2, hi.m]; exact Nat.le_trans (Nat.le_add_left _ _) hi.next) hk hEO1 (share_rel _ hr3)
      rw [e1, e2] at h
      exact ⟨.normal, _, E1, ρ', rfl, ⟨hs, hE1⟩, share_rel _ hr3, h⟩
    | ret =>
      have h := gives_ok (en := ⟨f, ash, .nil, .hole .bool, p⟩) (x := x) (y := y) (z := bb) hw ((share_m _ _).1.trans (c1.trans (hi.m.trans hm1))) (by rw [(share_m _ _).1, (share_m _ _).2, c1, c2, hi.m]; exact Nat.le_trans (Nat.le_add_left _ _) hi.next) hk hEO1 (share_rel _ hr3)
      rw [e1, e2] at h
      exact ⟨.ret, _, E1, ρ', rfl, ⟨hs, hE1⟩, share_rel _ hr3, h⟩
  have e3 : (⟨f, ash, .nil, .hole .bool, p⟩ : Ent).new x y bb = [] := rfl
  have e4 : ((⟨f, ash, .nil, .hole .bool, p⟩ : Ent).val x y bb).toV = .im (.val (.bool bb)) := rfl
  rw [e1, e2, e3, e4]
  exact key
end Go.Proofs.Ytlmnhbobgfpanaa
