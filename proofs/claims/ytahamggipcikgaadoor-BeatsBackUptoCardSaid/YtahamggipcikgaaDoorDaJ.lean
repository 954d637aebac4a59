/-
  That typed code does what the code does; entries out of it. General; nothing of this program.
-/
import Derived.Test.YtahamggipcikgaaDoorDaI
import Derived.Test.YtahamggipcikgaaDoorDaFm
namespace Go.Proofs.YtahamggipcikgaaDoor
open Go.RowKit

def DC.Good (P : Program) : DC → Prop
  | .region rs _ _ => ∀ q ∈ rs, q.2.Good P
  | .seq x y => x.Good P ∧ y.Good P
  | .join _ x y => x.Good P ∧ y.Good P
  | .cond _ x y => x.Good P ∧ y.Good P
  | .block _ x => x.Good P
  | .loop _ x => x.Good P
  | _ => True

section
variable {R : Type} {P : Program} {σ : DSt} {fr : Nat} {r : R} {K : List Nat → DV → List (Nat × DOb) → Option R}
theorem dsem_ok {o : AOp} {h : Hint} (hg : h.Good P) (e : dsem σ fr o h K = some r) : Okay P σ fr o K r := by
  have hg' := hg
  cases o with
  | mov x => exact okay_mov e
  | mkmap t agg sz x => exact okay_mkmap e
  | mlook kc cok agg sz z x i => exact okay_mlook e
  | mset kc agg sz m i x => exact okay_mset e
  | ment kc agg sz z m i => exact okay_ment e
  | mest agg sz m s x => exact okay_mest e
  | mlen x => exact okay_mlen e
  | pick c x y => exact okay_pick e
  | alloc e' sz z => exact okay_alloc e
  | box e' sz x => exact okay_box e
  | build sz z ps => exact okay_build e
  | bslice e' sz len z ps => exact okay_bslice e
  | cslice e' len ps => exact okay_cslice e
  | load g sz x => exact okay_load e
  | store sz a x => exact okay_store e
  | faddr off x => exact okay_faddr e
  | iaddr sz x i => exact okay_iaddr e
  | bin op x y => exact okay_bin e
  | beq n x y => exact okay_beq e
  | seq n ks x y => exact okay_seq e
  | not x => exact okay_not e
  | conv k x => exact okay_conv e
  | fld g off sz x => exact okay_fld e
  | slc sz x lo hi => exact okay_slc e
  | make e' sz z b l c => exact okay_make e
  | len s x => exact okay_len e
  | app e' sz z b s x => exact okay_app e
  | apps e' s x => exact okay_apps e
  | ext x i => exact okay_ext e
  | ifc t x => exact okay_ifc e
  | fn f fi ca => exact okay_fn e
  | call f as =>
    obtain ⟨rd, v, ups, e, k⟩ := dcall_ok (Hint.pick_good hg') e
    refine okay e (v1 := v.toV) (us1 := dups ups) ?_ (VLe.refl _) (ULe.refl _)
    have : as.map (aev σ.st) = (as.map (daev σ)).map DV.toV := by rw [List.map_map]; exact List.map_congr_left fun x _ => aev_st σ x
    simp only [asem, this]
    exact k
  | callv f as =>
    simp only [dsem] at e
    split at e
    · rename_i fn n fst m cap hf
      obtain ⟨rd, v, ups, e, k⟩ := dcall_ok (Hint.pick_good hg') e
      refine okay e (v1 := v.toV) (us1 := dups ups) ?_ (VLe.refl _) (ULe.refl _)
      have : as.map (aev σ.st) = (as.map (daev σ)).map DV.toV := by rw [List.map_map]; exact List.map_congr_left fun x _ => aev_st σ x
      simp only [asem, aev_st, hf, DV.toV, this]
      simp only [List.map_append, List.map_map] at k
      simp only [List.map_map]
      exact k
    · cases e
  | mm big x y => exact okay_mm e
  | slc3 sz x lo hi mx => exact okay_slc3 e
  | b2s x => exact okay_b2s e
  | b2b x => exact okay_b2b e
  | copy sz d s => exact okay_copy e
  | clr sz z x => exact okay_clr e
  | appz e' sz z b s n => exact okay_appz e
  | bad => cases e
  | pure p xs => exact okay_pure e
  | s2b e' x => exact okay_s2b e
theorem dset_self : ∀ (l : List (Nat × DV)) (t : Nat), dset l t (dlk l t) = l
  | [], _ => rfl
  | (k, v) :: l, t => by
    simp only [dset, dlk, nbeq_iff]
    by_cases h : k = t
    · simp [h]
    · simp [h, dset_self l t]
theorem fix_self {t : Nat} {b : Bool} (h : σ.get t = .im .bool b) : σ.fix t b = σ := by
  unfold DSt.fix
  rw [← h, show σ.get t = dlk σ.tm t from rfl, dset_self]
theorem fixO_self {x : Operand} {b : Bool} (h : daev σ x = .im .bool b) : σ.fixO x b = σ := by
  cases x with
  | tmp t => exact fix_self h
  | _ => rfl
theorem dgs_ok {q : RO × Hint} {K : DSt → List Nat → DV → List (Nat × DOb) → Option R} (hg : q.2.Good P) (e : dgs σ fr q K = some r) :
    ∃ rd v ups, K σ rd v ups = some r ∧ StepW P σ.st fr q.1 rd v.toV (dups ups) := by
  unfold dgs at e
  cases hq : q.1.guard with
  | none =>
    simp only [hq] at e
    obtain ⟨rd, v, ups, e, v1, us1, h1, h2, h3⟩ := dsem_ok hg e
    refine ⟨rd, v, ups, e, v1, us1, ?_, h2, h3⟩
    simp only [gsem, hq]
    exact h1
  | some g =>
    obtain ⟨t, want⟩ := g
    simp only [hq] at e
    split at e
    · rename_i b hb
      have run : dsem σ fr q.1.op q.2 (K σ) = some r → b = want → ∃ rd v ups, K σ rd v ups = some r ∧ StepW P σ.st fr q.1 rd v.toV (dups ups) := fun e hw => by
        obtain ⟨rd, v, ups, e, v1, us1, h1, h2, h3⟩ := dsem_ok hg e
        refine ⟨rd, v, ups, e, v1, us1, ?_, h2, h3⟩
        simp only [gsem, hq, get_st, hb, DV.toV, cellT, AM.wp]
        exact ⟨fun _ => h1, fun hf => by rw [hw] at hf; simp at hf⟩
      have skip : K σ [] (.raw undef) [] = some r → b ≠ want → ∃ rd v ups, K σ rd v ups = some r ∧ StepW P σ.st fr q.1 rd v.toV (dups ups) := fun e hw => by
        refine ⟨[], .raw undef, [], e, .im (.val undef), [], ?_, VLe.refl _, trivial⟩
        simp only [gsem, hq, get_st, hb, DV.toV, cellT, AM.wp]
        exact ⟨fun hf => absurd (by simpa using hf) hw, fun _ => by simp⟩
      cases b with
      | true =>
        rw [cond_true, fix_self hb] at e
        cases want with
        | true => exact run e rfl
        | false => exact skip e (by simp)
      | false =>
        rw [cond_false, fix_self hb] at e
        cases want with
        | true => exact skip e (by simp)
        | false => exact run e rfl
    · rename_i v hb
      have e0 := cond_some e; clear e; obtain ⟨hv, e⟩ := e0
      obtain ⟨a, rfl⟩ := isTup_eq hv
      refine ⟨[], .raw undef, [], e, .im (.val undef), [], ?_, VLe.refl _, trivial⟩
      simp only [gsem, hq, get_st, hb, DV.toV, AM.wp]
      exact ⟨trivial, trivial, trivial⟩
    · cases e
theorem upd_st (d : Option Nat) (v : DV) (ups : List (Nat × DOb)) : (σ.upd d v ups).st = σ.st.upd d v.toV (dups ups) := by
  cases d <;> simp [DSt.st, DSt.upd, St.upd, dups]
theorem dlo_append (l l' : List (Nat × DOb)) (k : Nat) (h : k ∉ l.map (·.1)) : dlo (l ++ l') k = dlo l' k := by
  induction l with
  | nil => rfl
  | cons p l ih =>
    simp only [List.map_cons, List.mem_cons, not_or] at h
    obtain ⟨p1, p2⟩ := p
    simp only [List.cons_append, dlo, nbeq_iff]
    rw [show decide (p1 = k) = false by simpa using Ne.symm h.1]
    exact ih h.2
theorem upd_at {d : Option Nat} {v : DV} {ups : List (Nat × DOb)} {l : Nat} (h : l ∉ wrs d ups) : (σ.upd d v ups).at' l = σ.at' l := by
  rcases Nat.mod_two_eq_zero_or_one l with hl | hl
  · obtain ⟨t, rfl⟩ : ∃ t, l = 2 * t := ⟨l / 2, by omega⟩
    rw [dat_tmp, dat_tmp]
    congr 1
    cases d with
    | none => rfl
    | some d =>
      show dlk ((d, v) :: σ.tm) t = dlk σ.tm t
      have hd : d ≠ t := fun e => h (by simp [wrs, e])
      simp only [dlk, nbeq_iff, hd, decide_false, cond_false]
  · obtain ⟨k, rfl⟩ : ∃ k, l = 2 * k + 1 := ⟨l / 2, by omega⟩
    rw [dat_obj, dat_obj]
    congr 1
    refine dlo_append _ _ _ fun hk => h ?_
    obtain ⟨p, hp, rfl⟩ := List.mem_map.1 hk
    unfold wrs
    exact List.mem_append_right _ (List.mem_map.2 ⟨p, hp, rfl⟩)
structure Inv (σ σ' : DSt) : Prop where
  N : σ'.N = σ.N
  m : σ'.m = σ.m
  next : σ.next ≤ σ'.next
  wr : ∀ l, σ'.wr l = false → σ.wr l = false ∧ σ'.at' l = σ.at' l
theorem Inv.refl (σ : DSt) : Inv σ σ := ⟨rfl, rfl, Nat.le_refl _, fun _ h => ⟨h, rfl⟩⟩
theorem Inv.trans {σ σ' σ'' : DSt} (h : Inv σ σ') (k : Inv σ' σ'') : Inv σ σ'' :=
  ⟨k.N.trans h.N, k.m.trans h.m, Nat.le_trans h.next k.next, fun l hl => ⟨(h.wr l (k.wr l hl).1).1, (k.wr l hl).2.trans (h.wr l (k.wr l hl).1).2⟩⟩
theorem dreg_ok {base : Nat} : ∀ {rs : List (RO × Hint)} {i : Nat} {σ : DSt} {efs : List Ef} {K : DSt → List Ef → Option R}, (∀ q ∈ rs, q.2.Good P) → dreg base rs i σ efs K = some r →
    ∃ es σ', RunsW P base (rs.map (·.1)) i σ.st es σ'.st ∧ K σ' (efs ++ es) = some r ∧ Inv σ σ' ∧ σ'.next = σ.next
  | [], i, σ, efs, K, _, h => ⟨[], σ, ⟨rfl, rfl⟩, by simpa [dreg] using h, Inv.refl _, rfl⟩
  | q :: rs, i, σ, efs, K, hg, h => by
    simp only [dreg] at h
    obtain ⟨rd, v, ups, h, hs⟩ := dgs_ok (hg q (List.mem_cons_self ..)) h
    obtain ⟨es, σ', h1, h2, h3, h4⟩ := dreg_ok (fun q hq => hg q (List.mem_cons_of_mem _ hq)) h
    have h0 : Inv σ (σ.upd q.1.dst v ups) := ⟨rfl, rfl, Nat.le_refl _, fun l hl => by
      have hl' : ((wrs q.1.dst ups).contains l || σ.wr l) = false := hl
      simp only [Bool.or_eq_false_iff, List.contains_eq_mem, decide_eq_false_iff_not] at hl'
      exact ⟨hl'.2, upd_at hl'.1⟩⟩
    exact ⟨_ :: es, σ', ⟨rd, v.toV, dups ups, es, rfl, hs, by rw [upd_st] at h1; exact h1⟩, by simpa using h2, h0.trans h3, h4⟩
end

section
variable {P : Program} {N : Nat}
theorem compC_skip {code : Code} (h : compC P false N code = some .skip) : code = .skip := by
  cases code <;> simp only [compC] at h <;> (repeat' split at h) <;> simp_all
theorem compC_exit {code : Code} {id : Nat} (h : compC P false N code = some (.exit id)) : code = .exit id := by
  cases code <;> simp only [compC] at h <;> (repeat' split at h) <;> simp_all
theorem compC_ret {code : Code} (h : compC P false N code = some .ret) : code = .ret := by
  cases code <;> simp only [compC] at h <;> (repeat' split at h) <;> simp_all
theorem compC_seq {code : Code} {x y : AC} (h : compC P false N code = some (.seq x y)) : ∃ cx cy, code = .seq cx cy ∧ compC P false N cx = some x ∧ compC P false N cy = some y := by
  cases code <;> simp only [compC] at h <;> (repeat' split at h) <;> simp_all <;> exact ⟨_, _, ⟨rfl, rfl⟩, by assumption, by assumption⟩
theorem compC_cond {code : Code} {c : Operand} {x y : AC} (h : compC P false N code = some (.cond c x y)) : ∃ cx cy, code = .cond c cx cy ∧ compC P false N cx = some x ∧ compC P false N cy = some y := by
  cases code <;> simp only [compC] at h <;> (repeat' split at h) <;> simp_all <;> exact ⟨_, _, ⟨rfl, rfl⟩, by assumption, by assumption⟩
theorem compC_block {code : Code} {id : Nat} {x : AC} (h : compC P false N code = some (.block id x)) : ∃ cx, code = .block id cx ∧ compC P false N cx = some x := by
  cases code <;> simp only [compC] at h <;> (repeat' split at h) <;> simp_all
theorem compC_loop {code : Code} {x : AC} (h : compC P false N code = some (.loop x)) : ∃ cx, code = .loop cx ∧ compC P false N cx = some x := by
  cases code <;> simp only [compC] at h <;> (repeat' split at h) <;> simp_all
theorem compC_region {code : Code} {rs : List RO} {deps : List (List Nat)} {draw : Bool} (h : compC P false N code = some (.region rs deps draw)) :
    ∃ id ops, code = .region id ops draw ∧ compL P N ops ops.toList = some rs ∧ (ops.toList.zipIdx.all fun p => (depsOf p.1).all fun d => decide (d < p.2)) = true ∧ deps = ops.toList.map depsOf := by
  cases code <;> simp only [compC] at h <;> (repeat' split at h) <;> simp_all <;> exact ⟨_, _, ⟨rfl, rfl⟩, by assumption, by assumption, h.2.1.symm⟩
theorem orK_some {E R : Type} {o : Option (E ⊕ R)} {k : E → Option R} {r : R} (h : orK o k = some r) : (∃ e, o = some (.inl e) ∧ k e = some r) ∨ o = some (.inr r) := by
  unfold orK at h
  split at h
  · exact .inl ⟨_, rfl, h⟩
  · cases h; exact .inr rfl
  · cases h
theorem inrO_some {E R : Type} {o : Option R} {x : E ⊕ R} (h : inrO o = some x) : ∃ r, o = some r ∧ x = .inr r := by
  unfold inrO at h
  obtain ⟨r, h1, h2⟩ := Option.map_eq_some_iff.1 h
  exact ⟨r, h1, h2.symm⟩

theorem evD_ok (hm : P.follows .mixedOrders = true) {fu : Nat} : ∀ {c : DC} {code : Code} {R : Type} {qq : R → R → Bool} {K : AX → DSt → Option R} {σ : DSt} {r : R} {E : Env} {ρ : Pl} {a : Act} {w : World},
    c.Good P → compC P false N code = some c.erase → σ.N = N → σ.m ≤ σ.next → (∀ id, σ.m ≤ id → E.O id = none) → Rel E ρ σ.st a w → SoundQ qq → evD fu c qq K σ = some r →
    code.wp P (fun e a' w' => ∃ x σ' ρ', e = AX.out x ∧ Inv σ σ' ∧ Rel E ρ' σ'.st a' w' ∧ K x σ' = some r) a w := by
  intro c
  induction c with
  | skip =>
    intro code R qq K σ r E ρ a w hg hc hN hmn hE h hqq k
    obtain rfl := compC_skip hc
    exact wp_skip ⟨.normal, σ, ρ, rfl, Inv.refl _, h, k⟩
  | exit id =>
    intro code R qq K σ r E ρ a w hg hc hN hmn hE h hqq k
    obtain rfl := compC_exit hc
    exact wp_exit ⟨.exit id, σ, ρ, rfl, Inv.refl _, h, k⟩
  | ret =>
    intro code R qq K σ r E ρ a w hg hc hN hmn hE h hqq k
    obtain rfl := compC_ret hc
    exact wp_ret ⟨.ret, σ, ρ, rfl, Inv.refl _, h, k⟩
  | region rs deps draw =>
    intro code R qq K σ r E ρ a w hg hc hN hmn hE h hqq k
    obtain ⟨id, ops, rfl, h1, h2, rfl⟩ := compC_region hc
    obtain ⟨es, σ', r1, r2, r3, r4⟩ := dreg_ok hg k
    have e0 := cond_some r2; clear r2; obtain ⟨r5, r2⟩ := e0
    have hl : (rs.map (·.1)).length = rs.length := List.length_map ..
    refine region_okW (reg_of h1 h2) hm h hN (efs := es) (σ' := σ'.st) (by rw [hl]; exact r1) (fun hd => ?_) (fun ρ' a' w' hr => ⟨.normal, σ', ρ', rfl, ?_, hr, r2⟩) id
    · simpa [hd] using r5
    · exact ⟨r3.N, r3.m, Nat.le_trans (Nat.le_add_right _ _) r3.next, r3.wr⟩
  | seq x y ih1 ih2 =>
    intro code R qq K σ r E ρ a w hg hc hN hmn hE h hqq k
    obtain ⟨cx, cy, rfl, h1, h2⟩ := compC_seq hc
    refine wp_seq (wp_mono (ih1 hg.1 h1 hN hmn hE h hqq k) ?_)
    rintro e a' w' ⟨x, σ', ρ', rfl, hi, hr, hq⟩
    cases x with
    | normal =>
      refine wp_mono (ih2 hg.2 h2 (hi.N.trans hN) (by rw [hi.m]; exact Nat.le_trans hmn hi.next) (by rw [hi.m]; exact hE) hr hqq hq) ?_
      rintro e a' w' ⟨x, σ'', ρ'', rfl, hi', hr', hq'⟩
      exact ⟨x, σ'', ρ'', rfl, hi.trans hi', hr', hq'⟩
    | exit id => exact ⟨.exit id, σ', ρ', rfl, hi, hr, hq⟩
    | ret => exact ⟨.ret, σ', ρ', rfl, hi, hr, hq⟩
  | cond c x y ih1 ih2 =>
    intro code R qq K σ r E ρ a w hg hc hN hmn hE h hqq k
    obtain ⟨cx, cy, rfl, h1, h2⟩ := compC_cond hc
    simp only [evD] at k
    split at k
    · rename_i b hb
      have hv := aev_rel h c
      rw [aev_st, hb] at hv
      have hv' : a.eval c = .bool b := hv
      refine wp_cond hv' ?_
      cases b with
      | true =>
        rw [cond_true, fixO_self hb] at k
        exact ih1 hg.1 h1 hN hmn hE h hqq k
      | false =>
        rw [cond_false, fixO_self hb] at k
        exact ih2 hg.2 h2 hN hmn hE h hqq k
    · rename_i hb
      have hv := aev_rel h c
      rw [aev_st, hb] at hv
      obtain ⟨b, hv'⟩ : ∃ b : Bool, a.eval c = .bool b := hv
      obtain ⟨k1, k2⟩ := both_some hqq k
      refine wp_cond hv' ?_
      cases b with
      | true => exact ih1 hg.1 h1 hN hmn hE h hqq k1
      | false => exact ih2 hg.2 h2 hN hmn hE h hqq k2
    · cases k
  | block id x ih =>
    intro code R qq K σ r E ρ a w hg hc hN hmn hE h hqq k
    obtain ⟨cx, rfl, h1⟩ := compC_block hc
    refine wp_block (wp_mono (ih hg h1 hN hmn hE h hqq k) ?_)
    rintro e a' w' ⟨x, σ', ρ', rfl, hi, hr, hq⟩
    cases x with
    | normal => exact ⟨.normal, σ', ρ', rfl, hi, hr, hq⟩
    | ret => exact ⟨.ret, σ', ρ', rfl, hi, hr, hq⟩
    | exit id' =>
      simp only [nbeq_iff] at hq
      simp only [AX.out, Exit.inBlock]
      by_cases e : id' = id
      · rw [if_pos e]
        simp only [e, decide_true, cond_true] at hq
        exact ⟨.normal, σ', ρ', rfl, hi, hr, hq⟩
      · rw [if_neg e]
        simp only [e, decide_false, cond_false] at hq
        exact ⟨.exit id', σ', ρ', rfl, hi, hr, hq⟩
  | join an x y ih1 ih2 =>
    intro code R qq K σ r E ρ a w hg hc hN hmn hE h hqq k
    obtain ⟨cx, cy, rfl, h1, h2⟩ := compC_seq hc
    simp only [evD, Ann.norm_eq] at k
    have hx : ∃ o, evD fu x (sumQ (denQ an.ty) qq) (fun e σ' => match e with
        | .normal => an.get σ σ' fun s => some (.inl s)
        | e => inrO (K e (σ'.orW σ))) { σ with wr := fun _ => false } = some o ∧ ((∃ e, o = .inl e ∧ evD fu y qq K (an.put σ e) = some r) ∨ o = .inr r) := by
      rcases orK_some k with ⟨e, e1, e2⟩ | e1
      · exact ⟨_, e1, .inl ⟨e, rfl, e2⟩⟩
      · exact ⟨_, e1, .inr rfl⟩
    obtain ⟨o, k1, k2⟩ := hx
    refine wp_seq (wp_mono (ih1 (σ := { σ with wr := fun _ => false }) hg.1 h1 hN hmn hE h (sumQ_sound (denQ_sound _) hqq) k1) ?_)
    rintro e a' w' ⟨ax, σ', ρ', rfl, hi, hr, hq⟩
    have same : ∀ l, σ'.wr l = false → σ'.at' l = σ.at' l := fun l hl => (hi.wr l hl).2
    have out : Inv σ (σ'.orW σ) := ⟨hi.N, hi.m, hi.next, fun l hl => by
      have hl' : (σ'.wr l || σ.wr l) = false := hl
      simp only [Bool.or_eq_false_iff] at hl'
      exact ⟨hl'.2, same l hl'.1⟩⟩
    cases ax with
    | normal =>
      obtain ⟨e, ρ2, q1, q2, q3, q4⟩ := join_ok hq hi.N hmn same hE hr
      simp only [Option.some.injEq] at q1
      subst q1
      rcases k2 with ⟨e', e1, e2⟩ | e1
      · simp only [Sum.inl.injEq] at e1
        subst e1
        have hi2 : Inv σ (an.put σ e) := ⟨rfl, rfl, q3, fun l hl => by
          have hl' : (!(an.keepT.any (fun t => Nat.beq (2 * t) l) || an.keepO.any fun k => Nat.beq (2 * k + 1) l) || σ.wr l) = false := hl
          simp only [Bool.or_eq_false_iff, Bool.not_eq_false'] at hl'
          exact ⟨hl'.2, q4 l hl'.1⟩⟩
        refine wp_mono (ih2 (σ := an.put σ e) hg.2 h2 hN (Nat.le_trans hmn q3) hE q2 hqq e2) ?_
        rintro e a' w' ⟨x, σ'', ρ'', rfl, hi', hr', hq'⟩
        exact ⟨x, σ'', ρ'', rfl, hi2.trans hi', hr', hq'⟩
      · cases e1
    | exit id =>
      obtain ⟨r', q1, q2⟩ := inrO_some hq
      subst q2
      rcases k2 with ⟨e', e1, e2⟩ | e1
      · cases e1
      · cases e1
        exact ⟨.exit id, σ'.orW σ, ρ', rfl, out, hr, q1⟩
    | ret =>
      obtain ⟨r', q1, q2⟩ := inrO_some hq
      subst q2
      rcases k2 with ⟨e', e1, e2⟩ | e1
      · cases e1
      · cases e1
        exact ⟨.ret, σ'.orW σ, ρ', rfl, out, hr, q1⟩
  | loop an x ih =>
    intro code R qq K σ r E ρ a w hg hc hN hmn hE h hqq k
    obtain ⟨cx, rfl, h1⟩ := compC_loop hc
    simp only [evD, Ann.norm_eq] at k
    obtain ⟨s0, ρ0, q1, q2, q3, q4⟩ := join_ok (σ := { σ with wr := fun _ => false }) k rfl hmn (fun l _ => rfl) hE h
    generalize hf : (fun s => evD fu x (sumQ (denQ an.ty) qq) (fun e σ' => match e with
        | .normal => an.get σ σ' fun s => some (.inl s)
        | e => inrO (K e (σ'.orW σ))) { an.put σ s with wr := fun l => !(an.keepT.any (fun t => Nat.beq (2 * t) l) || an.keepO.any fun k => Nat.beq (2 * k + 1) l) }) = f at q1
    have key : ∀ n s ρ a w, loopO n f s = some r → Rel E ρ (an.put σ s).st a w → σ.next ≤ (an.put σ s).next →
        (∀ l, (an.keepT.any (fun t => Nat.beq (2 * t) l) || an.keepO.any fun k => Nat.beq (2 * k + 1) l) = true → (an.put σ s).at' l = σ.at' l) →
        Code.rounds P cx (fun e a' w' => ∃ x σ' ρ', e = AX.out x ∧ Inv σ σ' ∧ Rel E ρ' σ'.st a' w' ∧ K x σ' = some r) n a w := by
      intro n
      induction n with
      | zero => intro s ρ a w hl; cases hl
      | succ n ihn =>
        intro s ρ a w hl hr hnx hkp
        rw [rounds_succ]
        simp only [loopO] at hl
        cases hs : f s with
        | none => rw [hs] at hl; cases hl
        | some o =>
          rw [hs] at hl
          rw [← hf] at hs
          refine wp_mono (ih (σ := { an.put σ s with wr := fun l => !(an.keepT.any (fun t => Nat.beq (2 * t) l) || an.keepO.any fun k => Nat.beq (2 * k + 1) l) }) hg h1 hN (Nat.le_trans hmn hnx) hE hr (sumQ_sound (denQ_sound _) hqq) hs) ?_
          rintro e a' w' ⟨ax, σ', ρ', rfl, hi, hr', hq⟩
          have same : ∀ l, σ'.wr l = false → σ'.at' l = σ.at' l := fun l hl => by
            obtain ⟨p1, p2⟩ := hi.wr l hl
            have p1' : (!(an.keepT.any (fun t => Nat.beq (2 * t) l) || an.keepO.any fun k => Nat.beq (2 * k + 1) l)) = false := p1
            simp only [Bool.not_eq_false'] at p1'
            exact p2.trans (hkp l p1')
          have out : Inv σ (σ'.orW σ) := ⟨hi.N, hi.m, Nat.le_trans hnx hi.next, fun l hl => by
            have hl' : (σ'.wr l || σ.wr l) = false := hl
            simp only [Bool.or_eq_false_iff] at hl'
            exact ⟨hl'.2, same l hl'.1⟩⟩
          cases ax with
          | normal =>
            obtain ⟨e, ρ2, g1, g2, g3, g4⟩ := join_ok hq hi.N hmn same hE hr'
            simp only [Option.some.injEq] at g1
            subst g1
            exact ihn e ρ2 a' w' hl g2 g3 g4
          | exit id =>
            obtain ⟨r', g1, g2⟩ := inrO_some hq
            subst g2
            simp only [Option.some.injEq] at hl
            subst hl
            exact ⟨.exit id, σ'.orW σ, ρ', rfl, out, hr', g1⟩
          | ret =>
            obtain ⟨r', g1, g2⟩ := inrO_some hq
            subst g2
            simp only [Option.some.injEq] at hl
            subst hl
            exact ⟨.ret, σ'.orW σ, ρ', rfl, out, hr', g1⟩
    exact wp_loop_rounds fu (key fu s0 ρ0 a w q1 q2 q3 q4)
end
end Go.Proofs.YtahamggipcikgaaDoor
