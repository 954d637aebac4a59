/-
  That typed code does what the code does; entries out of it. General; nothing of this program.
-/
import Derived.Test.YtlmnhbobgfpanaaDaY
import Derived.Test.YtlmnhbobgfpanaaDaFm
namespace Go.Proofs.Ytlmnhbobgfpanaa
open Go.RowKit

def DC.Good (P : Program) (z : Bool) : DC → Prop
  | .region rs _ _ => ∀ q ∈ rs, q.2.Good P
  | .scr rs _ => z = true ∧ ∀ q ∈ rs, q.2.Good P ∧ q.2.GoodS P
  | .seq x y => x.Good P z ∧ y.Good P z
  | .zone _ _ x y => z = true ∧ x.Good P z ∧ y.Good P z
  | .age _ x y => z = true ∧ x.Good P z ∧ y.Good P z
  | .join _ x y => x.Good P z ∧ y.Good P z
  | .cond _ x y => x.Good P z ∧ y.Good P z
  | .block _ x => x.Good P z
  | .loop _ x => x.Good P z
  | _ => True

section
variable {R : Type} {P : Program} {σ : DSt} {fr : Nat} {r : R} {K : List Nat → DV → List (Nat × DOb) → Option R}
theorem dsem_ok {o : AOp} {h : Hint} (hg : h.Good P) (e : dsem σ fr o h K = some r) : Okay P σ fr o K r := by
  have hg' := hg
  cases o with
  | mov x => exact okay_mov e
  | mkmap t agg sz x => exact okay_mkmap e
  | mlook kc cok agg sz z x i => exact okay_mlook e
  | mset kc agg sz m i x => exact okay_mset e
  | ment kc agg sz z m i => exact okay_ment e
  | mest agg sz m s x => exact okay_mest e
  | mlen x => exact okay_mlen e
  | pick c x y => exact okay_pick e
  | alloc e' sz z => exact okay_alloc e
  | box e' sz x => exact okay_box e
  | build sz z ps => exact okay_build e
  | bslice e' sz len z ps => exact okay_bslice e
  | cslice e' len ps => exact okay_cslice e
  | load g sz x => exact okay_load e
  | store sz a x => exact okay_store e
  | faddr off x => exact okay_faddr e
  | iaddr sz x i => exact okay_iaddr e
  | bin op x y => exact okay_bin e
  | beq n x y => exact okay_beq e
  | seq n ks x y => exact okay_seq e
  | not x => exact okay_not e
  | conv k x => exact okay_conv e
  | fld g off sz x => exact okay_fld e
  | slc sz x lo hi => exact okay_slc e
  | make e' sz z b l c => exact okay_make e
  | len s x => exact okay_len e
  | app e' sz z b s x => exact okay_app e
  | apps e' s x => exact okay_apps e
  | ext x i => exact okay_ext e
  | ifc t x => exact okay_ifc e
  | fn f fi ca => exact okay_fn e
  | call f as =>
    obtain ⟨rd, v, ups, e, k⟩ := dcall_ok (Hint.pick_good hg') e
    refine okay e (v1 := v.toV) (us1 := dups ups) ?_ (VLe.refl _) (ULe.refl _)
    have : as.map (aev σ.st) = (as.map (daev σ)).map DV.toV := by rw [List.map_map]; exact List.map_congr_left fun x _ => aev_st σ x
    simp only [asem, this]
    exact k
  | callv f as =>
    simp only [dsem] at e
    split at e
    · rename_i fn n fst m cap hf
      obtain ⟨rd, v, ups, e, k⟩ := dcall_ok (Hint.pick_good hg') e
      refine okay e (v1 := v.toV) (us1 := dups ups) ?_ (VLe.refl _) (ULe.refl _)
      have : as.map (aev σ.st) = (as.map (daev σ)).map DV.toV := by rw [List.map_map]; exact List.map_congr_left fun x _ => aev_st σ x
      simp only [asem, aev_st, hf, DV.toV, this]
      simp only [List.map_append, List.map_map] at k
      simp only [List.map_map]
      exact k
    · cases e
  | mm big x y => exact okay_mm e
  | slc3 sz x lo hi mx => exact okay_slc3 e
  | b2s x => exact okay_b2s e
  | b2b x => exact okay_b2b e
  | copy sz d s => exact okay_copy e
  | clr sz z x => exact okay_clr e
  | appz e' sz z b s n => exact okay_appz e
  | bad => cases e
  | pure p xs => exact okay_pure e
  | s2b e' x => exact okay_s2b e
theorem dset_self : ∀ (l : List (Nat × DV)) (t : Nat), dset l t (dlk l t) = l
  | [], _ => rfl
  | (k, v) :: l, t => by
    simp only [dset, dlk, nbeq_iff]
    by_cases h : k = t
    · simp [h]
    · simp [h, dset_self l t]
theorem fix_self {t : Nat} {b : Bool} (h : σ.get t = .im .bool b) : σ.fix t b = σ := by
  unfold DSt.fix
  rw [← h, show σ.get t = dlk σ.tm t from rfl, dset_self]
theorem fixO_self {x : Operand} {b : Bool} (h : daev σ x = .im .bool b) : σ.fixO x b = σ := by
  cases x with
  | tmp t => exact fix_self h
  | _ => rfl
theorem dgs_ok {q : RO × Hint} {K : DSt → List Nat → DV → List (Nat × DOb) → Option R} (hg : q.2.Good P) (e : dgs σ fr q K = some r) :
    ∃ rd v ups, K σ rd v ups = some r ∧ StepW P σ.st fr q.1 rd v.toV (dups ups) := by
  unfold dgs at e
  cases hq : q.1.guard with
  | none =>
    simp only [hq] at e
    obtain ⟨rd, v, ups, e, v1, us1, h1, h2, h3⟩ := dsem_ok hg e
    refine ⟨rd, v, ups, e, v1, us1, ?_, h2, h3⟩
    simp only [gsem, hq]
    exact h1
  | some g =>
    obtain ⟨t, want⟩ := g
    simp only [hq] at e
    split at e
    · rename_i b hb
      have run : dsem σ fr q.1.op q.2 (K σ) = some r → b = want → ∃ rd v ups, K σ rd v ups = some r ∧ StepW P σ.st fr q.1 rd v.toV (dups ups) := fun e hw => by
        obtain ⟨rd, v, ups, e, v1, us1, h1, h2, h3⟩ := dsem_ok hg e
        refine ⟨rd, v, ups, e, v1, us1, ?_, h2, h3⟩
        simp only [gsem, hq, get_st, hb, DV.toV, cellT, AM.wp]
        exact ⟨fun _ => h1, fun hf => by rw [hw] at hf; simp at hf⟩
      have skip : K σ [] (.raw undef) [] = some r → b ≠ want → ∃ rd v ups, K σ rd v ups = some r ∧ StepW P σ.st fr q.1 rd v.toV (dups ups) := fun e hw => by
        refine ⟨[], .raw undef, [], e, .im (.val undef), [], ?_, VLe.refl _, trivial⟩
        simp only [gsem, hq, get_st, hb, DV.toV, cellT, AM.wp]
        exact ⟨fun hf => absurd (by simpa using hf) hw, fun _ => by simp⟩
      cases b with
      | true =>
        rw [cond_true, fix_self hb] at e
        cases want with
        | true => exact run e rfl
        | false => exact skip e (by simp)
      | false =>
        rw [cond_false, fix_self hb] at e
        cases want with
        | true => exact skip e (by simp)
        | false => exact run e rfl
    · rename_i v hb
      have e0 := cond_some e; clear e; obtain ⟨hv, e⟩ := e0
      obtain ⟨a, rfl⟩ := isTup_eq hv
      refine ⟨[], .raw undef, [], e, .im (.val undef), [], ?_, VLe.refl _, trivial⟩
      simp only [gsem, hq, get_st, hb, DV.toV, AM.wp]
      exact ⟨trivial, trivial, trivial⟩
    · cases e
theorem upd_st (d : Option Nat) (v : DV) (ups : List (Nat × DOb)) : (σ.upd d v ups).st = σ.st.upd d v.toV (dups ups) := by
  cases d <;> simp [DSt.st, DSt.upd, St.upd, dups]
theorem dlo_append (l l' : List (Nat × DOb)) (k : Nat) (h : k ∉ l.map (·.1)) : dlo (l ++ l') k = dlo l' k := by
  induction l with
  | nil => rfl
  | cons p l ih =>
    simp only [List.map_cons, List.mem_cons, not_or] at h
    obtain ⟨p1, p2⟩ := p
    simp only [List.cons_append, dlo, nbeq_iff]
    rw [show decide (p1 = k) = false by simpa using Ne.symm h.1]
    exact ih h.2
theorem upd_at {d : Option Nat} {v : DV} {ups : List (Nat × DOb)} {l : Nat} (h : l ∉ wrs d ups) : (σ.upd d v ups).at' l = σ.at' l := by
  rcases Nat.mod_two_eq_zero_or_one l with hl | hl
  · obtain ⟨t, rfl⟩ : ∃ t, l = 2 * t := ⟨l / 2, by omega⟩
    rw [dat_tmp, dat_tmp]
    congr 1
    cases d with
    | none => rfl
    | some d =>
      show dlk ((d, v) :: σ.tm) t = dlk σ.tm t
      have hd : d ≠ t := fun e => h (by simp [wrs, e])
      simp only [dlk, nbeq_iff, hd, decide_false, cond_false]
  · obtain ⟨k, rfl⟩ : ∃ k, l = 2 * k + 1 := ⟨l / 2, by omega⟩
    rw [dat_obj, dat_obj]
    congr 1
    refine dlo_append _ _ _ fun hk => h ?_
    obtain ⟨p, hp, rfl⟩ := List.mem_map.1 hk
    unfold wrs
    exact List.mem_append_right _ (List.mem_map.2 ⟨p, hp, rfl⟩)
structure Inv (σ σ' : DSt) : Prop where
  N : σ'.N = σ.N
  m : σ'.m = σ.m
  next : σ.next ≤ σ'.next
  wr : ∀ l, σ'.wr l = false → σ.wr l = false ∧ σ'.at' l = σ.at' l
theorem Inv.refl (σ : DSt) : Inv σ σ := ⟨rfl, rfl, Nat.le_refl _, fun _ h => ⟨h, rfl⟩⟩
theorem Inv.trans {σ σ' σ'' : DSt} (h : Inv σ σ') (k : Inv σ' σ'') : Inv σ σ'' :=
  ⟨k.N.trans h.N, k.m.trans h.m, Nat.le_trans h.next k.next, fun l hl => ⟨(h.wr l (k.wr l hl).1).1, (k.wr l hl).2.trans (h.wr l (k.wr l hl).1).2⟩⟩
theorem dreg_ok {base : Nat} : ∀ {rs : List (RO × Hint)} {i : Nat} {σ : DSt} {efs : List Ef} {K : DSt → List Ef → Option R}, (∀ q ∈ rs, q.2.Good P) → dreg base rs i σ efs K = some r →
    ∃ es σ', RunsW P base (rs.map (·.1)) i σ.st es σ'.st ∧ K σ' (efs ++ es) = some r ∧ Inv σ σ' ∧ σ'.next = σ.next
  | [], i, σ, efs, K, _, h => ⟨[], σ, ⟨rfl, rfl⟩, by simpa [dreg] using h, Inv.refl _, rfl⟩
  | q :: rs, i, σ, efs, K, hg, h => by
    simp only [dreg] at h
    obtain ⟨rd, v, ups, h, hs⟩ := dgs_ok (hg q (List.mem_cons_self ..)) h
    obtain ⟨es, σ', h1, h2, h3, h4⟩ := dreg_ok (fun q hq => hg q (List.mem_cons_of_mem _ hq)) h
    have h0 : Inv σ (σ.upd q.1.dst v ups) := ⟨rfl, rfl, Nat.le_refl _, fun l hl => by
      have hl' : ((wrs q.1.dst ups).contains l || σ.wr l) = false := hl
      simp only [Bool.or_eq_false_iff, List.contains_eq_mem, decide_eq_false_iff_not] at hl'
      exact ⟨hl'.2, upd_at hl'.1⟩⟩
    exact ⟨_ :: es, σ', ⟨rd, v.toV, dups ups, es, rfl, hs, by rw [upd_st] at h1; exact h1⟩, by simpa using h2, h0.trans h3, h4⟩
end

section
variable {P : Program} {N : Nat}
theorem compC_skip {code : Code} (h : compC P false N code = some .skip) : code = .skip := by
  cases code <;> simp only [compC] at h <;> (repeat' split at h) <;> simp_all
theorem compC_exit {code : Code} {id : Nat} (h : compC P false N code = some (.exit id)) : code = .exit id := by
  cases code <;> simp only [compC] at h <;> (repeat' split at h) <;> simp_all
theorem compC_ret {code : Code} (h : compC P false N code = some .ret) : code = .ret := by
  cases code <;> simp only [compC] at h <;> (repeat' split at h) <;> simp_all
theorem compC_seq {code : Code} {x y : AC} (h : compC P false N code = some (.seq x y)) : ∃ cx cy, code = .seq cx cy ∧ compC P false N cx = some x ∧ compC P false N cy = some y := by
  cases code <;> simp only [compC] at h <;> (repeat' split at h) <;> simp_all <;> exact ⟨_, _, ⟨rfl, rfl⟩, by assumption, by assumption⟩
theorem compC_cond {code : Code} {c : Operand} {x y : AC} (h : compC P false N code = some (.cond c x y)) : ∃ cx cy, code = .cond c cx cy ∧ compC P false N cx = some x ∧ compC P false N cy = some y := by
  cases code <;> simp only [compC] at h <;> (repeat' split at h) <;> simp_all <;> exact ⟨_, _, ⟨rfl, rfl⟩, by assumption, by assumption⟩
theorem compC_block {code : Code} {id : Nat} {x : AC} (h : compC P false N code = some (.block id x)) : ∃ cx, code = .block id cx ∧ compC P false N cx = some x := by
  cases code <;> simp only [compC] at h <;> (repeat' split at h) <;> simp_all
theorem compC_loop {code : Code} {x : AC} (h : compC P false N code = some (.loop x)) : ∃ cx, code = .loop cx ∧ compC P false N cx = some x := by
  cases code <;> simp only [compC] at h <;> (repeat' split at h) <;> simp_all
theorem compC_region {code : Code} {rs : List RO} {deps : List (List Nat)} {draw : Bool} (h : compC P false N code = some (.region rs deps draw)) :
    ∃ id ops, code = .region id ops draw ∧ compL P N ops ops.toList = some rs ∧ (ops.toList.zipIdx.all fun p => (depsOf p.1).all fun d => decide (d < p.2)) = true ∧ deps = ops.toList.map depsOf := by
  cases code <;> simp only [compC] at h <;> (repeat' split at h) <;> simp_all <;> exact ⟨_, _, ⟨rfl, rfl⟩, by assumption, by assumption, h.2.1.symm⟩
theorem orK_some {E R : Type} {o : Option (E ⊕ R)} {k : E → Option R} {r : R} (h : orK o k = some r) : (∃ e, o = some (.inl e) ∧ k e = some r) ∨ o = some (.inr r) := by
  unfold orK at h
  split at h
  · exact .inl ⟨_, rfl, h⟩
  · cases h; exact .inr rfl
  · cases h
theorem inrO_some {E R : Type} {o : Option R} {x : E ⊕ R} (h : inrO o = some x) : ∃ r, o = some r ∧ x = .inr r := by
  unfold inrO at h
  obtain ⟨r, h1, h2⟩ := Option.map_eq_some_iff.1 h
  exact ⟨r, h1, h2.symm⟩

theorem comp_store {o : Oper} {sz : Nat} {y x : Operand} (hc : comp P o = some (.store sz y x)) : ∃ t, o.op = .store t y x := by
  unfold comp at hc
  cases hop : o.op <;> rw [hop] at hc <;> simp only [nilQ] at hc <;> (repeat' split at hc) <;> simp_all
section
variable {E : Env} {ρ : Pl} {σ : DSt} {a : Act} {w : World} {o : Oper} {m : Nat} {R : Type} {r : R} {Q : Exit → Act → World → Prop}
theorem scr_run {ro : RO} (hE : KE m true E) (h : Rel E ρ σ.st a w) (hc : comp P o = some ro.op) (hd : ∀ t, ro.dst = some t → t < σ.N) (hdo : o.dst = ro.dst) (hb : scrB σ ro = true) :
    ∃ w' E', (execOp a.eval o).run P w = .ok .skip w' ∧ (StepZ true E E' ∧ KE m true E') ∧ Rel E' ρ (σ.upd ro.dst (.raw undef) []).st (a.put o.dst undef) w' := by
  unfold scrB at hb
  split at hb <;> try (cases hb; done)
  rename_i sz ad x hg hop
  simp only [Bool.and_eq_true] at hb
  obtain ⟨hsz, hb⟩ := hb
  obtain rfl := nbeq hsz
  split at hb <;> try (cases hb; done)
  rename_i qc τ l i j had
  simp only [Bool.and_eq_true] at hb
  obtain ⟨hqc, hb⟩ := hb
  split at hb <;> try (cases hb; done)
  rename_i κ κ' hk hk'
  simp only [Bool.and_eq_true] at hb
  obtain rfl := nkEq_eq hb.1
  rw [hop] at hc
  obtain ⟨t, ho⟩ := comp_store hc
  have hx := aev_rel h x
  rw [aev_st] at hx
  have hkv := kind_has hk' hx
  have hy := aev_rel h ad
  rw [aev_st, had] at hy
  obtain ⟨pa, e1, hi, hs, hcs⟩ := hy
  obtain ⟨hj, hct⟩ := kindAt_lt hk
  obtain ⟨hok, u, hu, h1, hr⟩ := hcs j hj
  have hr' : κ.has u := by
    have : rowsT τ l i j = .anyn κ := hct _
    rw [this] at hr
    exact hr
  have hsp := cell_addr hu
  rw [block_add, off_add] at hsp
  rw [hsp] at hu
  have hw := wrote_setCell (v := a.eval x) hu
  obtain ⟨E', hst, hE', hrel⟩ := scr_rel (qc.beq .mid) hE h hb.2 hw hu hr' hkv (by cases qc <;> first | exact hok.1 | cases hqc)
  obtain ⟨q1, q2⟩ := Nk.one hkv
  refine ⟨w.setCell ⟨pa.block, pa.off + (i * τ.size + j), none⟩ (a.eval x), E', ?_, ⟨hst, hE'⟩, ?_⟩
  · unfold comp at hc
    rw [ho] at hc
    simp only at hc
    split at hc <;> try (simp at hc; done)
    rename_i inf h2
    split at hc <;> simp only [Option.some.injEq, AOp.store.injEq, reduceCtorEq] at hc
    obtain ⟨hsz, -⟩ := hc
    have hf := hok.2 hqc
    have e1' : a.eval ad = .pointer (some ⟨pa.block, pa.off + (i * τ.size + j), none⟩) := by rw [e1, ← hsp]
    have hst : (store (⟨pa.block, pa.off + (i * τ.size + j), none⟩ : Addr) (a.eval x)).run P w = .ok () (w.setCell ⟨pa.block, pa.off + (i * τ.size + j), none⟩ (a.eval x)) := by
      rw [run_store P w _ _ _ q1, hu]
      simp [hf]
    simp [execOp, ho, Instr.storeAt, Instr.sureAddr, e1', storeVar, sizeOf, typeInfo, h2, q2, hsz, storeCells, add_mk, hst, Result.andThen]
  · rw [hdo]
    have := hrel.putO (d := ro.dst) hd (v := .im (.val undef)) (x := undef) rfl
    rw [upd_st]
    exact this
def spS (b : Sees) : Sees
  | .new, g, k => b .mid g k
  | .old, g, k => b .saf g k
  | .any, g, k => b .any g k
  | .saf, g, k => b .mid g k ∨ b .saf g k
  | .mid, _, _ => False
theorem spS_mono {b : Sees} (h : Mono b) : Mono (spS b) := by
  refine ⟨fun q g k hk => ?_, fun q g k hq hk => ?_⟩
  · cases q with
    | new => exact h.1 _ g k hk
    | old => exact h.1 _ g k hk
    | any => exact hk
    | saf => exact hk.elim (h.1 _ g k) (h.1 _ g k)
    | mid => exact hk.elim
  · rcases hq with rfl | rfl
    · exact .inl hk
    · exact .inr hk
theorem spS_sp {b : Sees} (h : Mono b) {q : Qc} {g k : Nat} (hk : b q g k) : spS b (Qc.sp q) g k := by
  cases q with
  | mid => exact hk
  | any => exact hk
  | new => exact h.2 _ g k (.inl rfl) hk
  | old => exact h.2 _ g k (.inr rfl) hk
  | saf => exact hk
theorem sp_wr (q : Qc) (h : (Qc.sp q).wr = true) : q.wr = true := by cases q <;> first | rfl | cases h
theorem slot_up {ag : Bool} {τ : Tp} {x : den τ} {ok ok' : Sees} {w : World} {v : Value} (h : ∀ q g k, g < w.heap.size → ok q g k → ok' q g k) (hs : SlotHas ag τ x ok w v) : SlotHas ag τ x ok' w v := by
  unfold SlotHas at hs ⊢
  split at hs
  · rename_i ha
    rw [if_pos ha]
    obtain ⟨cs, e, h1, h2⟩ := hs
    exact ⟨cs, e, h1, fun j hj => T.rel_mono (fun q g k hg ho => ⟨rfl, h q g k hg ho⟩) (h2 j hj)⟩
  · rename_i ha
    rw [if_neg ha]
    exact T.rel_mono (fun q g k hg ho => ⟨rfl, h q g k hg ho⟩) hs
theorem sp_rel {b b' : Sees} {ρ : Pl} {O : Ow} {w : World} (h : ∀ q g k, g < w.heap.size → okb b ρ O q g k → okb b' (fun _ => none) (fun _ => none) (Qc.sp q) g k) : ∀ (v : DV) {u : Value}, v.toV.rel b ρ O w u → (v.spd).toV.rel b' (fun _ => none) (fun _ => none) w u := by
  intro v
  induction v with
  | im τ x => intro u hu; exact aged_cell sp_wr h τ x 0 hu
  | raw v => intro u hu; exact hu
  | agg n f ih => intro u ⟨cs, e, h1, h2⟩; exact ⟨cs, e, h1, fun j hj => ⟨(h2 j hj).1, ih j (h2 j hj).2⟩⟩
  | _ => intro u _; exact trivial
theorem comp_call {o : Oper} {f : FuncId} {as : List Operand} (hc : comp P o = some (.call f as)) : ∃ c : Call, c.callee = .value (.func f) ∧ c.args.toList = as ∧ o.op = .call c := by
  unfold comp at hc
  cases hop : o.op <;> rw [hop] at hc <;> simp only [nilQ] at hc <;> (repeat' split at hc) <;> simp_all
theorem spo_call {s : Spo} {x : Operand} {K : Act → World → Prop} (hs : Enters P s.f) (hc : comp P o = some (.call s.f [x])) {Φ : Ending → World → Prop} (hcall : Calls P s.f #[a.eval x] w Φ) (hk : ∀ e w', Φ e w' → ∃ v, e = .returned v ∧ K (a.put o.dst v) w') : o.wp P a w K Q := by
  obtain ⟨c, hcb, hca, ho⟩ := comp_call hc
  have harg : c.args.map a.eval = #[a.eval x] := by
    have : (c.args.map a.eval).toList = [a.eval x] := by simp [hca]
    rw [← Array.toArray_toList (xs := c.args.map a.eval), this]
  have hrun : (execOp a.eval o).run P w = .ok (.enter s.f #[a.eval x]) w := by
    simp [execOp, ho, resolve, hcb, Deferred.ofValue, Act.eval, invoke, callFunc_run hs, harg]
  unfold Oper.wp
  rw [hrun, Oper.upon_enter]
  refine hcall.mono ?_
  intro e w' h
  obtain ⟨v, rfl, h2⟩ := hk e w' h
  exact h2
theorem spo_tail {md : Bool} {ro : RO} {K : Act → World → Prop} (hE : KE m true E) (h : Rel E ρ σ.st a w) (hd : ∀ t, ro.dst = some t → t < σ.N) (hdo : o.dst = ro.dst)
    (hK : ∀ E' ρ' a' w', StepZ true E E' → KE m true E' → Rel E' ρ' (σ.safe md ro.dst.toList).st a' w' → K a' w') (w' : World) (hsc : Scrib (fun g k => okb E.b ρ σ.st.O (Qc.wc md) g k) w w') (v : Value) : K (a.put o.dst v) w' := by
  have p1 : (a.put o.dst v).tmps.size = a.tmps.size := by cases o.dst <;> simp [Act.put]
  have p2 : (a.put o.dst v).defers = a.defers := by cases o.dst <;> rfl
  have p3 : ∀ t, t ∉ ro.dst.toList → (a.put o.dst v).tmps.getD t undef = a.tmps.getD t undef := fun t ht => by
    rw [hdo]
    cases hro : ro.dst with
    | none => rfl
    | some d =>
      rw [hro] at ht
      simp only [Option.toList_some, List.mem_singleton] at ht
      rw [getD_put a d t v (by rw [h.N]; exact hd d hro), if_neg (Ne.symm ht)]
  obtain ⟨E', ρ', s1, s2, s3⟩ := safe_ok md (a' := a.put o.dst v) (ts := ro.dst.toList) hE h p1 p2 p3 hsc
  exact hK E' ρ' _ w' s1 s2 s3
theorem spo_run {md : Bool} {ro : RO} {s : Spo} {x : Operand} {y : den s.τ} {K : Act → World → Prop} (hs : s.Good P) (hr : s.rm = none) (hE : KE m true E) (h : Rel E ρ σ.st a w) (hc : comp P o = some (.call s.f [x])) (hd : ∀ t, ro.dst = some t → t < σ.N) (hdo : o.dst = ro.dst) (hp : s.p y = true)
    (hy : ∀ (b : Sees) (ρ : Pl) (O : Ow) (w : World) (u : Value), Mono b → (spArg md (daev σ x)).toV.rel b ρ O w u → SlotHas s.ag s.τ y (okb b ρ O) w u)
    (hK : ∀ E' ρ' a' w', StepZ true E E' → KE m true E' → Rel E' ρ' (σ.safe md ro.dst.toList).st a' w' → K a' w') : o.wp P a w K Q := by
  have hx := aev_rel h x
  rw [aev_st] at hx
  have hno : ∀ g k, ¬ ownc (fun _ => none) (fun _ => none) g k := fun g k ⟨id, o, ho, _⟩ => by cases ho
  have hmo := (Env.mono h.le).okb (ρ := ρ) (O := σ.st.O)
  have hnr : ∀ (ok : Sees) (z : List Zc), s.rm = some z → RoomC z ok w (a.eval x) := fun ok z hz => by rw [hr] at hz; cases hz
  have hcall : Calls P s.f #[a.eval x] w fun e w' => (∃ r, e = .returned r) ∧ Scrib (fun g k => okb E.b ρ σ.st.O (Qc.wc md) g k) w w' := by
    cases md with
    | false =>
      refine hs.2 y (okb E.b ρ σ.st.O) (a.eval x) w hp hmo (fun g k k' hk hk' => ke_apart hE h.le (md := false) (q := .old) rfl hk.1 hk'.1) ?_ (hy _ _ _ _ _ (Env.mono h.le) hx) (hnr _)
      exact ⟨fun p hp k v hv => ⟨⟨(h.gl.1 p hp k v hv).1, hno _ _⟩, (h.gl.1 p hp k v hv).2⟩, fun p hp => by
        obtain ⟨ad, g1, g2⟩ := h.gl.2 p hp
        exact ⟨ad, ⟨g1, hno _ _⟩, g2⟩⟩
    | true =>
      have hm2 : Mono (spS (okb E.b ρ σ.st.O)) := spS_mono hmo
      have hup : ∀ q g k, okb E.b ρ σ.st.O q g k → spS (okb E.b ρ σ.st.O) (Qc.sp q) g k := fun q g k hk => spS_sp hmo hk
      refine hs.2 y (spS (okb E.b ρ σ.st.O)) (a.eval x) w hp hm2 (fun g k k' hk hk' => ke_apart hE h.le (md := true) (q := .saf) rfl hk.1 hk'.1) ?_ ?_ (hnr _)
      · exact ⟨fun p hp k v hv => ⟨⟨hup .old _ _ (h.gl.1 p hp k v hv).1, hno _ _⟩, (h.gl.1 p hp k v hv).2⟩, fun p hp => by
          obtain ⟨ad, g1, g2⟩ := h.gl.2 p hp
          exact ⟨ad, ⟨hup .old _ _ g1, hno _ _⟩, g2⟩⟩
      · refine slot_up (fun q g k _ hk => hk.1) (hy (spS (okb E.b ρ σ.st.O)) (fun _ => none) (fun _ => none) w (a.eval x) hm2 ?_)
        exact sp_rel (fun q g k hg hk => ⟨hup q g k hk, hno g k⟩) _ hx
  exact spo_call hs.1 hc hcall fun e w' ⟨⟨v, he⟩, hsc⟩ => ⟨v, he, spo_tail hE h hd hdo hK w' hsc v⟩
theorem spoR_run {R : Type} {r : R} {ro : RO} {s : Spo} {x : Operand} {z : List Zc} {k : DSt → den s.τ → Option R} {K : Act → World → Prop} (hs : s.Good P) (hr : s.rm = some z) (hE : KE m true E) (h : Rel E ρ σ.st a w) (hc : comp P o = some (.call s.f [x])) (hd : ∀ t, ro.dst = some t → t < σ.N) (hdo : o.dst = ro.dst)
    (e : spoR σ s z (daev σ x) (fun σ1 y => cond (s.p y) (k σ1 y) none) = some r)
    (hK : ∀ (id : Nat) (y : den s.τ), k (σ.share [id]) y = some r → ∀ E' ρ' a' w', StepZ true E E' → KE m true E' → Rel E' ρ' ((σ.share [id]).safe false ro.dst.toList).st a' w' → K a' w') : o.wp P a w K Q := by
  have hx := aev_rel h x
  rw [aev_st] at hx
  unfold spoR at e
  split at e <;> try (cases e; done)
  rename_i id ver off len wh hv
  split at e <;> try (cases e; done)
  rename_i z' el τ ver' l ho
  have e0 := cond_some e; clear e; obtain ⟨hn, e⟩ := e0
  simp only [Bool.and_eq_true, Bool.not_eq_true', decide_eq_true_eq] at hn
  obtain ⟨rfl, hag, h1, h2, h3, h4⟩ := hn
  obtain rfl := nbeq h1
  obtain rfl := nbeq h2
  have hsz := nbeq h3
  have hz0 := nblt h4
  have e0 := cond_some e; clear e; obtain ⟨hl, e⟩ := e0
  simp only [decide_eq_true_eq] at hl
  split at e <;> try (cases e; done)
  rename_i y hcast
  have e0 := cond_some e; clear e; obtain ⟨hp, e⟩ := e0
  have h' := share_rel [id] h
  have hmo := (Env.mono h.le).okb (ρ := ρ) (O := (σ.share [id]).st.O)
  have hno : ∀ g k, ¬ ownc (fun _ => none) (fun _ => none) g k := fun g k ⟨id, o, ho, _⟩ => by cases ho
  have ho' : (σ.share [id]).O id = some (.arr .sh el τ ver' l) := by
    have : shareD σ id = some (id, .arr .sh el τ ver' l) := by unfold shareD; rw [ho]
    show dlo ([id].filterMap (shareD σ) ++ σ.ob) id = _
    simp only [List.filterMap_cons, List.filterMap_nil, this]
    simp [dlo]
  have hob := h'.ob id _ (O_st_some ho')
  have hob0 := h.ob id _ (O_st_some ho)
  rw [hv] at hx
  obtain ⟨A, c, ob, e1, e2, e3, e4, e5⟩ := hx
  rw [O_st_some ho] at e3
  cases e3
  obtain ⟨_, _, _, _, _, hob1, hoff, hq⟩ := e5 rfl
  cases hob1
  obtain ⟨he, rfl⟩ := castLe_some hcast
  have hslot : SlotHas s.ag s.τ (cast (Tp.leb_den he) l) (okb E.b ρ (σ.share [id]).st.O) w (a.eval x) ∧ RoomC z' (okb E.b ρ (σ.share [id]).st.O) w (a.eval x) := by
    unfold SlotHas
    rw [hag, if_neg nofun]
    have hle := Tp.leb_cell he l 0
    rcases hq with ⟨q1, rfl, rfl, _⟩ | ⟨g, cs, q1, q2, q3, q4⟩
    · have hl0 : l = [] := by
        rcases hob0 with ⟨_, q⟩ | ⟨g, _, _, q, _⟩
        · exact List.eq_nil_of_length_eq_zero q
        · rw [q1] at q; cases q
      subst hl0
      have hl : len = 0 := hl
      subst hl
      rw [e1]
      refine ⟨hle _ _ _ hmo ?_, ⟨none, 0, 0, rfl, Nat.le_refl _, Nat.zero_le _, .inl ⟨rfl, rfl⟩⟩⟩
      exact ⟨none, 0, rfl, Nat.le_refl _, fun i j hi => absurd hi (Nat.not_lt_zero _)⟩
    · rcases hob0 with ⟨q, _⟩ | ⟨g0, cs0, cap, r1, r2, r3, r4, r5, r6⟩
      · rw [q1] at q; cases q
      rw [q1] at r1; cases r1
      rw [q3] at r2; cases r2
      rcases hob with ⟨q, _⟩ | ⟨g0, cs0, cap', s1, s2, s3, s4, s5, s6⟩
      · rw [q1] at q; cases q
      rw [q1] at s1; cases s1
      rw [q3] at s2; cases s2
      have hA := q2 (.inr rfl)
      rw [Nat.zero_mul] at hA
      obtain ⟨z1, z2⟩ := r5.2.2 z' rfl
      have hτ : 0 < τ.size := by omega
      have hc1 : c = cap := by
        have := q4.trans r3
        rw [Nat.zero_add] at this
        exact Nat.eq_of_mul_eq_mul_right hτ this
      subst hc1
      have hsee : ∀ k, okb E.b ρ (σ.share [id]).st.O .new g k := fun k => ⟨(s5.2.1 rfl).2 _ _ rfl, fun hk => (s5.2.1 rfl).1 (own_of_ownc hk)⟩
      have hl2 : len = l.length := hl
      subst hl2
      rw [e1, hA]
      refine ⟨hle _ _ _ hmo ⟨_, c, rfl, r4, fun i j hi hj => ?_⟩, ⟨_, _, c, rfl, r4, r5.1, .inr ⟨g, cs, el, rfl, q3, by rw [r3, z1], fun k k1 k2 => ⟨hsee k, by rw [z1] at k1 k2 ⊢; exact z2 k k1 k2⟩⟩⟩⟩
      obtain ⟨t1, t2⟩ := s6 i j hi hj
      have hlt : i * τ.size + j < cs.size := by
        have h5 : (i + 1) * τ.size ≤ c * τ.size := Nat.mul_le_mul_right _ (Nat.le_trans hi r4)
        rw [Nat.add_mul] at h5
        omega
      refine ⟨_, _, rfl, ⟨hsee _, fun _ => frozen_row q3⟩, ?_, t1, t2⟩
      rw [Addr.add_lit, cell_of_row w g _ cs el (0, 0) q3, Nat.zero_add, Array.getD_eq_getD_getElem?, Array.getElem?_eq_getElem hlt]
      rfl
  have hcall : Calls P s.f #[a.eval x] w fun e w' => (∃ r, e = .returned r) ∧ Scrib (fun g k => okb E.b ρ (σ.share [id]).st.O (Qc.wc false) g k) w w' := by
    refine hs.2 _ (okb E.b ρ (σ.share [id]).st.O) (a.eval x) w hp hmo (fun g k k' hk hk' => ke_apart hE h.le (md := false) (q := .old) rfl hk.1 hk'.1) ?_ hslot.1 (fun z hz => by rw [hr] at hz; cases hz; exact hslot.2)
    exact ⟨fun p hp k v hv => ⟨⟨(h'.gl.1 p hp k v hv).1, hno _ _⟩, (h'.gl.1 p hp k v hv).2⟩, fun p hp => by
      obtain ⟨ad, g1, g2⟩ := h'.gl.2 p hp
      exact ⟨ad, ⟨g1, hno _ _⟩, g2⟩⟩
  exact spo_call hs.1 hc hcall fun e' w' ⟨⟨v, he'⟩, hsc⟩ => ⟨v, he', spo_tail (σ := σ.share [id]) hE h' hd hdo (hK id _ e) w' hsc v⟩
theorem dscr_ok {N : Nat} {ops : Array Oper} {ros : List RO} {deps : List (List Nat)} {base : Nat} (hR : Reg P N ops ros deps) {K : DSt → Option R} :
    ∀ (rs : List (RO × Hint)) (i : Nat) {E : Env} {σ : DSt} {ρ : Pl} {a : Act} {w : World}, ros.drop i = rs.map (·.1) → (∀ q ∈ rs, q.2.Good P ∧ q.2.GoodS P) → KE m true E → Rel E ρ σ.st a w → σ.N = N → (∀ id, base + 16 * i ≤ id → σ.st.O id = none) → base + 16 * ros.length ≤ σ.next →
      (∀ E' σ' ρ' a' w', (Inv σ σ' ∧ StepZ true E E' ∧ KE m true E') → Rel E' ρ' σ'.st a' w' → K σ' = some r → Q .normal a' w') →
      dscr base rs i σ K = some r → wpOps P ops Q (List.range' i rs.length) a w := by
  intro rs
  induction rs with
  | nil => intro i E σ ρ a w _ _ hE h _ _ _ hQ k; exact hQ E σ ρ a w ⟨Inv.refl _, StepZ.refl true E, hE⟩ h k
  | cons q rs ih =>
    intro i E σ ρ a w hr hg hE h hN hf hnx hQ k
    have up : ∀ (v : DV) (ups : List (Nat × DOb)), Inv σ (σ.upd q.1.dst v ups) := fun v ups => ⟨rfl, rfl, Nat.le_refl _, fun l hl => by
      have hl' : ((wrs q.1.dst ups).contains l || σ.wr l) = false := hl
      simp only [Bool.or_eq_false_iff, List.contains_eq_mem, decide_eq_false_iff_not] at hl'
      exact ⟨hl'.2, upd_at hl'.1⟩⟩
    have hi : i < ros.length := by
      have := congrArg List.length hr
      simp at this
      omega
    have hri : ros[i]? = some q.1 := by
      have := congrArg (·[0]?) hr
      simpa using this
    have hr' : ros.drop (i + 1) = rs.map (·.1) := by
      have := congrArg (List.drop 1) hr
      rw [List.drop_drop] at this
      simpa [Nat.add_comm] using this
    simp only [List.length_cons]
    rw [List.range'_succ, wpOps_cons]
    have hg' : ∀ q ∈ rs, q.2.Good P ∧ q.2.GoodS P := fun q hq => hg q (List.mem_cons_of_mem _ hq)
    obtain ⟨o, ho, hd, hc, hdn, hgd⟩ := hR.op i q.1 hri
    have bare : q.1.guard = none → q.1.op ≠ .bad → comp P o = some q.1.op ∧ ∀ {K' : Act → World → Prop}, o.wp P a w K' Q → wpOp P ops Q i K' a w := fun hgn hnb => by
      refine ⟨?_, fun {K'} hw => ?_⟩
      · unfold comp1 at hc
        cases hcc : comp P o with
        | some x => rw [hcc] at hc; exact hc
        | none =>
          rw [hcc] at hc
          exact absurd (Option.some.inj hc).symm hnb
      · unfold wpOp
        simp only [ho]
        have hgo : o.guard = none := by
          rw [hgn] at hgd
          cases hq : o.guard with
          | none => rfl
          | some p => rw [hq] at hgd; exact hgd.elim
        have hw' : Region.wanted o (yielded ops a.tmps) = true := by simp [Region.wanted, hgo]
        rw [if_pos hw']
        exact .inl hw
    have plain : cond (scrB σ q.1) (dscr base rs (i + 1) (σ.upd q.1.dst (.raw undef) []) K)
        (dgs σ (base + 16 * i) q fun σ' _ v ups => dscr base rs (i + 1) (σ'.upd q.1.dst v ups) K) = some r → wpOp P ops Q i (wpOps P ops Q (List.range' (i + 1) rs.length)) a w := fun k => by
      cases hb : scrB σ q.1 with
      | true =>
        rw [hb, cond_true] at k
        obtain ⟨hcc, hgo⟩ := bare (by
          unfold scrB at hb
          split at hb
          · assumption
          · cases hb) (fun hbad => by
          unfold scrB at hb
          rw [hbad] at hb
          split at hb
          · rename_i h2; cases h2
          · cases hb)
        obtain ⟨w', E1, h1, hs1, h2⟩ := scr_run hE h hcc (fun t ht => by rw [hN]; exact hdn t ht) hd hb
        refine hgo ?_
        unfold Oper.wp
        rw [h1, Oper.upon_skip]
        refine ih (i + 1) hr' hg' hs1.2 h2 hN (fun id hid => ?_) hnx (fun E' σ' ρ' a' w' hi' => hQ E' σ' ρ' a' w' ⟨(up _ _).trans hi'.1, hs1.1.trans hi'.2.1, hi'.2.2⟩) k
        rw [upd_st, upd_O]
        exact hf id (by omega)
      | false =>
        rw [hb, cond_false] at k
        obtain ⟨rd, v, ups, k, hs⟩ := dgs_ok (hg q (List.mem_cons_self ..)).1 k
        refine one_okW hR hri h hN (fun j hj => ⟨hf _ (by omega), ?_⟩) hs fun ρ' a' w' hr2 => ?_
        · show _ < σ.next
          omega
        · refine ih (i + 1) (σ := σ.upd q.1.dst v ups) hr' hg' hE (by rw [upd_st]; exact hr2) hN (fun id hid => ?_) hnx (fun E' σ' ρ' a' w' hi' => hQ E' σ' ρ' a' w' ⟨(up _ _).trans hi'.1, hi'.2⟩) k
          rw [upd_st, upd_O, lo_none, Option.none_or]
          · exact hf id (by omega)
          · rintro p hp rfl
            rcases gsem_upsW hs p hp with h3 | h3
            · exact h3 (hf p.1 (by omega))
            · omega
    obtain ⟨ro, hint⟩ := q
    cases hint with
    | spo s =>
      simp only [dscr] at k
      split at k <;> try (cases k; done)
      rename_i f x hgn hop
      have e0 := cond_some k; clear k; obtain ⟨hfs, k⟩ := e0
      obtain rfl := nbeq hfs
      obtain ⟨hcc, hgo⟩ := bare hgn (by rw [hop]; exact nofun)
      rw [hop] at hcc
      split at k
      rotate_left
      · rename_i z hrm
        refine hgo (spoR_run (ro := ro) (k := fun σ1 y => dscr base rs (i + 1) (σ1.safe false ro.dst.toList) K) (hg _ (List.mem_cons_self ..)).2 hrm hE h hcc (fun t ht => by rw [hN]; exact hdn t ht) hd k fun id0 y k E' ρ' a' w' s1 s2 s3 => ?_)
        have hi2 : Inv σ ((σ.share [id0]).safe false ro.dst.toList) := ⟨rfl, rfl, Nat.le_refl _, fun l hl => nomatch hl⟩
        refine ih (i + 1) hr' hg' s2 s3 hN (fun id hid => ?_) hnx (fun E2 σ' ρ' a' w' hi' => hQ E2 σ' ρ' a' w' ⟨hi2.trans hi'.1, s1.trans hi'.2.1, hi'.2.2⟩) k
        have e1 : σ.st.O id = (σ.O id).map DOb.toOb := lo_map σ.ob id
        have e3 := hf id (by omega)
        rw [e1] at e3
        have e4 : σ.O id = none := by
          cases hq : σ.O id with
          | none => rfl
          | some o => rw [hq] at e3; cases e3
        have e5 : (σ.share [id0]).O id = none := by
          show dlo ([id0].filterMap (shareD σ) ++ σ.ob) id = none
          cases hs : shareD σ id0 with
          | none => simp only [List.filterMap_cons, hs, List.filterMap_nil, List.nil_append]; exact e4
          | some q =>
            obtain ⟨g1, _, _, _, _, _, g2⟩ := shareD_some hs
            simp only [List.filterMap_cons, hs, List.filterMap_nil]
            show dlo (q :: σ.ob) id = none
            have hne : q.1 ≠ id := by
              rintro rfl
              rw [← g1] at g2
              rcases g2 with ⟨_, g2⟩ | ⟨_, _, _, g2⟩ <;> simp only [e4] at g2 <;> simp_all
            have hb : Nat.beq q.1 id = false := by
              cases hb : Nat.beq q.1 id with
              | false => rfl
              | true => exact absurd (nbeq hb) hne
            obtain ⟨q1, q2⟩ := q
            show cond (Nat.beq q1 id) (some q2) (dlo σ.ob id) = none
            rw [hb]
            exact e4
        have e2 : ((σ.share [id0]).safe false ro.dst.toList).st.O id = ((σ.share [id0]).O id).map fun o => (o.safe false (σ.share [id0]).O).toOb := by
          have : ((σ.share [id0]).safe false ro.dst.toList).st.O id = (dlo ((σ.share [id0]).ob.map fun p => (p.1, p.2.safe false (σ.share [id0]).O)) id).map DOb.toOb := lo_map _ id
          rw [this, dlo_map, Option.map_map]
          rfl
        rw [e2, e5]
        rfl
      rename_i hrm
      obtain ⟨y, k, hy⟩ := fitA_ok k
      have e0 := cond_some k; clear k; obtain ⟨hp, k⟩ := e0
      refine hgo (spo_run (ro := ro) (hg _ (List.mem_cons_self ..)).2 hrm hE h hcc (fun t ht => by rw [hN]; exact hdn t ht) hd hp hy fun E' ρ' a' w' s1 s2 s3 => ?_)
      have hi2 : Inv σ (σ.safe (daev σ x).hasMid ro.dst.toList) := ⟨rfl, rfl, Nat.le_refl _, fun l hl => nomatch hl⟩
      refine ih (i + 1) hr' hg' s2 s3 hN (fun id hid => ?_) hnx (fun E2 σ' ρ' a' w' hi' => hQ E2 σ' ρ' a' w' ⟨hi2.trans hi'.1, s1.trans hi'.2.1, hi'.2.2⟩) k
      have e1 : σ.st.O id = (σ.O id).map DOb.toOb := lo_map σ.ob id
      have e2 : (σ.safe (daev σ x).hasMid ro.dst.toList).st.O id = (σ.O id).map fun o => (o.safe (daev σ x).hasMid σ.O).toOb := by
        have : (σ.safe (daev σ x).hasMid ro.dst.toList).st.O id = (dlo (σ.ob.map fun p => (p.1, p.2.safe (daev σ x).hasMid σ.O)) id).map DOb.toOb := lo_map _ id
        rw [this, dlo_map, Option.map_map]
        rfl
      have e3 := hf id (by omega)
      rw [e1] at e3
      rw [e2]
      cases hq : σ.O id with
      | none => rfl
      | some o => rw [hq] at e3; cases e3
    | none => exact plain k
    | ty τ => exact plain k
    | ent e => exact plain k
    | either a b => exact plain k
end

theorem evD_ok (hm : P.follows .mixedOrders = true) {fu : Nat} {z : Bool} : ∀ {c : DC} {code : Code} {R : Type} {qq : R → R → Bool} {K : AX → DSt → Option R} {σ : DSt} {r : R} {E : Env} {ρ : Pl} {a : Act} {w : World},
    c.Good P z → compC P false N code = some c.erase → σ.N = N → σ.m ≤ σ.next → KE σ.m z E → Rel E ρ σ.st a w → SoundQ qq → evD fu c qq K σ = some r →
    code.wp P (fun e a' w' => ∃ x σ' E' ρ', e = AX.out x ∧ (Inv σ σ' ∧ StepZ z E E' ∧ KE σ.m z E') ∧ Rel E' ρ' σ'.st a' w' ∧ K x σ' = some r) a w := by
  intro c
  induction c with
  | skip =>
    intro code R qq K σ r E ρ a w hg hc hN hmn hE h hqq k
    obtain rfl := compC_skip hc
    exact wp_skip ⟨.normal, σ, E, ρ, rfl, ⟨Inv.refl _, StepZ.refl z E, hE⟩, h, k⟩
  | exit id =>
    intro code R qq K σ r E ρ a w hg hc hN hmn hE h hqq k
    obtain rfl := compC_exit hc
    exact wp_exit ⟨.exit id, σ, E, ρ, rfl, ⟨Inv.refl _, StepZ.refl z E, hE⟩, h, k⟩
  | ret =>
    intro code R qq K σ r E ρ a w hg hc hN hmn hE h hqq k
    obtain rfl := compC_ret hc
    exact wp_ret ⟨.ret, σ, E, ρ, rfl, ⟨Inv.refl _, StepZ.refl z E, hE⟩, h, k⟩
  | region rs deps draw =>
    intro code R qq K σ r E ρ a w hg hc hN hmn hE h hqq k
    obtain ⟨id, ops, rfl, h1, h2, rfl⟩ := compC_region hc
    obtain ⟨es, σ', r1, r2, r3, r4⟩ := dreg_ok hg k
    have e0 := cond_some r2; clear r2; obtain ⟨r5, r2⟩ := e0
    have hl : (rs.map (·.1)).length = rs.length := List.length_map ..
    refine region_okW (reg_of h1 h2) hm h hN (efs := es) (σ' := σ'.st) (by rw [hl]; exact r1) (fun hd => ?_) (fun ρ' a' w' hr => ⟨.normal, σ', E, ρ', rfl, ⟨?_, StepZ.refl z E, hE⟩, hr, r2⟩) id
    · simpa [hd] using r5
    · exact ⟨r3.N, r3.m, Nat.le_trans (Nat.le_add_right _ _) r3.next, r3.wr⟩
  | scr rs deps =>
    intro code R qq K σ r E ρ a w hg hc hN hmn hE h hqq k
    obtain ⟨id, ops, rfl, h1, h2, rfl⟩ := compC_region hc
    obtain rfl : z = true := hg.1
    have hl : (rs.map (·.1)).length = rs.length := List.length_map ..
    have hR := reg_of h1 h2
    refine wp_region ?_
    rw [List.range_eq_range', show ops.size = rs.length by rw [← hl]; exact hR.len.symm]
    refine dscr_ok (σ := { σ with next := σ.next + 16 * rs.length }) hR rs 0 (by simp) hg.2 hE (ρ := ρ) ?_ hN (fun id hid => h.nx id hid) (by rw [hl]; exact Nat.le_refl _) (fun E' σ' ρ' a' w' hi hr hk => ⟨.normal, σ', E', ρ', rfl, ⟨⟨hi.1.N, hi.1.m, Nat.le_trans (Nat.le_add_right _ _) hi.1.next, hi.1.wr⟩, hi.2.1, hi.2.2⟩, hr, hk⟩) k
    exact ⟨h.tm, h.N, h.ob, h.hi, h.inj, fun id hid => h.nx id (by have : σ.next + 16 * rs.length ≤ id := hid; show σ.next ≤ id; omega), h.ext, h.bs, h.os, h.tape, h.output, h.df, h.gl, h.le⟩
  | seq x y ih1 ih2 =>
    intro code R qq K σ r E ρ a w hg hc hN hmn hE h hqq k
    obtain ⟨cx, cy, rfl, h1, h2⟩ := compC_seq hc
    refine wp_seq (wp_mono (ih1 hg.1 h1 hN hmn hE h hqq k) ?_)
    rintro e a' w' ⟨x, σ', E1, ρ', rfl, ⟨hi, hs, hE1⟩, hr, hq⟩
    cases x with
    | normal =>
      refine wp_mono (ih2 hg.2 h2 (hi.N.trans hN) (by rw [hi.m]; exact Nat.le_trans hmn hi.next) (by rw [hi.m]; exact hE1) hr hqq hq) ?_
      rintro e a' w' ⟨x, σ'', E2, ρ'', rfl, ⟨hi', hs', hE2⟩, hr', hq'⟩
      exact ⟨x, σ'', E2, ρ'', rfl, ⟨hi.trans hi', hs.trans hs', by rw [← hi.m]; exact hE2⟩, hr', hq'⟩
    | exit id => exact ⟨.exit id, σ', E1, ρ', rfl, ⟨hi, hs, hE1⟩, hr, hq⟩
    | ret => exact ⟨.ret, σ', E1, ρ', rfl, ⟨hi, hs, hE1⟩, hr, hq⟩
  | age cl x y ih1 ih2 =>
    intro code R qq K σ r E ρ a w hg hc hN hmn hE h hqq k
    obtain ⟨cx, cy, rfl, h1, h2⟩ := compC_seq hc
    obtain rfl : z = true := hg.1
    refine wp_seq (wp_mono (ih1 hg.2.1 h1 hN hmn hE h hqq k) ?_)
    rintro e a' w' ⟨x, σ', E1, ρ', rfl, ⟨hi, hs, hE1⟩, hr, hq⟩
    cases x with
    | normal =>
      obtain ⟨E2, ρ2, s1, s2, s3⟩ := aged_ok cl hE1 hr
      have hi2 : Inv σ' (σ'.aged cl) := ⟨rfl, rfl, Nat.le_refl _, fun l hl => nomatch hl⟩
      refine wp_mono (ih2 (σ := σ'.aged cl) hg.2.2 h2 (hi.N.trans hN) (show σ'.m ≤ σ'.next by rw [hi.m]; exact Nat.le_trans hmn hi.next) (show KE σ'.m true E2 by rw [hi.m]; exact s2) s3 hqq hq) ?_
      rintro e a' w' ⟨x, σ'', E3, ρ'', rfl, ⟨hi', hs', hE3⟩, hr', hq'⟩
      exact ⟨x, σ'', E3, ρ'', rfl, ⟨hi.trans (hi2.trans hi'), hs.trans (s1.trans hs'), by rw [← hi.m]; exact hE3⟩, hr', hq'⟩
    | exit id => exact ⟨.exit id, σ', E1, ρ', rfl, ⟨hi, hs, hE1⟩, hr, hq⟩
    | ret => exact ⟨.ret, σ', E1, ρ', rfl, ⟨hi, hs, hE1⟩, hr, hq⟩
  | cond c x y ih1 ih2 =>
    intro code R qq K σ r E ρ a w hg hc hN hmn hE h hqq k
    obtain ⟨cx, cy, rfl, h1, h2⟩ := compC_cond hc
    simp only [evD] at k
    split at k
    · rename_i b hb
      have hv := aev_rel h c
      rw [aev_st, hb] at hv
      have hv' : a.eval c = .bool b := hv
      refine wp_cond hv' ?_
      cases b with
      | true =>
        rw [cond_true, fixO_self hb] at k
        exact ih1 hg.1 h1 hN hmn hE h hqq k
      | false =>
        rw [cond_false, fixO_self hb] at k
        exact ih2 hg.2 h2 hN hmn hE h hqq k
    · rename_i hb
      have hv := aev_rel h c
      rw [aev_st, hb] at hv
      obtain ⟨b, hv'⟩ : ∃ b : Bool, a.eval c = .bool b := hv
      obtain ⟨k1, k2⟩ := both_some hqq k
      refine wp_cond hv' ?_
      cases b with
      | true => exact ih1 hg.1 h1 hN hmn hE h hqq k1
      | false => exact ih2 hg.2 h2 hN hmn hE h hqq k2
    · cases k
  | block id x ih =>
    intro code R qq K σ r E ρ a w hg hc hN hmn hE h hqq k
    obtain ⟨cx, rfl, h1⟩ := compC_block hc
    refine wp_block (wp_mono (ih hg h1 hN hmn hE h hqq k) ?_)
    rintro e a' w' ⟨x, σ', E1, ρ', rfl, hi, hr, hq⟩
    cases x with
    | normal => exact ⟨.normal, σ', E1, ρ', rfl, hi, hr, hq⟩
    | ret => exact ⟨.ret, σ', E1, ρ', rfl, hi, hr, hq⟩
    | exit id' =>
      simp only [nbeq_iff] at hq
      simp only [AX.out, Exit.inBlock]
      by_cases e : id' = id
      · rw [if_pos e]
        simp only [e, decide_true, cond_true] at hq
        exact ⟨.normal, σ', E1, ρ', rfl, hi, hr, hq⟩
      · rw [if_neg e]
        simp only [e, decide_false, cond_false] at hq
        exact ⟨.exit id', σ', E1, ρ', rfl, hi, hr, hq⟩
  | join an x y ih1 ih2 =>
    intro code R qq K σ r E ρ a w hg hc hN hmn hE h hqq k
    obtain ⟨cx, cy, rfl, h1, h2⟩ := compC_seq hc
    simp only [evD, Ann.norm_eq] at k
    have hx : ∃ o, evD fu x (sumQ (denQ an.ty) qq) (fun e σ' => match e with
        | .normal => an.get σ σ' fun s => some (.inl s)
        | e => inrO (K e (σ'.orW σ))) { σ with wr := fun _ => false } = some o ∧ ((∃ e, o = .inl e ∧ evD fu y qq K (an.put σ e) = some r) ∨ o = .inr r) := by
      rcases orK_some k with ⟨e, e1, e2⟩ | e1
      · exact ⟨_, e1, .inl ⟨e, rfl, e2⟩⟩
      · exact ⟨_, e1, .inr rfl⟩
    obtain ⟨o, k1, k2⟩ := hx
    refine wp_seq (wp_mono (ih1 (σ := { σ with wr := fun _ => false }) hg.1 h1 hN hmn hE h (sumQ_sound (denQ_sound _) hqq) k1) ?_)
    rintro e a' w' ⟨ax, σ', E1, ρ', rfl, ⟨hi, hs, hE1⟩, hr, hq⟩
    have same : ∀ l, σ'.wr l = false → σ'.at' l = σ.at' l := fun l hl => (hi.wr l hl).2
    have out : Inv σ (σ'.orW σ) := ⟨hi.N, hi.m, hi.next, fun l hl => by
      have hl' : (σ'.wr l || σ.wr l) = false := hl
      simp only [Bool.or_eq_false_iff] at hl'
      exact ⟨hl'.2, same l hl'.1⟩⟩
    cases ax with
    | normal =>
      obtain ⟨e, ρ2, q1, q2, q3, q4⟩ := join_ok hq hi.N hmn same hE1.no hr
      simp only [Option.some.injEq] at q1
      subst q1
      rcases k2 with ⟨e', e1, e2⟩ | e1
      · simp only [Sum.inl.injEq] at e1
        subst e1
        have hi2 : Inv σ (an.put σ e) := ⟨rfl, rfl, q3, fun l hl => by
          have hl' : (!(an.keepT.any (fun t => Nat.beq (2 * t) l) || an.keepO.any fun k => Nat.beq (2 * k + 1) l) || σ.wr l) = false := hl
          simp only [Bool.or_eq_false_iff, Bool.not_eq_false'] at hl'
          exact ⟨hl'.2, q4 l hl'.1⟩⟩
        refine wp_mono (ih2 (σ := an.put σ e) hg.2 h2 hN (Nat.le_trans hmn q3) hE1 q2 hqq e2) ?_
        rintro e a' w' ⟨x, σ'', E2, ρ'', rfl, ⟨hi', hs', hE2⟩, hr', hq'⟩
        exact ⟨x, σ'', E2, ρ'', rfl, ⟨hi2.trans hi', hs.trans hs', hE2⟩, hr', hq'⟩
      · cases e1
    | exit id =>
      obtain ⟨r', q1, q2⟩ := inrO_some hq
      subst q2
      rcases k2 with ⟨e', e1, e2⟩ | e1
      · cases e1
      · cases e1
        exact ⟨.exit id, σ'.orW σ, E1, ρ', rfl, ⟨out, hs, hE1⟩, hr, q1⟩
    | ret =>
      obtain ⟨r', q1, q2⟩ := inrO_some hq
      subst q2
      rcases k2 with ⟨e', e1, e2⟩ | e1
      · cases e1
      · cases e1
        exact ⟨.ret, σ'.orW σ, E1, ρ', rfl, ⟨out, hs, hE1⟩, hr, q1⟩
  | zone cl an x y ih1 ih2 =>
    intro code R qq K σ r E ρ a w hg hc hN hmn hE h hqq k
    obtain ⟨cx, cy, rfl, h1, h2⟩ := compC_seq hc
    obtain rfl : z = true := hg.1
    simp only [evD, Ann.norm_eq] at k
    have hx : ∃ o, evD fu x (sumQ (denQ an.ty) qq) (fun e σ' => match e with
        | .normal => an.get σ σ' fun s => some (.inl s)
        | e => inrO (K e (σ'.orW σ))) { σ with wr := fun _ => false } = some o ∧ ((∃ e, o = .inl e ∧ evD fu y qq K ((an.put σ e).aged cl) = some r) ∨ o = .inr r) := by
      rcases orK_some k with ⟨e, e1, e2⟩ | e1
      · exact ⟨_, e1, .inl ⟨e, rfl, e2⟩⟩
      · exact ⟨_, e1, .inr rfl⟩
    obtain ⟨o, k1, k2⟩ := hx
    refine wp_seq (wp_mono (ih1 (σ := { σ with wr := fun _ => false }) hg.2.1 h1 hN hmn hE h (sumQ_sound (denQ_sound _) hqq) k1) ?_)
    rintro e a' w' ⟨ax, σ', E1, ρ', rfl, ⟨hi, hs, hE1⟩, hr, hq⟩
    have same : ∀ l, σ'.wr l = false → σ'.at' l = σ.at' l := fun l hl => (hi.wr l hl).2
    have out : Inv σ (σ'.orW σ) := ⟨hi.N, hi.m, hi.next, fun l hl => by
      have hl' : (σ'.wr l || σ.wr l) = false := hl
      simp only [Bool.or_eq_false_iff] at hl'
      exact ⟨hl'.2, same l hl'.1⟩⟩
    cases ax with
    | normal =>
      obtain ⟨e, ρ2, q1, q2, q3, q4⟩ := join_ok hq hi.N hmn same hE1.no hr
      simp only [Option.some.injEq] at q1
      subst q1
      rcases k2 with ⟨e', e1, e2⟩ | e1
      · simp only [Sum.inl.injEq] at e1
        subst e1
        have hi2 : Inv σ ((an.put σ e).aged cl) := ⟨rfl, rfl, q3, fun l hl => nomatch hl⟩
        obtain ⟨E2, ρ3, s1, s2, s3⟩ := aged_ok cl hE1 q2
        refine wp_mono (ih2 (σ := (an.put σ e).aged cl) hg.2.2 h2 hN (Nat.le_trans hmn q3) s2 s3 hqq e2) ?_
        rintro e a' w' ⟨x, σ'', E3, ρ'', rfl, ⟨hi', hs', hE3⟩, hr', hq'⟩
        exact ⟨x, σ'', E3, ρ'', rfl, ⟨hi2.trans hi', hs.trans (s1.trans hs'), hE3⟩, hr', hq'⟩
      · cases e1
    | exit id =>
      obtain ⟨r', q1, q2⟩ := inrO_some hq
      subst q2
      rcases k2 with ⟨e', e1, e2⟩ | e1
      · cases e1
      · cases e1
        exact ⟨.exit id, σ'.orW σ, E1, ρ', rfl, ⟨out, hs, hE1⟩, hr, q1⟩
    | ret =>
      obtain ⟨r', q1, q2⟩ := inrO_some hq
      subst q2
      rcases k2 with ⟨e', e1, e2⟩ | e1
      · cases e1
      · cases e1
        exact ⟨.ret, σ'.orW σ, E1, ρ', rfl, ⟨out, hs, hE1⟩, hr, q1⟩
  | loop an x ih =>
    intro code R qq K σ r E ρ a w hg hc hN hmn hE h hqq k
    obtain ⟨cx, rfl, h1⟩ := compC_loop hc
    simp only [evD, Ann.norm_eq] at k
    obtain ⟨s0, ρ0, q1, q2, q3, q4⟩ := join_ok (σ := { σ with wr := fun _ => false }) k rfl hmn (fun l _ => rfl) hE.no h
    generalize hf : (fun s => evD fu x (sumQ (denQ an.ty) qq) (fun e σ' => match e with
        | .normal => an.get σ σ' fun s => some (.inl s)
        | e => inrO (K e (σ'.orW σ))) { an.put σ s with wr := fun l => !(an.keepT.any (fun t => Nat.beq (2 * t) l) || an.keepO.any fun k => Nat.beq (2 * k + 1) l) }) = f at q1
    have key : ∀ n s E0 ρ a w, loopO n f s = some r → StepZ z E E0 → KE σ.m z E0 → Rel E0 ρ (an.put σ s).st a w → σ.next ≤ (an.put σ s).next →
        (∀ l, (an.keepT.any (fun t => Nat.beq (2 * t) l) || an.keepO.any fun k => Nat.beq (2 * k + 1) l) = true → (an.put σ s).at' l = σ.at' l) →
        Code.rounds P cx (fun e a' w' => ∃ x σ' E' ρ', e = AX.out x ∧ (Inv σ σ' ∧ StepZ z E E' ∧ KE σ.m z E') ∧ Rel E' ρ' σ'.st a' w' ∧ K x σ' = some r) n a w := by
      intro n
      induction n with
      | zero => intro s E0 ρ a w hl; cases hl
      | succ n ihn =>
        intro s E0 ρ a w hl hs0 hE0 hr hnx hkp
        rw [rounds_succ]
        simp only [loopO] at hl
        cases hs : f s with
        | none => rw [hs] at hl; cases hl
        | some o =>
          rw [hs] at hl
          rw [← hf] at hs
          refine wp_mono (ih (σ := { an.put σ s with wr := fun l => !(an.keepT.any (fun t => Nat.beq (2 * t) l) || an.keepO.any fun k => Nat.beq (2 * k + 1) l) }) hg h1 hN (Nat.le_trans hmn hnx) hE0 hr (sumQ_sound (denQ_sound _) hqq) hs) ?_
          rintro e a' w' ⟨ax, σ', E1, ρ', rfl, ⟨hi, hs1, hE1⟩, hr', hq⟩
          have same : ∀ l, σ'.wr l = false → σ'.at' l = σ.at' l := fun l hl => by
            obtain ⟨p1, p2⟩ := hi.wr l hl
            have p1' : (!(an.keepT.any (fun t => Nat.beq (2 * t) l) || an.keepO.any fun k => Nat.beq (2 * k + 1) l)) = false := p1
            simp only [Bool.not_eq_false'] at p1'
            exact p2.trans (hkp l p1')
          have out : Inv σ (σ'.orW σ) := ⟨hi.N, hi.m, Nat.le_trans hnx hi.next, fun l hl => by
            have hl' : (σ'.wr l || σ.wr l) = false := hl
            simp only [Bool.or_eq_false_iff] at hl'
            exact ⟨hl'.2, same l hl'.1⟩⟩
          cases ax with
          | normal =>
            obtain ⟨e, ρ2, g1, g2, g3, g4⟩ := join_ok hq hi.N hmn same hE1.no hr'
            simp only [Option.some.injEq] at g1
            subst g1
            exact ihn e E1 ρ2 a' w' hl (hs0.trans hs1) hE1 g2 g3 g4
          | exit id =>
            obtain ⟨r', g1, g2⟩ := inrO_some hq
            subst g2
            simp only [Option.some.injEq] at hl
            subst hl
            exact ⟨.exit id, σ'.orW σ, E1, ρ', rfl, ⟨out, hs0.trans hs1, hE1⟩, hr', g1⟩
          | ret =>
            obtain ⟨r', g1, g2⟩ := inrO_some hq
            subst g2
            simp only [Option.some.injEq] at hl
            subst hl
            exact ⟨.ret, σ'.orW σ, E1, ρ', rfl, ⟨out, hs0.trans hs1, hE1⟩, hr', g1⟩
    exact wp_loop_rounds fu (key fu s0 E ρ0 a w q1 (StepZ.refl z E) hE q2 q3 q4)
end
end Go.Proofs.Ytlmnhbobgfpanaa
