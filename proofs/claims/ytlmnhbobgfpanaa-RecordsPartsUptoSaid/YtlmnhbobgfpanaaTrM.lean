/-
  That the program's operations do what the states say (10): all of them.
-/
import Derived.Test.YtlmnhbobgfpanaaTrL
import Derived.Test.YtlmnhbobgfpanaaTrJb
import Derived.Test.YtlmnhbobgfpanaaTrMp
import Derived.Test.YtlmnhbobgfpanaaTrPo
namespace Go.Proofs.Ytlmnhbobgfpanaa
open Go.RowKit

section
variable {P : Program} {E : Env} {ρ ρ' ρc : Pl} {O O' Oc : Ow} {σ : St} {a : Act} {w w' : World} {o : Oper} {fr : Nat} {K : Act → World → Prop} {Q : Exit → Act → World → Prop} {b b' : Sees} {r : Nat → Nat}

theorem callFunc_run {f : FuncId} (he : Enters P f) (vs : Array Value) (w : World) : (callFunc f vs).run P w = .ok (.enter f vs) w := by
  obtain ⟨fn, h1, h2, h3⟩ := he
  have h2' : ¬ fn.name = "runtime.NumGoroutine" := by simpa using h2
  have h3' : ¬ fn.body = none := by intro e; rw [e] at h3; simp at h3
  simp [callFunc, h1, h2', h3', Result.andThen]

theorem enter_wp (h : Rel E ρ σ a w) (hf : ∀ j, j < 16 → σ.O (fr + j) = none ∧ fr + j < σ.next) (hd : ∀ t, o.dst = some t → t < σ.N) {f : FuncId} {evs : List V} {rd : List Nat} {v : V} {ups : List (Nat × Ob)}
    (k : (AM.call f evs).wp P σ.O fr fun a b c => a = rd ∧ b = v ∧ c = ups) (vs : Array Value) (hvs : vs.size = evs.length) (hrel : ∀ (j : Nat) (e : V), evs[j]? = some e → e.rel E.b ρ σ.O w (vs.getD j undef))
    (hrun : (execOp a.eval o).run P w = .ok (.enter f vs) w) (hK : ∀ ρ' a' w', Rel E ρ' (σ.upd o.dst v ups) a' w' → K a' w') : o.wp P a w K Q := by
  obtain ⟨c, ⟨O2, p1, p2, hc⟩, -, rfl, rfl⟩ := k
  have hups : c.ups O2 fr = c.ups σ.O fr := by
    unfold CallInfo.ups
    congr 1
    split
    · rfl
    · exact List.map_congr_left fun id hid => by rw [p2 id (hc.vw id hid).1]
  -- the state as the callee is told of it
  let σ2 : St := { σ with ob := (c.ids.filterMap fun id => (O2 id).map fun o => (id, o)) ++ σ.ob }
  have hO2 : ∀ id, σ2.O id = O2 id := fun id => by
    show Go.Proofs.Ytlmnhbobgfpanaa.lo ((c.ids.filterMap fun id => (O2 id).map fun o => (id, o)) ++ σ.ob) id = O2 id
    rw [lo_append]
    have key : ∀ l : List Nat, (id ∈ l → lo (l.filterMap fun id => (O2 id).map fun o => (id, o)) id = O2 id) ∧ (id ∉ l → lo (l.filterMap fun id => (O2 id).map fun o => (id, o)) id = none) := fun l => by
      induction l with
      | nil => exact ⟨(fun h => by cases h), fun _ => rfl⟩
      | cons q l ih =>
        simp only [List.filterMap_cons]
        cases hq : O2 q with
        | none =>
          simp only [Option.map_none]
          refine ⟨fun h => ?_, fun h => ih.2 fun h' => h (List.mem_cons_of_mem _ h')⟩
          rcases List.mem_cons.1 h with rfl | h
          · by_cases h' : id ∈ l
            · exact ih.1 h'
            · rw [ih.2 h', hq]
          · exact ih.1 h
        | some o =>
          simp only [Option.map_some, lo]
          refine ⟨fun h => ?_, fun h => ?_⟩
          · by_cases hqi : q = id
            · rw [if_pos hqi, ← hqi, hq]
            · rw [if_neg hqi]
              rcases List.mem_cons.1 h with h | h
              · exact absurd h.symm hqi
              · exact ih.1 h
          · rw [if_neg fun hqi => h (by rw [hqi]; exact List.mem_cons_self ..)]
            exact ih.2 fun h' => h (List.mem_cons_of_mem _ h')
    by_cases hid : id ∈ c.ids
    · rw [(key _).1 hid]
      cases h2 : O2 id with
      | none =>
        rw [Option.none_or]
        have := p1 id
        rw [h2] at this
        cases h3 : σ.O id with
        | none => exact h3
        | some o => rw [h3] at this; exact this.elim
      | some o => rfl
    · rw [(key _).2 hid, Option.none_or]
      exact (p2 id hid).symm
  have eO : σ2.O = O2 := funext hO2
  have h2 : Rel E ρ σ2 a w := h.less (fun t => VLe.refl _) (fun id => by rw [hO2]; exact p1 id) rfl rfl
  have ex : Ext ρ σ.O w ρ σ2.O w := by
    rw [eO]
    refine ⟨fun g _ ho => ⟨rfl, fun ⟨id, o', q1, q2, q3⟩ => ?_⟩, fun g q _ ho => ⟨rfl, fun ⟨id, o', q1, q2, q3, q4⟩ => ?_⟩, fun id o ho => ?_⟩
    · obtain ⟨o, e1, e2⟩ := (p1 id).to_some q1
      exact ho ⟨id, o, e1, by rw [← e2.facts.2.1]; exact q2, q3⟩
    · obtain ⟨o, e1, e2⟩ := (p1 id).to_some q1
      exact ho ⟨id, o, e1, by rw [← e2.facts.2.1]; exact q2, q3, by rw [← e2.low]; exact q4⟩
    · obtain ⟨o', e1, e2⟩ := (p1 id).of_some ho
      exact ⟨o', e1, by rw [e2.facts.1]; exact Nat.le_refl _, fun _ => ⟨rfl, e2.facts.2.2, fun g cs e _ _ hh => ⟨cs, hh, rfl⟩⟩⟩
  have hf2 : ∀ j, j < 16 → σ2.O (fr + j) = none ∧ fr + j < σ2.next := fun j hj => by
    obtain ⟨q1, q2⟩ := hf j hj
    refine ⟨?_, q2⟩
    have := p1 (fr + j)
    rw [q1] at this
    rw [hO2]
    cases h3 : O2 (fr + j) with
    | none => rfl
    | some o => rw [h3] at this; exact this.elim
  unfold Oper.wp
  rw [hrun]
  refine (call_enter h2 f (by rw [eO]; exact hc) vs hvs (fun j e he => V.rel_ext ex (hrel j e he))).mono ?_
  rintro e w' ⟨ρ', x, rfl, h1, h3, h4, h5, h6, h7, h8, h9, h10, h11⟩
  obtain ⟨ρ'', hr, hv⟩ := call_back h2 hf2 (by rw [eO]; exact hc) h1 h3 h4 h5 h6 h7 h8 h9 h10 h11
  let σ3 : St := { σ2 with ob := c.ups σ2.O fr ++ σ2.ob }
  let σ4 : St := { σ with ob := c.ups σ.O fr ++ σ.ob }
  have e3 : ∀ id, σ3.O id = σ4.O id := fun id => by
    have l1 : σ3.O id = (Go.Proofs.Ytlmnhbobgfpanaa.lo (c.ups σ.O fr) id).or (σ2.O id) := by
      show Go.Proofs.Ytlmnhbobgfpanaa.lo (c.ups σ2.O fr ++ σ2.ob) id = _
      rw [eO, hups, lo_append]
      congr 1
      rw [← eO]; rfl
    have l2 : σ4.O id = (Go.Proofs.Ytlmnhbobgfpanaa.lo (c.ups σ.O fr) id).or (σ.O id) := lo_append _ _ _
    rw [l1, l2]
    by_cases hid : id ∈ c.ids
    · obtain ⟨k, hk, rfl⟩ := List.getElem_of_mem hid
      have u1 := (ups_at hc (fun j hj => by rw [← eO]; exact (hf2 j hj).1) h1 []).1 k (by omega)
      rw [List.append_nil, hups] at u1
      have hrk : rn c.ids fr k = c.ids[k] := by simp only [rn, if_pos hk, List.getD_eq_getElem?_getD, List.getElem?_eq_getElem hk, Option.getD_some]
      rw [hrk] at u1
      have hlt : k < (c.r.os ++ c.r.new).length := by rw [List.length_append, h1, hc.osl]; omega
      rw [u1, lol, List.getElem?_eq_getElem hlt]
      rfl
    · rw [hO2, p2 id hid]
  have eq3 : σ3.O = σ4.O := funext e3
  have hr4 : Rel E ρ'' σ4 a w' := Rel.less (σ := σ3) hr (fun t => VLe.refl _) (fun id => by rw [e3]; exact PLe.refl _) rfl rfl
  refine hK ρ'' _ w' (hr4.putO (d := o.dst) hd ?_)
  have hv' : V.rel E.b ρ'' σ3.O w' (V.ren (rn c.ids fr) c.r.v) x := hv
  rw [eq3] at hv'
  exact hv'

theorem call_ok (h : Rel E ρ σ a w) (hf : ∀ j, j < 16 → σ.O (fr + j) = none ∧ fr + j < σ.next) (hd : ∀ t, o.dst = some t → t < σ.N) (c : Call) (f : FuncId) (hcb : c.callee = .value (.func f)) (ho : o.op = .call c) {rd v ups}
    (k : (asem σ fr (.call f c.args.toList)).wp P σ.O fr fun a b c => a = rd ∧ b = v ∧ c = ups) (hK : ∀ ρ' a' w', Rel E ρ' (σ.upd o.dst v ups) a' w' → K a' w') : o.wp P a w K Q := by
  have he : Enters P f := by obtain ⟨ci, ⟨_, _, _, hc⟩, _⟩ := k; exact hc.fc.1
  refine enter_wp h hf hd k (c.args.map a.eval) (by simp) (fun j e he => ?_) ?_ hK
  · rw [List.getElem?_map] at he
    obtain ⟨x, hx, rfl⟩ := Option.map_eq_some_iff.1 he
    have := aev_rel h x
    have hx' : c.args[j]? = some x := by simpa using hx
    simpa [hx'] using this
  · simp [execOp, ho, resolve, hcb, Deferred.ofValue, Act.eval, invoke, callFunc_run he]

theorem callv_ok (h : Rel E ρ σ a w) (hf : ∀ j, j < 16 → σ.O (fr + j) = none ∧ fr + j < σ.next) (hd : ∀ t, o.dst = some t → t < σ.N) (c : Call) (g : Operand) (hcb : c.callee = .value g) (ho : o.op = .call c) {rd v ups}
    (k : (asem σ fr (.callv g c.args.toList)).wp P σ.O fr fun a b c => a = rd ∧ b = v ∧ c = ups) (hK : ∀ ρ' a' w', Rel E ρ' (σ.upd o.dst v ups) a' w' → K a' w') : o.wp P a w K Q := by
  have hg := aev_rel h g
  simp only [asem] at k
  split at k
  · rename_i fn n fst m cap e
    rw [e] at hg
    obtain ⟨A, D, e1, e2, e3, e4, e5⟩ := hg
    have he : Enters P fn := by obtain ⟨ci, ⟨_, _, _, hc⟩, _⟩ := k; exact hc.fc.1
    refine enter_wp h hf hd k (A ++ c.args.map a.eval ++ D) (by simp [e2, e3]) (fun j ev he => ?_) ?_ hK
    · by_cases h1 : j < n
      · rw [List.getElem?_append_left (by simp; omega), List.getElem?_append_left (by simp; omega), List.getElem?_map, List.getElem?_range h1] at he
        simp only [Option.map_some, Option.some.injEq] at he
        subst he
        have := e4 j h1
        rw [Array.getD_eq_getD_getElem?, Array.getElem?_append_left (by simp; omega), Array.getElem?_append_left (by omega), ← Array.getD_eq_getD_getElem?]
        exact this
      · by_cases h2 : j < n + c.args.size
        · rw [List.getElem?_append_left (by simp; omega), List.getElem?_append_right (by simp; omega)] at he
          simp only [List.length_map, List.length_range, List.getElem?_map] at he
          obtain ⟨x, hx, rfl⟩ := Option.map_eq_some_iff.1 he
          have := aev_rel h x
          have hx' : c.args[j - n]? = some x := by simpa using hx
          rw [Array.getD_eq_getD_getElem?, Array.getElem?_append_left (by simp; omega), Array.getElem?_append_right (by omega), e2, Array.getElem?_map, hx']
          exact this
        · rw [List.getElem?_append_right (by simp; omega)] at he
          simp only [List.length_append, List.length_map, List.length_range, Array.length_toList, List.getElem?_map] at he
          obtain ⟨q, hq, rfl⟩ := Option.map_eq_some_iff.1 he
          obtain ⟨hlt, rfl⟩ := List.getElem?_eq_some_iff.1 hq
          simp only [List.length_range] at hlt
          rw [List.getElem_range]
          have := e5 (j - (n + c.args.size)) hlt
          rw [Array.getD_eq_getD_getElem?, Array.getElem?_append_right (by simp; omega)]
          simp only [Array.size_append, Array.size_map, e2]
          rw [← Array.getD_eq_getD_getElem?]
          exact this
    · simp only [execOp, ho, resolve, hcb, Deferred.ofValue, e1, invoke, callFunc_run he, Result.andThen, Sem.run_bind, Sem.run_pure]
  · exact k.1.elim

theorem op_ok {ao : AOp} (hc : comp P o = some ao) (h : Rel E ρ σ a w) (hf : ∀ j, j < 16 → σ.O (fr + j) = none ∧ fr + j < σ.next) (hd : ∀ t, o.dst = some t → t < σ.N) {rd v ups}
    (k : (asem σ fr ao).wp P σ.O fr fun a b c => a = rd ∧ b = v ∧ c = ups) (hK : ∀ ρ' a' w', Rel E ρ' (σ.upd o.dst v ups) a' w' → K a' w') : o.wp P a w K Q := by
  have hf0 := hf 0 (by omega)
  rw [Nat.add_zero] at hf0
  have hc' := hc
  unfold comp at hc'
  cases hop : o.op with
  | move x => rw [hop] at hc'; cases hc'; exact (mov_ok h hd x (.inl hop) k).wp hK
  | assign x => rw [hop] at hc'; cases hc'; exact (mov_ok h hd x (.inr hop) k).wp hK
  | pick c x y => rw [hop] at hc'; cases hc'; exact (pick_ok h hd c x y hop k).wp hK
  | alloc e =>
    rw [hop] at hc'
    simp only [Option.map_eq_some_iff] at hc'
    obtain ⟨z, _, rfl⟩ := hc'
    exact (alloc_ok h hf0.1 hf0.2 hd _ _ _ hop hc k).wp hK
  | box e x =>
    rw [hop] at hc'
    simp only [Option.map_eq_some_iff] at hc'
    obtain ⟨z, _, rfl⟩ := hc'
    exact (box_ok h hf0.1 hf0.2 hd _ _ _ hop hc k).wp hK
  | build t ps =>
    rw [hop] at hc'
    simp only at hc'
    split at hc' <;> try (simp at hc'; done)
    · split at hc' <;> simp only [Option.map_eq_some_iff, reduceCtorEq] at hc'
      obtain ⟨qs, _, rfl⟩ := hc'
      exact (build_ok h hd _ _ _ _ _ hop hc k).wp hK
    · split at hc' <;> try (simp at hc'; done)
      split at hc' <;> simp only [Option.map_eq_some_iff, reduceCtorEq] at hc'
      obtain ⟨qs, _, rfl⟩ := hc'
      exact (build_ok h hd _ _ _ _ _ hop hc k).wp hK
  | nilCheck x => rw [hop] at hc'; cases hc'; exact (nilc_ok h hd x hop k).wp hK
  | makeMap t r =>
    rw [hop] at hc'
    simp only [Option.map_eq_some_iff] at hc'
    obtain ⟨z, hz, rfl⟩ := hc'
    exact (mkmap_ok h hf0.1 hf0.2 hd _ _ _ hop hz k).wp hK
  | lookup t x i ok =>
    rw [hop] at hc'
    simp only [Option.map_eq_some_iff] at hc'
    obtain ⟨z, hz, rfl⟩ := hc'
    exact (mlook_ok h hd _ _ _ _ _ hop hz k).wp hK
  | mapUpdate t m i x =>
    rw [hop] at hc'
    simp only [Option.map_eq_some_iff] at hc'
    obtain ⟨z, hz, rfl⟩ := hc'
    exact (mset_ok h hd _ _ _ _ _ (.inl hop) hz k).wp hK
  | insert t m i x =>
    rw [hop] at hc'
    simp only [Option.map_eq_some_iff] at hc'
    obtain ⟨z, hz, rfl⟩ := hc'
    exact (mset_ok h hd _ _ _ _ _ (.inr hop) hz k).wp hK
  | mapEntry t m i =>
    rw [hop] at hc'
    simp only [Option.map_eq_some_iff] at hc'
    obtain ⟨z, hz, rfl⟩ := hc'
    exact (ment_ok h hd _ _ _ _ hop hz k).wp hK
  | entryStore t m s x =>
    rw [hop] at hc'
    simp only [Option.map_eq_some_iff] at hc'
    obtain ⟨z, hz, rfl⟩ := hc'
    exact (mest_ok h hd _ _ _ _ _ hop hz k).wp hK
  | index t x i =>
    rw [hop] at hc'
    simp only at hc'
    split at hc' <;> try (simp at hc'; done)
    · rename_i hu
      cases hc'
      exact (sidx_ok h hd _ _ _ hop hu k).wp hK
    · rename_i n e hu
      split at hc' <;> try (simp at hc'; done)
      · rename_i j h1 h2
        split at hc' <;> simp only [Option.some.injEq, reduceCtorEq] at hc'
        rename_i h3
        subst hc'
        exact (aidx_ok h hd _ _ _ _ _ _ hop hu h1 h2 h3 k).wp hK
      · rename_i j h1 h2
        simp only [Option.some.injEq] at hc'
        subst hc'
        exact (aidxA_ok h hd _ _ _ _ _ _ hop hu h1 h2 k).wp hK
  | buildSlice t len ps =>
    rw [hop] at hc'
    simp only at hc'
    split at hc' <;> try (simp at hc'; done)
    split at hc' <;> try (simp at hc'; done)
    split at hc' <;> try (simp at hc'; done)
    split at hc' <;> simp only [Option.some.injEq] at hc' <;> subst hc'
    · exact (cslice_ok h hf0.1 hf0.2 hd _ _ _ _ _ hop hc k).wp hK
    · exact (bslice_ok h hf0.1 hf0.2 hd _ _ _ _ _ _ _ hop hc k).wp hK
  | load t x =>
    rw [hop] at hc'
    simp only at hc'
    split at hc' <;> simp only [Option.some.injEq, reduceCtorEq] at hc' <;> subst hc'
    · exact (load_ok h hd _ _ _ _ hop hc k).wp hK
    · exact (load_ok h hd _ _ _ _ hop hc k).wp hK
  | store t y x =>
    rw [hop] at hc'
    simp only at hc'
    split at hc' <;> try (simp at hc'; done)
    rename_i i hi
    split at hc' <;> simp only [Option.some.injEq, reduceCtorEq] at hc'
    rename_i hz
    subst hc'
    exact (store_ok h hd _ _ _ _ hop hc (by omega) k).wp hK
  | fieldAddr s x q =>
    rw [hop] at hc'
    simp only at hc'
    split at hc' <;> try (simp at hc'; done)
    split at hc' <;> try (simp at hc'; done)
    split at hc' <;> try (simp at hc'; done)
    split at hc' <;> simp only [Option.some.injEq, reduceCtorEq] at hc'
    subst hc'
    exact (faddr_ok h hd _ _ _ _ hop hc k).wp hK
  | indexAddr t x i =>
    rw [hop] at hc'
    simp only at hc'
    split at hc' <;> try (simp at hc'; done)
    · split at hc' <;> try (simp at hc'; done)
      split at hc' <;> simp only [Option.some.injEq, reduceCtorEq] at hc'
      subst hc'
      exact (iaddr_ok h hd _ _ _ _ hop hc k).wp hK
    · rename_i n e hu
      split at hc' <;> try (simp at hc'; done)
      rename_i j h2
      split at hc' <;> simp only [Option.some.injEq, reduceCtorEq] at hc'
      rename_i h3
      subst hc'
      exact (gidx_ok h hd _ _ _ _ _ _ hop hu h2 h3 k).wp hK
  | binOp op t x y t' =>
    rw [hop] at hc'
    simp only at hc'
    split at hc'
    · simp only [Option.some.injEq] at hc'; subst hc'
      exact (beq_ok h hd _ _ _ _ _ _ hop hc k).wp hK
    · simp only [Option.some.injEq] at hc'; subst hc'
      exact (beq_ok h hd _ _ _ _ _ _ hop hc k).wp hK
    all_goals first
      | exact (nilq_ok h hd _ _ _ _ _ false rfl hop hc' k).wp hK
      | exact (nilq_ok h hd _ _ _ _ _ true rfl hop hc' k).wp hK
      | (obtain ⟨ks, e1, rfl⟩ := Option.map_eq_some_iff.1 hc'
         exact (seq_ok h hd _ _ _ _ _ _ _ hop rfl e1 k).wp hK)
      | (simp only [Option.some.injEq] at hc'; subst hc'
         exact (bin_ok h hd _ _ _ _ _ hop k).wp hK)
      | cases hc'
  | unOp op t x =>
    rw [hop] at hc'
    cases op <;> simp only [Option.some.injEq, reduceCtorEq] at hc' <;> subst hc'
    all_goals first
      | exact (not_ok h hd _ _ hop k).wp hK
      | exact (neg_ok h hd _ _ hop k).wp hK
      | exact (com_ok h hd _ _ hop k).wp hK
  | convert s t x =>
    rw [hop] at hc'
    simp only at hc'
    split at hc' <;> try (simp at hc'; done)
    · simp only [Option.some.injEq] at hc'
      subst hc'
      exact (conv_ok h hd _ _ _ _ hop hc k).wp hK
    · split at hc' <;> try (simp at hc'; done)
      split at hc' <;> simp only [Option.some.injEq, reduceCtorEq] at hc'
      subst hc'
      exact (b2s_ok h hd _ _ _ hop hc k).wp hK
    · rename_i hs ht
      split at hc' <;> try (simp at hc'; done)
      rename_i j he hj
      split at hc' <;> simp only [Option.some.injEq, reduceCtorEq] at hc'
      subst hc'
      exact (s2b_ok h hd _ _ _ _ j hop hs ht he k).wp hK
    · rename_i hs _
      split at hc' <;> try (simp at hc'; done)
      rename_i he
      split at hc' <;> simp only [Option.some.injEq, reduceCtorEq] at hc'
      rename_i hst
      subst hc' hst
      exact (b2b_ok h hd _ _ _ hop hs he k).wp hK
  | field t x q =>
    rw [hop] at hc'
    simp only at hc'
    split at hc' <;> try (simp at hc'; done)
    split at hc' <;> try (simp at hc'; done)
    split at hc' <;> simp only [Option.some.injEq, reduceCtorEq] at hc' <;> subst hc'
    · exact (fld_ok h hd _ _ _ _ _ _ hop hc k).wp hK
    · exact (fld_ok h hd _ _ _ _ _ _ hop hc k).wp hK
  | slice t x lo hi mx =>
    rw [hop] at hc'
    cases mx with
    | some m =>
      simp only at hc'
      split at hc' <;> try (simp at hc'; done)
      split at hc' <;> try (simp at hc'; done)
      split at hc' <;> simp only [Option.some.injEq, reduceCtorEq] at hc'
      subst hc'
      exact (slc3_ok h hd _ _ _ _ _ _ hop hc k).wp hK
    | none =>
      simp only at hc'
      split at hc' <;> try (simp at hc'; done)
      · split at hc' <;> try (simp at hc'; done)
        split at hc' <;> simp only [Option.some.injEq, reduceCtorEq] at hc'
        subst hc'
        exact (slc_ok h hd _ _ _ _ _ hop hc k).wp hK
      · simp only [Option.some.injEq] at hc'
        subst hc'
        exact (slc_ok h hd _ _ _ _ _ hop hc k).wp hK
  | makeSlice t l c =>
    rw [hop] at hc'
    simp only at hc'
    split at hc' <;> simp only [Option.map_eq_some_iff, reduceCtorEq] at hc'
    obtain ⟨z, _, rfl⟩ := hc'
    exact (mk_ok h hf0.1 hf0.2 hd _ _ _ _ _ _ _ _ hop hc k).wp hK
  | extract x i => rw [hop] at hc'; cases hc'; exact (ext_ok h hd _ _ hop k).wp hK
  | makeInterface t x =>
    rw [hop] at hc'
    simp only at hc'
    split at hc' <;> simp only [Option.some.injEq, reduceCtorEq] at hc'
    subst hc'
    exact (ifc_ok h hd _ _ hop hc k).wp hK
  | makeFunc fn fi ca =>
    rw [hop] at hc'
    cases fn <;> simp only [Option.some.injEq, reduceCtorEq] at hc'
    subst hc'
    exact (fn_ok h hd _ _ _ hop k).wp hK
  | call c =>
    rw [hop] at hc'
    simp only at hc'
    split at hc' <;> try (simp at hc'; done)
    · rename_i f e
      simp only [Option.some.injEq] at hc'
      subst hc'
      exact call_ok h hf hd c f e hop k hK
    · rename_i g _ e
      simp only [Option.some.injEq] at hc'
      subst hc'
      exact callv_ok h hf hd c g e hop k hK
    · rename_i e
      split at hc' <;> try (simp at hc'; done)
      rename_i ea et
      split at hc' <;> simp only [Option.some.injEq, reduceCtorEq] at hc' <;> subst hc'
      · exact (len_ok h hd _ _ c e hop hc k).wp hK
      · exact (len_ok h hd _ _ c e hop hc k).wp hK
      · rename_i hu
        exact (mlen_ok h hd _ _ _ _ c e ea et hu hop k).wp hK
    · rename_i e
      split at hc' <;> simp only [Option.some.injEq, reduceCtorEq] at hc' <;> subst hc'
      · exact (mm_ok h hd _ _ _ c (.inl ⟨e, rfl⟩) hop hc k).wp hK
      · rename_i ha
        exact (mm3_ok h hd _ _ _ _ c (.inl ⟨e, rfl⟩) ha hop k).wp hK
    · rename_i e
      split at hc' <;> simp only [Option.some.injEq, reduceCtorEq] at hc' <;> subst hc'
      · exact (mm_ok h hd _ _ _ c (.inr ⟨e, rfl⟩) hop hc k).wp hK
      · rename_i ha
        exact (mm3_ok h hd _ _ _ _ c (.inr ⟨e, rfl⟩) ha hop k).wp hK
    · rename_i e
      split at hc' <;> try (simp at hc'; done)
      split at hc' <;> try (simp at hc'; done)
      split at hc' <;> try (simp at hc'; done)
      split at hc' <;> simp only [Option.some.injEq, reduceCtorEq] at hc'
      subst hc'
      exact (copy_ok h hd _ _ _ c e hop hc k).wp hK
    · rename_i e
      split at hc' <;> try (simp at hc'; done)
      rename_i ea et
      split at hc' <;> simp only [Option.some.injEq, reduceCtorEq] at hc' <;> subst hc'
      rename_i hu
      exact (capn_ok h hd _ c _ _ e ea et hu hop k).wp hK
    · rename_i e
      split at hc' <;> try (simp at hc'; done)
      split at hc' <;> try (simp at hc'; done)
      simp only [Option.map_eq_some_iff] at hc'
      obtain ⟨z, _, rfl⟩ := hc'
      exact (clr_ok h hd _ _ _ c e hop hc k).wp hK
    · rename_i e
      split at hc' <;> try (simp at hc'; done)
      split at hc' <;> try (simp at hc'; done)
      split at hc'
      · simp only [Option.map_eq_some_iff] at hc'
        obtain ⟨z, _, rfl⟩ := hc'
        exact (app_ok h hf0.1 hf0.2 hd c _ _ _ _ _ _ e hop hc k).wp hK
      · split at hc'
        · simp only [Option.some.injEq] at hc'
          subst hc'
          exact (apps_ok h hf0.1 hf0.2 hd c _ _ _ e hop hc k).wp hK
        · split at hc'
          · simp only [Option.map_eq_some_iff] at hc'
            obtain ⟨z, hz, rfl⟩ := hc'
            exact (appz_ok h hf0.1 hf0.2 hd c _ _ _ _ _ _ z e (by assumption) (by assumption) (by assumption) (by assumption) hz hop k).wp hK
          · simp at hc'
  | _ => rw [hop] at hc'; simp at hc'
theorem op_ok1 {ao : AOp} (hc : comp1 P o = some ao) (h : Rel E ρ σ a w) (hf : ∀ j, j < 16 → σ.O (fr + j) = none ∧ fr + j < σ.next) (hd : ∀ t, o.dst = some t → t < σ.N) {rd v ups}
    (k : (asem σ fr ao).wp P σ.O fr fun a b c => a = rd ∧ b = v ∧ c = ups) (hK : ∀ ρ' a' w', Rel E ρ' (σ.upd o.dst v ups) a' w' → K a' w') : o.wp P a w K Q := by
  unfold comp1 at hc
  cases h1 : comp P o with
  | some ao' =>
    rw [h1] at hc
    cases hc
    exact op_ok h1 h hf hd k hK
  | none =>
    rw [h1] at hc
    cases hc
    exact k.1.elim
end
end Go.Proofs.Ytlmnhbobgfpanaa
