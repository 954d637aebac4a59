/-
  That the program's operations do what the states say: maps whose keys are numbers, texts or Bools. General; nothing of this program.
-/
import Derived.Test.YtlmnhbobgfpanaaTrJb
namespace Go.Proofs.Ytlmnhbobgfpanaa
open Go.RowKit

section
variable {P : Program} {E : Env} {ρ : Pl} {σ : St} {a : Act} {w w' : World} {o : Oper} {fr : Nat} {K : Act → World → Prop} {Q : Exit → Act → World → Prop}

theorem zOfM_some {t : TypeId} {z : Bool × Nat × List Value} (h : zOfM P t = some z) : ∃ i v, P.info? t = some i ∧ i.zero = some v ∧ ∀ (ok : Sees) (w : World), (mapT z.1 z.2.1 (zeroK z.2.2)).rel ok w v := by
  unfold zOfM at h
  split at h <;> try (simp at h; done)
  rename_i i h1
  split at h <;> try (simp at h; done)
  · rename_i cs h2
    split at h <;> simp only [Option.some.injEq, reduceCtorEq] at h
    rename_i h3
    subst h
    refine ⟨i, _, h1, h2, fun ok w => ⟨cs, rfl, rfl, fun j hj => ?_⟩⟩
    have e : cs.toList.getD j undef = cs.getD j undef := getD_toList cs j
    refine ⟨?_, ?_⟩
    · have := (Array.all_eq_true_iff_forall_mem.1 h3.2.1) (cs.getD j undef) (by rw [Array.getD_eq_getD_getElem?, Array.getElem?_eq_getElem hj]; exact Array.getElem_mem _)
      exact this
    · show _ = cs.toList.getD j undef
      rw [e]
  · rename_i v _ h2
    split at h <;> simp only [Option.some.injEq, reduceCtorEq] at h
    subst h
    exact ⟨i, v, h1, h2, fun ok w => rfl⟩
theorem mapOf_some {t : TypeId} {z : KK × Bool × Nat × List Value} (h : mapOf P t = some z) : ∃ k e, P.underlying t = some (.map k e) ∧ zOfM P e = some z.2 ∧ P.underlying k = some z.1.desc := by
  unfold mapOf at h
  split at h <;> try (simp at h; done)
  rename_i k e h1
  split at h <;> try (simp at h; done)
  rename_i z' h2
  split at h <;> simp only [Option.some.injEq, reduceCtorEq] at h <;> subst h
  all_goals exact ⟨k, e, h1, h2, by assumption⟩
theorem keyEq_is {kc : KK} {u v : Value} (hu : IsKk kc u) (hv : IsKk kc v) : Instr.sameNow kc.desc u v = some (keyEq u v) ∧ (keyEq u v = true ↔ u = v) := by
  obtain ⟨r, h1, h2⟩ := MapKept.sameNow_of_keys hu hv
  have e : Instr.sameNow kc.desc u v = some (keyEq u v) := by
    unfold IsKk at hu hv
    cases kc <;> cases u <;> cases v <;> simp_all [MapKept.IsKey, KK.desc, Instr.sameNow, keyEq]
  rw [e] at h1
  cases h1
  exact ⟨e, h2⟩
theorem findNow_is {kc : KK} {kv : Value} (hk : IsKk kc kv) (key : Nat → Value) : ∀ (l : List MapEntry) (i : Nat), (∀ j e, l[j]? = some e → e.key = key (i + j)) → (∀ j, j < l.length → IsKk kc (key (i + j))) →
    (mfind kv key l.length i = none ∧ Instr.findNow kc.desc kv l i = some none) ∨ ∃ j e, mfind kv key l.length i = some (i + j) ∧ l[j]? = some e ∧ e.key = kv ∧ Instr.findNow kc.desc kv l i = some (some (i + j, e.val))
  | [], i, _, _ => .inl ⟨rfl, rfl⟩
  | e :: es, i, h, g => by
    have e0 := h 0 e rfl
    have g0 := g 0 (by simp)
    rw [Nat.add_zero] at e0 g0
    obtain ⟨k1, k2⟩ := keyEq_is hk g0
    rw [← e0] at k1 k2
    simp only [List.length_cons, mfind, ← e0]
    cases hb : keyEq kv e.key with
    | true =>
      refine .inr ⟨0, e, rfl, rfl, (k2.1 hb).symm, ?_⟩
      rw [hb] at k1
      simp [Instr.findNow, k1]
    | false =>
      rw [hb] at k1
      simp only [cond_false]
      rcases findNow_is hk key es (i + 1) (fun j e' hj => by rw [h (j + 1) e' (by simpa using hj)]; congr 1; omega) (fun j hj => by have := g (j + 1) (by simpa using hj); rwa [show i + 1 + j = i + (j + 1) by omega]) with ⟨h1, h2⟩ | ⟨j, e', h1, h2, h3, h4⟩
      · exact .inl ⟨h1, by simp [Instr.findNow, k1, h2]⟩
      · refine .inr ⟨j + 1, e', by rw [h1]; congr 1; omega, by simpa using h2, h3, ?_⟩
        simp only [Instr.findNow, k1]
        rw [h4, show i + 1 + j = i + (j + 1) by omega]
theorem atKey_rel {b : Sees} {O : Ow} {agg : Bool} {sz : Nat} {f : Nat → T} {x : Value} (h : (mapT agg sz f).rel (okb b ρ O) w x) : (atKey agg sz f).rel b ρ O w x := by
  cases agg with
  | true => exact h
  | false => exact h
theorem lookV_rel {b : Sees} {O : Ow} {cok ok : Bool} {v : V} {x : Value} (h : v.rel b ρ O w x) : (lookV cok v ok).rel b ρ O w (if cok = true then .tuple #[x, .bool ok] else x) := by
  cases cok with
  | false => exact h
  | true =>
    refine ⟨#[x, .bool ok], rfl, rfl, fun j hj => ?_⟩
    match j, hj with
    | 0, _ => exact h
    | 1, _ => exact (rfl : _ = _)

theorem run_look {t : TypeId} {z : KK × Bool × Nat × List Value} (hz : mapOf P t = some z) {g n : Nat} {es : Array MapEntry} (hb : w.heap[g]? = some (.map es n)) {key : Nat → Value} {kv : Value} (hk : IsKk z.1 kv)
    (h1 : ∀ i e, es[i]? = some e → e.key = key i) (h2 : ∀ j, j < es.size → IsKk z.1 (key j)) (ok : Bool) :
    (mfind kv key es.size 0 = none ∧ ∃ v, (Instr.lookup t (.map (some g)) kv ok).run P w = .ok (if ok = true then .tuple #[v, .bool false] else v) w ∧ ∀ (b : Sees), (mapT z.2.1 z.2.2.1 (zeroK z.2.2.2)).rel b w v) ∨
    ∃ j e, mfind kv key es.size 0 = some j ∧ es[j]? = some e ∧ e.key = kv ∧ (Instr.lookup t (.map (some g)) kv ok).run P w = .ok (if ok = true then .tuple #[e.val, .bool true] else e.val) w := by
  obtain ⟨k, e, u1, u2, u3⟩ := mapOf_some hz
  obtain ⟨i, v, v1, v2, v3⟩ := zOfM_some u2
  have hc := MapKept.run_checkKey (w := w) u3 hk es.isEmpty 9999
  rcases findNow_is hk key es.toList 0 (fun j e hj => by rw [Nat.zero_add]; exact h1 j e (by simpa using hj)) (fun j hj => by rw [Nat.zero_add]; exact h2 j (by simpa using hj)) with ⟨f1, f2⟩ | ⟨j, e', f1, f2, f3, f4⟩
  · refine .inl ⟨by simpa using f1, v, ?_, fun b => v3 b w⟩
    have hf := MapKept.run_findKey (w := w) u3 f2
    simp only [Instr.lookup, Sem.run_bind, run_underlying u1, MapKept.run_getObj_map hb, Result.andThen, hc, hf, run_zero v1 v2, Sem.run_pure]
  · rw [Nat.zero_add] at f1 f4
    refine .inr ⟨j, e', by simpa using f1, by simpa using f2, f3, ?_⟩
    have hf := MapKept.run_findKey (w := w) u3 f4
    simp only [Instr.lookup, Sem.run_bind, run_underlying u1, MapKept.run_getObj_map hb, Result.andThen, hc, hf, Sem.run_pure]
theorem mkmap_ok (h : Rel E ρ σ a w) (hf : σ.O fr = none) (hn : fr < σ.next) (hd : ∀ t, o.dst = some t → t < σ.N) (t : TypeId) (r : Option Operand) (z : KK × Bool × Nat × List Value) (ho : o.op = .makeMap t r) (hz : mapOf P t = some z) {rd v ups}
    (k : (asem σ fr (.mkmap t z.2.1 z.2.2.1 r)).wp P σ.O fr fun a b c => a = rd ∧ b = v ∧ c = ups) : Comes' P E (σ.upd o.dst v ups) o a w := by
  obtain ⟨hr, -, rfl, rfl⟩ := k
  obtain ⟨kt, e, u1, -, -⟩ := mapOf_some hz
  have hrun : (execOp a.eval o).run P w = .ok (.value (.map (some w.heap.size))) (w.alloc (.map #[] 0)) := by
    cases r with
    | none => simp [execOp, ho, Instr.makeMap, Result.andThen]
    | some x =>
      obtain ⟨q, m, hx⟩ := hr x rfl
      have hv := aev_rel h x
      rw [hx] at hv
      have hv' : a.eval x = .int q m := hv
      simp [execOp, ho, Instr.makeMap, run_underlying u1, hv', asInt, asIntOf, Result.andThen]
  obtain ⟨hr2, ext⟩ := h.one fr hn (.map z.2.1 z.2.2.1 0 (fun _ => undef) fun _ _ => .val undef) (some w.heap.size) (w.alloc (.map #[] 0)) (fun g hg _ => by
      show (w.heap.push _)[g]? = _
      rw [Array.getElem?_push, if_neg (by omega)])
    (fun g _ e => by cases e; exact ⟨by show _ < (w.heap.push _).size; simp, .inr (Nat.le_refl _)⟩)
    (fun o g k ho => by rw [hf] at ho; cases ho) (fun o ho => by rw [hf] at ho; cases ho)
    (fun _ => ⟨_, #[], rfl, alloc_heap w w rfl _, rfl, fun i e he => by simp at he⟩)
    (by show _ ≤ (w.heap.push _).size; simp) rfl rfl rfl
  exact comes_made hr2 hd hrun ⟨_, _, rfl, setO_self _ _, fun _ => if_pos rfl⟩

theorem map_at (h : Rel E ρ σ a w) {x : Operand} {id : Nat} (hx : aev σ x = .mp id) {agg : Bool} {sz n : Nat} {key : Nat → Value} {f : Nat → Nat → T} (ho : σ.O id = some (.map agg sz n key f)) :
    ∃ g es, a.eval x = .map (some g) ∧ ρ id = some g ∧ w.heap[g]? = some (.map es n) ∧ es.size = n ∧ ∀ i e, es[i]? = some e → e.key = key i ∧ e.born = i ∧ (mapT agg sz (f i)).rel (okb E.b ρ σ.O) w e.val := by
  have hv := aev_rel h x
  rw [hx] at hv
  obtain ⟨g, o', e1, e2, e3⟩ := hv
  rw [ho] at e2; cases e2
  have hg := e3 rfl
  obtain ⟨g', es, p1, p2, p3, p4⟩ := h.ob id _ ho
  rw [hg] at p1; cases p1
  exact ⟨g, es, e1, hg, p2, p3, p4⟩
theorem mlook_ok (h : Rel E ρ σ a w) (hd : ∀ t, o.dst = some t → t < σ.N) (t : TypeId) (x i : Operand) (ok : Bool) (z : KK × Bool × Nat × List Value) (ho : o.op = .lookup t x i ok) (hz : mapOf P t = some z) {rd v ups}
    (k : (asem σ fr (.mlook z.1 ok z.2.1 z.2.2.1 z.2.2.2 x i)).wp P σ.O fr fun a b c => a = rd ∧ b = v ∧ c = ups) : Comes' P E (σ.upd o.dst v ups) o a w := by
  have hi := aev_rel h i
  simp only [asem] at k
  split at k
  · rename_i kv e1
    rw [e1] at hi
    have hi' : a.eval i = kv := hi
    obtain ⟨hk, k⟩ := k
    split at k
    · rename_i id e2
      obtain ⟨ob, hob, k⟩ := k
      cases ob with
      | map agg sz n key f =>
        obtain ⟨⟨rfl, rfl, hks⟩, k⟩ := k
        obtain ⟨g, es, m1, m2, m3, m4, m5⟩ := map_at h e2 hob
        subst m4
        rcases run_look hz m3 hk (fun i e he => (m5 i e he).1) hks ok with ⟨f1, v', r1, r2⟩ | ⟨j, e, f1, f2, f3, r1⟩
        · rw [f1] at k
          obtain ⟨-, rfl, rfl⟩ := k
          have hrun : (execOp a.eval o).run P w = .ok (.value (if ok = true then .tuple #[v', .bool false] else v')) w := by
            simp only [execOp, ho, m1, hi', Sem.run_bind, r1, Result.andThen, Sem.run_pure]
          exact comes_value h hd hrun (lookV_rel (atKey_rel (r2 _)))
        · rw [f1] at k
          obtain ⟨-, rfl, rfl⟩ := k
          have hrun : (execOp a.eval o).run P w = .ok (.value (if ok = true then .tuple #[e.val, .bool true] else e.val)) w := by
            simp only [execOp, ho, m1, hi', Sem.run_bind, r1, Result.andThen, Sem.run_pure]
          exact comes_value h hd hrun (lookV_rel (atKey_rel (m5 j e f2).2.2))
      | _ => exact k.1.elim
    · rename_i e2
      have hx := aev_rel h x
      rw [e2] at hx
      have hx' : a.eval x = .map none := hx
      obtain ⟨kt, e, u1, u2, u3⟩ := mapOf_some hz
      obtain ⟨i', v', v1, v2, v3⟩ := zOfM_some u2
      obtain ⟨-, rfl, rfl⟩ := k
      have hc := MapKept.run_checkKey (w := w) u3 hk true 9999
      have hf : (Instr.findKey kt kv []).run P w = .ok none w := MapKept.run_findKey (w := w) u3 rfl
      have hrun : (execOp a.eval o).run P w = .ok (.value (if ok = true then .tuple #[v', .bool false] else v')) w := by
        simp [execOp, ho, hx', hi', Instr.lookup, run_underlying u1, Result.andThen, hc, hf, run_zero v1 v2]
      exact comes_value h hd hrun (lookV_rel (atKey_rel (v3 _ w)))
    · exact k.1.elim
  · exact k.1.elim
theorem mlen_ok (h : Rel E ρ σ a w) (hd : ∀ t, o.dst = some t → t < σ.N) (x : Operand) (t k e : TypeId) (c : Call) (hcb : c.callee = .builtin .len) (hca : c.args.toList = [x]) (hct : c.argTypes.toList = [t]) (hu : P.underlying t = some (.map k e)) (ho : o.op = .call c) {rd v ups}
    (k : (asem σ fr (.mlen x)).wp P σ.O fr fun a b c => a = rd ∧ b = v ∧ c = ups) : Comes' P E (σ.upd o.dst v ups) o a w := by
  obtain ⟨callee, args, argTypes⟩ := c
  simp only at hcb hca hct
  subst hcb
  obtain ⟨args⟩ := args
  obtain ⟨argTypes⟩ := argTypes
  simp only at hca hct
  subst hca hct
  simp only [asem] at k
  split at k
  · rename_i id e2
    obtain ⟨ob, hob, k⟩ := k
    cases ob with
    | map agg sz n key f =>
      obtain ⟨-, rfl, rfl⟩ := k
      obtain ⟨g, es, m1, m2, m3, m4, m5⟩ := map_at h e2 hob
      have hrun : (execOp a.eval o).run P w = .ok (.value (.int .i64 (n : Int))) w := by
        simp [execOp, ho, resolve, invoke, builtin, Builtin.len_, m1, run_underlying hu, MapKept.run_getObj_map m3, m4, Result.andThen, goInt]
      exact comes_value h hd hrun (v := .im (.val _)) rfl
    | _ => exact k.1.elim
  · rename_i e2
    have hx := aev_rel h x
    rw [e2] at hx
    have hx' : a.eval x = .map none := hx
    obtain ⟨-, rfl, rfl⟩ := k
    have hrun : (execOp a.eval o).run P w = .ok (.value (.int .i64 0)) w := by
      simp [execOp, ho, resolve, invoke, builtin, Builtin.len_, hx', run_underlying hu, Result.andThen, goInt]
    exact comes_value h hd hrun (v := .im (.val _)) rfl
  · exact k.1.elim
theorem Rel.mapput (h : Rel E ρ σ a w) {id g : Nat} {agg agg' : Bool} {sz sz' n n' : Nat} {key key' : Nat → Value} {f f' : Nat → Nat → T} {es es' : Array MapEntry} (ho : σ.O id = some (.map agg sz n key f)) (hg : ρ id = some g) (hb : w.heap[g]? = some (.map es n))
    (hs : es'.size = n') (he : ∀ i e, es'[i]? = some e → e.key = key' i ∧ e.born = i ∧ (mapT agg' sz' (f' i)).rel (okb E.b ρ σ.O) w e.val) :
    Rel E (pset ρ id (some g)) (σ.setO id (.map agg' sz' n' key' f')) a { w with heap := w.heap.setIfInBounds g (.map es' n') } ∧ Ext ρ σ.O w (pset ρ id (some g)) (σ.setO id (.map agg' sz' n' key' f')).O { w with heap := w.heap.setIfInBounds g (.map es' n') } := by
  have hset := MapKept.heap_set (o' := .map es' n') hb
  have hlt : g < w.heap.size := (Array.getElem?_eq_some_iff.1 hb).1
  refine h.one id (by
      rcases Nat.lt_or_ge id σ.next with hl | hl
      · exact hl
      · rw [h.nx id hl] at ho; cases ho) _ (some g) _ (fun g' hg' hn => hset.2 g' (fun e => hn _ ho rfl (by rw [hg, e])))
    (fun g' _ e => by cases e; exact ⟨by simpa using hlt, .inl ⟨_, ho, rfl, hg⟩⟩)
    (fun o g k ho' _ _ hk => by rw [ho] at ho'; cases ho'; exact absurd hk (Nat.not_lt_zero _))
    (fun o ho' => by
      rw [ho] at ho'; cases ho'
      refine ⟨Nat.le_refl _, fun _ => ⟨hg.symm, trivial, fun g2 cs2 e5 _ hg2 hh => ?_⟩⟩
      rw [hg] at hg2; cases hg2
      rw [hb] at hh; cases hh)
    (fun ext => ⟨g, es', rfl, hset.1, hs, fun i e hi => ⟨(he i e hi).1, (he i e hi).2.1, T.rel_mono ext.okb (he i e hi).2.2⟩⟩)
    (by simp) rfl rfl rfl
theorem sub_cells {b : Sees} {O : Ow} {v : V} {u : Value} {n : Nat} {f : Nat → V} (h : V.rel b ρ O w v u) (hs : v.sub = some (n, f)) : ∃ cs : Array Value, u = .agg cs ∧ cs.size = n ∧ ∀ j, j < n → (cs.getD j undef).oneCell' = true ∧ (f j).rel b ρ O w (cs.getD j undef) := by
  unfold V.sub at hs
  split at hs <;> simp only [Option.some.injEq, Prod.mk.injEq, reduceCtorEq] at hs
  · obtain ⟨rfl, rfl⟩ := hs
    exact h
  · obtain ⟨rfl, rfl⟩ := hs
    exact h
theorem put_rel (h : Rel E ρ σ a w) {us : List (Nat × Ob)} (hu : Frozen σ.O us) (ext : Ext ρ σ.O w ρ (lo (us ++ σ.ob)) w) {v : V} {x : Value} (hx : v.rel E.b ρ σ.O w x) {agg : Bool} {sz : Nat} (hsz : agg = false → sz = 1) (hn : v.ncell = sz) (ha : isAggV v = agg)
    {ts : List T} (hl : ts.length = (cellsOf sz v).length) (hf : ∀ (i : Nat) (u : V) (t : T), (cellsOf sz v)[i]? = some u → ts[i]? = some t → Frz σ.O us u t) :
    (mapT agg sz fun j => ts.getD j (.val undef)).rel (okb E.b ρ (lo (us ++ σ.ob))) w x := by
  have hlen : ts.length = sz := by rw [hl]; simp [cellsOf]
  have hcell : ∀ j, j < sz → (cellsOf sz v)[j]? = some (v.cell j) := fun j hj => by simp [cellsOf, hj]
  have hts : ∀ j, j < sz → ts[j]? = some (ts.getD j (.val undef)) := fun j hj => by
    rw [List.getD_eq_getElem?_getD, List.getElem?_eq_getElem (by omega)]; rfl
  cases agg with
  | false =>
    obtain rfl := hsz rfl
    have hc : v.cell 0 = v := by
      unfold isAggV at ha
      cases v with
      | agg n f => cases ha
      | im t => cases t with
        | agg n f => cases ha
        | _ => rfl
      | _ => rfl
    have := hf 0 _ _ (hcell 0 Nat.one_pos) (hts 0 Nat.one_pos)
    rw [hc] at this
    exact this.rel h hu ext hx
  | true =>
    unfold isAggV at ha
    cases hs : v.sub with
    | none => rw [hs] at ha; cases ha
    | some p =>
      obtain ⟨n, f⟩ := p
      obtain ⟨cs, rfl, hcs, hrel⟩ := sub_cells hx hs
      have hn' : n = sz := by
        cases v with
        | agg m g => cases hs; exact hn
        | im t => cases t with
          | agg m g => cases hs; exact hn
          | _ => cases hs
        | _ => cases hs
      subst hn'
      have hc : ∀ j, v.cell j = f j := by
        intro j
        cases v with
        | agg m g => cases hs; rfl
        | im t => cases t with
          | agg m g => cases hs; rfl
          | _ => cases hs
        | _ => cases hs
      refine ⟨cs, rfl, hcs, fun j hj => ⟨(hrel j hj).1, ?_⟩⟩
      have := hf j _ _ (hcell j hj) (hts j hj)
      rw [hc j] at this
      exact this.rel h hu ext (hrel j hj).2
theorem zOfM_sz {t : TypeId} {z : Bool × Nat × List Value} (h : zOfM P t = some z) : z.1 = false → z.2.1 = 1 := by
  unfold zOfM at h
  split at h <;> try (simp at h; done)
  split at h <;> try (simp at h; done)
  · split at h <;> simp only [Option.some.injEq, reduceCtorEq] at h
    subst h
    intro e; cases e
  · split at h <;> simp only [Option.some.injEq, reduceCtorEq] at h
    subst h
    intro _; rfl
theorem modify_at {es : Array MapEntry} {j i : Nat} {f : MapEntry → MapEntry} {e : MapEntry} (h : (es.modify j f)[i]? = some e) : ∃ e0, es[i]? = some e0 ∧ e = if i = j then f e0 else e0 := by
  rw [Array.getElem?_modify] at h
  by_cases hij : j = i
  · rw [if_pos hij] at h
    cases he : es[i]? with
    | none => rw [he] at h; cases h
    | some e0 =>
      rw [he] at h
      cases h
      exact ⟨e0, rfl, by rw [if_pos hij.symm]⟩
  · rw [if_neg hij] at h
    exact ⟨e, h, by rw [if_neg (Ne.symm hij)]⟩
theorem push_at {es : Array MapEntry} {i : Nat} {e e1 : MapEntry} (h : (es.push e1)[i]? = some e) : (i < es.size ∧ es[i]? = some e) ∨ (i = es.size ∧ e = e1) := by
  rw [Array.getElem?_push] at h
  by_cases hi : i = es.size
  · rw [if_pos hi] at h
    cases h
    exact .inr ⟨hi, rfl⟩
  · rw [if_neg hi] at h
    exact .inl ⟨(Array.getElem?_eq_some_iff.1 h).1, h⟩
theorem mset_ok (h : Rel E ρ σ a w) (hd : ∀ t, o.dst = some t → t < σ.N) (t : TypeId) (m i x : Operand) (z : KK × Bool × Nat × List Value) (ho : o.op = .mapUpdate t m i x ∨ o.op = .insert t m i x) (hz : mapOf P t = some z) {rd v ups}
    (k : (asem σ fr (.mset z.1 z.2.1 z.2.2.1 m i x)).wp P σ.O fr fun a b c => a = rd ∧ b = v ∧ c = ups) : Comes' P E (σ.upd o.dst v ups) o a w := by
  have hi := aev_rel h i
  have hx := aev_rel h x
  replace k := wp_drop k
  simp only [asem] at k
  split at k
  · rename_i kv e1
    rw [e1] at hi
    have hi' : a.eval i = kv := hi
    obtain ⟨⟨hk, hn, hag⟩, k⟩ := k
    split at k
    · rename_i id e2
      obtain ⟨ob, hob, k⟩ := k
      cases ob with
      | map agg sz n key f =>
        obtain ⟨⟨rfl, rfl, hks⟩, k⟩ := k
        obtain ⟨ts, us, g1, g2, g3, g4⟩ := frzL_wp (R := fun b c => b = v ∧ c = ups) k
        obtain ⟨hne, rfl, rfl⟩ := g4
        have hne' : id ∉ us.map (·.1) := fun hm => by
          obtain ⟨p, hp, rfl⟩ := List.mem_map.1 hm
          have := List.all_eq_true.1 hne p hp
          simp at this
        obtain ⟨hf, fext⟩ := h.freeze g3
        have hob' : ({ σ with ob := us ++ σ.ob } : St).O id = some (.map z.2.1 z.2.2.1 n key f) := by
          rcases lo_frozen g3 σ.ob id with ⟨g, _⟩ | ⟨_, g⟩
          · exact absurd g hne'
          · exact g.trans hob
        obtain ⟨kt, e, u1, u2, u3⟩ := mapOf_some hz
        have hput := put_rel h g3 fext hx (zOfM_sz u2) hn hag g1 g2
        obtain ⟨g, es, m1, m2, m3, m4, m5⟩ := map_at (σ := { σ with ob := us ++ σ.ob }) hf (x := m) e2 hob'
        subst m4
        have hc := MapKept.run_checkKey (w := w) u3 hk false 9999
        rcases findNow_is hk key es.toList 0 (fun j e hj => by rw [Nat.zero_add]; exact (m5 j e (by simpa using hj)).1) (fun j hj => by rw [Nat.zero_add]; exact hks j (by simpa using hj)) with ⟨f1, f2⟩ | ⟨j, e', f1, f2, f3, f4⟩
        · have hf' := MapKept.run_findKey (w := w) u3 f2
          have hrun : (execOp a.eval o).run P w = .ok .skip { w with heap := w.heap.setIfInBounds g (.map (es.push { key := kv, val := a.eval x, born := es.size }) (es.size + 1)) } := by
            rcases ho with ho | ho <;> simp [execOp, ho, Instr.mapUpdate, m1, hi', run_underlying u1, MapKept.run_getObj_map m3, hc, hf', MapKept.run_setObj_map _ m3, Result.andThen]
          obtain ⟨hr2, ext⟩ := hf.mapput (agg' := z.2.1) (sz' := z.2.2.1) (n' := es.size + 1) (key' := fun i' => if i' < es.size then key i' else kv) (f' := fun i' j' => if i' < es.size then f i' j' else ts.getD j' (.val undef)) hob' m2 m3 (es' := es.push { key := kv, val := a.eval x, born := es.size }) (by simp) (fun i' e'' he => by
            rcases push_at he with ⟨h1, h2⟩ | ⟨rfl, rfl⟩
            · obtain ⟨q1, q2, q3⟩ := m5 i' e'' h2
              simp only [h1, if_true]
              exact ⟨q1, q2, q3⟩
            · simp only [Nat.lt_irrefl, if_false]
              refine ⟨?_, ?_, hput⟩ <;> first | trivial | rfl)
          have f1' : mfind kv key es.size 0 = none := by simpa using f1
          rw [f1']
          exact ⟨_, _, _, hrun, .inr ⟨rfl, hr2.putO (d := o.dst) hd (v := .im (.val undef)) rfl⟩⟩
        · rw [Nat.zero_add] at f1 f4
          have hf' := MapKept.run_findKey (w := w) u3 f4
          have hj : es[j]? = some e' := by simpa using f2
          have hst := MapKept.run_keyThatStays (P := P) (w := w) hk
          have hrun : (execOp a.eval o).run P w = .ok .skip { w with heap := w.heap.setIfInBounds g (.map (es.modify j fun e => { e with key := kv, val := a.eval x }) es.size) } := by
            rcases ho with ho | ho <;> simp [execOp, ho, Instr.mapUpdate, m1, hi', run_underlying u1, MapKept.run_getObj_map m3, hc, hf', hj, f3, hst, MapKept.run_setObj_map _ m3, Result.andThen]
          obtain ⟨hr2, ext⟩ := hf.mapput (agg' := z.2.1) (sz' := z.2.2.1) (n' := es.size) (key' := key) (f' := fun i' j' => if i' = j then ts.getD j' (.val undef) else f i' j') hob' m2 m3 (es' := es.modify j fun e => { e with key := kv, val := a.eval x }) (by simp) (fun i' e'' he => by
            obtain ⟨e0, h1, rfl⟩ := modify_at he
            obtain ⟨q1, q2, q3⟩ := m5 i' e0 h1
            by_cases hij : i' = j
            · subst hij
              rw [hj] at h1; cases h1
              simp only [if_true]
              exact ⟨f3 ▸ q1, q2, hput⟩
            · simp only [hij, if_false]
              exact ⟨q1, q2, q3⟩)
          have f1' : mfind kv key es.size 0 = some j := by simpa using f1
          rw [f1']
          exact ⟨_, _, _, hrun, .inr ⟨rfl, hr2.putO (d := o.dst) hd (v := .im (.val undef)) rfl⟩⟩
      | _ => exact k.1.elim
    · exact k.1.elim
  · exact k.1.elim
theorem ment_ok (h : Rel E ρ σ a w) (hd : ∀ t, o.dst = some t → t < σ.N) (t : TypeId) (m i : Operand) (z : KK × Bool × Nat × List Value) (ho : o.op = .mapEntry t m i) (hz : mapOf P t = some z) {rd v ups}
    (k : (asem σ fr (.ment z.1 z.2.1 z.2.2.1 z.2.2.2 m i)).wp P σ.O fr fun a b c => a = rd ∧ b = v ∧ c = ups) : Comes' P E (σ.upd o.dst v ups) o a w := by
  have hi := aev_rel h i
  replace k := wp_drop k
  simp only [asem] at k
  split at k
  · rename_i kv e1
    rw [e1] at hi
    have hi' : a.eval i = kv := hi
    obtain ⟨hk, k⟩ := k
    split at k
    · rename_i id e2
      obtain ⟨ob, hob, k⟩ := k
      cases ob with
      | map agg sz n key f =>
        obtain ⟨⟨rfl, rfl, hks⟩, k⟩ := k
        obtain ⟨kt, e, u1, u2, u3⟩ := mapOf_some hz
        obtain ⟨i', v', v1, v2, v3⟩ := zOfM_some u2
        obtain ⟨g, es, m1, m2, m3, m4, m5⟩ := map_at h e2 hob
        subst m4
        have hc := MapKept.run_checkKey (w := w) u3 hk false 9999
        rcases findNow_is hk key es.toList 0 (fun j e hj => by rw [Nat.zero_add]; exact (m5 j e (by simpa using hj)).1) (fun j hj => by rw [Nat.zero_add]; exact hks j (by simpa using hj)) with ⟨f1, f2⟩ | ⟨j, e', f1, f2, f3, f4⟩
        · have f1' : mfind kv key es.size 0 = none := by simpa using f1
          rw [f1'] at k
          obtain ⟨rfl, rfl⟩ := k
          have hf' := MapKept.run_findKey (w := w) u3 f2
          have hrun : (execOp a.eval o).run P w = .ok (.value (.tuple #[v', .int .i64 (es.size : Int)])) { w with heap := w.heap.setIfInBounds g (.map (es.push { key := kv, val := v', born := es.size }) (es.size + 1)) } := by
            simp [execOp, ho, Instr.mapEntry, m1, hi', run_underlying u1, MapKept.run_getObj_map m3, hc, hf', run_zero v1 v2, MapKept.run_setObj_map _ m3, Result.andThen, goInt]
          obtain ⟨hr2, ext⟩ := h.mapput (agg' := z.2.1) (sz' := z.2.2.1) (n' := es.size + 1) (key' := fun i' => if i' < es.size then key i' else kv) (f' := fun i' j' => if i' < es.size then f i' j' else zeroK z.2.2.2 j') hob m2 m3 (es' := es.push { key := kv, val := v', born := es.size }) (by simp) (fun i' e'' he => by
            rcases push_at he with ⟨h1, h2⟩ | ⟨rfl, rfl⟩
            · obtain ⟨q1, q2, q3⟩ := m5 i' e'' h2
              simp only [h1, if_true]
              exact ⟨q1, q2, q3⟩
            · simp only [Nat.lt_irrefl, if_false]
              refine ⟨?_, ?_, v3 _ w⟩ <;> first | trivial | rfl)
          refine comes_made hr2 hd hrun ⟨_, rfl, rfl, fun q hq => ?_⟩
          match q, hq with
          | 0, _ => exact atKey_rel (v3 _ _)
          | 1, _ => exact (rfl : _ = _)
        · rw [Nat.zero_add] at f1 f4
          have f1' : mfind kv key es.size 0 = some j := by simpa using f1
          rw [f1'] at k
          obtain ⟨rfl, rfl⟩ := k
          have hf' := MapKept.run_findKey (w := w) u3 f4
          have hj : es[j]? = some e' := by simpa using f2
          have hst := MapKept.run_keyThatStays (P := P) (w := w) hk
          obtain ⟨b1, b2, b3⟩ := m5 j e' hj
          have hrun : (execOp a.eval o).run P w = .ok (.value (.tuple #[e'.val, .int .i64 (j : Int)])) { w with heap := w.heap.setIfInBounds g (.map (es.modify j fun e => { e with key := kv }) es.size) } := by
            simp [execOp, ho, Instr.mapEntry, m1, hi', run_underlying u1, MapKept.run_getObj_map m3, hc, hf', hj, f3, hst, b2, MapKept.run_setObj_map _ m3, Result.andThen, goInt]
          obtain ⟨hr2, ext⟩ := h.mapput (agg' := z.2.1) (sz' := z.2.2.1) (n' := es.size) (key' := key) (f' := f) hob m2 m3 (es' := es.modify j fun e => { e with key := kv }) (by simp) (fun i' e'' he => by
            obtain ⟨e0, h1, rfl⟩ := modify_at he
            obtain ⟨q1, q2, q3⟩ := m5 i' e0 h1
            by_cases hij : i' = j
            · subst hij
              rw [hj] at h1; cases h1
              simp only [if_true]
              exact ⟨f3 ▸ q1, q2, q3⟩
            · simp only [hij, if_false]
              exact ⟨q1, q2, q3⟩)
          refine comes_made hr2 hd hrun ⟨_, rfl, rfl, fun q hq => ?_⟩
          match q, hq with
          | 0, _ => exact V.rel_ext ext (atKey_rel b3)
          | 1, _ => exact (rfl : _ = _)
      | _ => exact k.1.elim
    · exact k.1.elim
  · exact k.1.elim
theorem born_find {es : Array MapEntry} (h : ∀ (i : Nat) (e : MapEntry), es[i]? = some e → e.born = i) {q : Int} (h0 : 0 ≤ q) (hq : q < (es.size : Int)) : es.findIdx? (fun e => (e.born : Int) == q) = some q.toNat := by
  rw [Array.findIdx?_eq_some_iff_getElem]
  have hlt : q.toNat < es.size := by omega
  refine ⟨hlt, ?_, fun j hj => ?_⟩
  · have := h q.toNat es[q.toNat] (Array.getElem?_eq_getElem hlt)
    rw [this]
    simp; omega
  · have hj' : j < es.size := by omega
    have := h j es[j] (Array.getElem?_eq_getElem hj')
    rw [this]
    simp; omega
theorem mest_ok (h : Rel E ρ σ a w) (hd : ∀ t, o.dst = some t → t < σ.N) (t : TypeId) (m s x : Operand) (z : KK × Bool × Nat × List Value) (ho : o.op = .entryStore t m s x) (hz : mapOf P t = some z) {rd v ups}
    (k : (asem σ fr (.mest z.2.1 z.2.2.1 m s x)).wp P σ.O fr fun a b c => a = rd ∧ b = v ∧ c = ups) : Comes' P E (σ.upd o.dst v ups) o a w := by
  have hi := aev_rel h s
  have hx := aev_rel h x
  replace k := wp_drop k
  simp only [asem] at k
  split at k
  · rename_i kk q e1
    rw [e1] at hi
    have hi' : a.eval s = .int kk q := hi
    obtain ⟨⟨hn, hag⟩, k⟩ := k
    split at k
    · rename_i id e2
      obtain ⟨ob, hob, k⟩ := k
      cases ob with
      | map agg sz n key f =>
        obtain ⟨⟨rfl, rfl, hq0, hqn⟩, k⟩ := k
        obtain ⟨ts, us, g1, g2, g3, g4⟩ := frzL_wp (R := fun b c => b = v ∧ c = ups) k
        obtain ⟨hne, rfl, rfl⟩ := g4
        have hne' : id ∉ us.map (·.1) := fun hm => by
          obtain ⟨p, hp, rfl⟩ := List.mem_map.1 hm
          have := List.all_eq_true.1 hne p hp
          simp at this
        obtain ⟨hf, fext⟩ := h.freeze g3
        have hob' : ({ σ with ob := us ++ σ.ob } : St).O id = some (.map z.2.1 z.2.2.1 n key f) := by
          rcases lo_frozen g3 σ.ob id with ⟨g, _⟩ | ⟨_, g⟩
          · exact absurd g hne'
          · exact g.trans hob
        obtain ⟨kt, e, u1, u2, u3⟩ := mapOf_some hz
        have hput := put_rel h g3 fext hx (zOfM_sz u2) hn hag g1 g2
        obtain ⟨g, es, m1, m2, m3, m4, m5⟩ := map_at (σ := { σ with ob := us ++ σ.ob }) hf (x := m) e2 hob'
        subst m4
        have hfi := born_find (fun i e he => (m5 i e he).2.1) hq0 hqn
        have hrun : (execOp a.eval o).run P w = .ok .skip { w with heap := w.heap.setIfInBounds g (.map (es.modify q.toNat fun e => { e with val := a.eval x }) es.size) } := by
          simp [execOp, ho, Instr.entryStore, m1, hi', asInt, asIntOf, MapKept.run_getObj_map m3, hfi, MapKept.run_setObj_map _ m3, Result.andThen]
        obtain ⟨hr2, ext⟩ := hf.mapput (agg' := z.2.1) (sz' := z.2.2.1) (n' := es.size) (key' := key) (f' := fun i' j' => if i' = q.toNat then ts.getD j' (.val undef) else f i' j') hob' m2 m3 (es' := es.modify q.toNat fun e => { e with val := a.eval x }) (by simp) (fun i' e'' he => by
          obtain ⟨e0, h1, rfl⟩ := modify_at he
          obtain ⟨q1, q2, q3⟩ := m5 i' e0 h1
          by_cases hij : i' = q.toNat
          · subst hij
            simp only [if_true]
            exact ⟨q1, q2, hput⟩
          · simp only [hij, if_false]
            exact ⟨q1, q2, q3⟩)
        exact ⟨_, _, _, hrun, .inr ⟨rfl, hr2.putO (d := o.dst) hd (v := .im (.val undef)) rfl⟩⟩
      | _ => exact k.1.elim
    · exact k.1.elim
  · exact k.1.elim
end
end Go.Proofs.Ytlmnhbobgfpanaa
