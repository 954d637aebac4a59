/-
  That the program's operations do what the states say (6): literals, makes, cuts.
-/
import Derived.Test.YtlmnhbobgfpanaaTrH
import Derived.IntWalk
namespace Go.Proofs.Ytlmnhbobgfpanaa
open Go.RowKit

section
variable {P : Program} {E : Env} {ρ : Pl} {σ : St} {a : Act} {w w' : World} {o : Oper} {fr : Nat} {K : Act → World → Prop} {Q : Exit → Act → World → Prop}

theorem foldl_over (off : Nat) : ∀ (l : List Value) (s : Nat) (cs : Array Value), off + s + l.length ≤ cs.size →
    let R := (l.zipIdx s).foldl (fun cs (p : Value × Nat) => cs.setIfInBounds (off + p.2) p.1) cs
    R.size = cs.size ∧ ∀ k, R.getD k undef = if off + s ≤ k ∧ k < off + s + l.length then l.getD (k - (off + s)) undef else cs.getD k undef
  | [], s, cs, _ => ⟨rfl, fun k => by rw [if_neg (by simp)]; rfl⟩
  | v :: l, s, cs, h => by
    simp only [List.length_cons] at h
    obtain ⟨h1, h2⟩ := foldl_over off l (s + 1) (cs.setIfInBounds (off + s) v) (by simp; omega)
    refine ⟨by simpa using h1, fun k => ?_⟩
    have := h2 k
    simp only [List.zipIdx_cons, List.foldl_cons]
    rw [this]
    by_cases c1 : k = off + s
    · subst c1
      rw [if_neg (by omega), if_pos ⟨by omega, by simp⟩]
      simp [Array.getD_eq_getD_getElem?, show off + s < cs.size by omega]
    · by_cases c2 : off + s + 1 ≤ k ∧ k < off + s + 1 + l.length
      · rw [if_pos ⟨by omega, by omega⟩, if_pos ⟨by omega, by simp; omega⟩, show k - (off + s) = (k - (off + (s + 1))) + 1 by omega]
        simp
      · rw [if_neg (by omega), if_neg (by simp; omega)]
        simp [Array.getD_eq_getD_getElem?, show off + s ≠ k by omega]

theorem fill_cons {place : Nat → Option (Nat × Nat)} {cs : Array Value} {i : Nat} {v : Value} {rest : List (Nat × Value)} {off size : Nat} (hp : place i = some (off, size)) (hs : v.cells.size = size) (hb : off + size ≤ cs.size) :
    ∃ cs' : Array Value, Instr.fill place cs ((i, v) :: rest) = Instr.fill place cs' rest ∧ cs'.size = cs.size ∧ ∀ k, cs'.getD k undef = if off ≤ k ∧ k < off + size then v.cells.getD (k - off) undef else cs.getD k undef := by
  obtain ⟨h1, h2⟩ := foldl_over off v.cells.toList 0 cs (by simp; omega)
  refine ⟨v.cells.zipIdx.foldl (fun cs (c, j) => cs.setIfInBounds (off + j) c) cs, ?_, ?_, fun k => ?_⟩
  · simp only [Instr.fill, hp]
    rw [if_neg]
    simp [hs]; omega
  · rw [← Array.foldl_toList, Array.toList_zipIdx]; exact h1
  · rw [← Array.foldl_toList, Array.toList_zipIdx]
    have := h2 k
    simp only [Nat.add_zero, Array.length_toList, hs, getD_toList] at this
    exact this

theorem run_mapM {α β : Type} (f : α → Sem β) (g : α → β) : ∀ (l : List α) (_ : ∀ x ∈ l, ∀ w, (f x).run P w = .ok (g x) w) (w : World), (l.mapM f).run P w = .ok (l.map g) w
  | [], _, w => by simp
  | x :: l, hf, w => by simp [List.mapM_cons, hf x (by simp), run_mapM f g l (fun y hy => hf y (by simp [hy])), Result.andThen]

theorem fill_over {O : Ow} {b : Sees} : ∀ (ps : List (Nat × Nat × Nat × Operand)) (place : Nat → Option (Nat × Nat)) (cs : Array Value) (g : Nat → V),
    (∀ p ∈ ps, place p.1 = some (p.2.1, p.2.2.1) ∧ p.2.1 + p.2.2.1 ≤ cs.size ∧ (a.eval p.2.2.2).cells.size = p.2.2.1 ∧ ∀ j, j < p.2.2.1 → ((a.eval p.2.2.2).cells.getD j undef).oneCell' = true ∧ ((aev σ p.2.2.2).cell j).rel b ρ O w ((a.eval p.2.2.2).cells.getD j undef)) →
    (∀ j, j < cs.size → (cs.getD j undef).oneCell' = true ∧ (g j).rel b ρ O w (cs.getD j undef)) →
    ∃ cs' : Array Value, Instr.fill place cs (ps.map fun p => (p.1, a.eval p.2.2.2)) = some cs' ∧ cs'.size = cs.size ∧
      ∀ j, j < cs.size → (cs'.getD j undef).oneCell' = true ∧ (overlay (ps.map fun p => (p.2.1, p.2.2.1, aev σ p.2.2.2)) g j).rel b ρ O w (cs'.getD j undef)
  | [], place, cs, g, _, h => ⟨cs, rfl, rfl, h⟩
  | p :: ps, place, cs, g, hp, h => by
    obtain ⟨h1, h2, h3, h4⟩ := hp p (by simp)
    obtain ⟨cs1, e1, e2, e3⟩ := fill_cons (rest := ps.map fun p => (p.1, a.eval p.2.2.2)) h1 h3 h2
    obtain ⟨cs', f1, f2, f3⟩ := fill_over ps place cs1 (fun j => if p.2.1 ≤ j ∧ j < p.2.1 + p.2.2.1 then (aev σ p.2.2.2).cell (j - p.2.1) else g j)
      (fun q hq => by rw [e2]; exact hp q (by simp [hq])) (fun j hj => by
        rw [e3 j]
        by_cases c : p.2.1 ≤ j ∧ j < p.2.1 + p.2.2.1
        · rw [if_pos c]
          rw [if_pos c]
          exact h4 _ (by omega)
        · rw [if_neg c]
          rw [if_neg c]
          exact h j (by omega))
    refine ⟨cs', ?_, by omega, fun j hj => f3 j (by omega)⟩
    simp only [List.map_cons]
    rw [e1, f1]

theorem bparts_spec {fs : Array Field} {tot : Nat} : ∀ {ps : List (Nat × Operand)} {qs : List (Nat × Nat × Operand)}, bparts P fs tot ps = some qs →
    ∃ rs : List (Nat × Nat × Nat × Operand), ps = rs.map (fun r => (r.1, r.2.2.2)) ∧ qs = rs.map (fun r => r.2) ∧ ∀ r ∈ rs, (r.2.1 + r.2.2.1 ≤ tot ∧ 0 < r.2.2.1) ∧ ∃ f j, fs[r.1]? = some f ∧ P.info? f.type = some j ∧ r.2.1 = f.offset ∧ r.2.2.1 = j.size
  | [], qs, h => by
    simp only [bparts, Option.some.injEq] at h
    subst h
    exact ⟨[], rfl, rfl, fun r hr => by cases hr⟩
  | (k, x) :: ps, qs, h => by
    simp only [bparts] at h
    split at h <;> try (simp at h; done)
    rename_i f h1
    split at h <;> try (simp at h; done)
    rename_i j h2
    split at h <;> simp only [Option.map_eq_some_iff, reduceCtorEq] at h
    rename_i h3
    obtain ⟨qs', h4, rfl⟩ := h
    obtain ⟨rs, rfl, rfl, h5⟩ := bparts_spec h4
    refine ⟨(k, f.offset, j.size, x) :: rs, rfl, rfl, fun r hr => ?_⟩
    rcases List.mem_cons.1 hr with rfl | hr
    · exact ⟨h3, f, j, h1, h2, rfl, rfl⟩
    · exact h5 r hr

theorem build_ok (h : Rel E ρ σ a w) (hd : ∀ t, o.dst = some t → t < σ.N) (t : TypeId) (ps : Array (Nat × Operand)) (sz : Nat) (z : List Value) (qs : List (Nat × Nat × Operand)) (ho : o.op = .build t ps) (hc : comp P o = some (.build sz z qs)) {rd v ups}
    (k : (asem σ fr (.build sz z qs)).wp P σ.O fr fun a b c => a = rd ∧ b = v ∧ c = ups) : Comes' P E (σ.upd o.dst v ups) o a w := by
  obtain ⟨hn, -, rfl, rfl⟩ := k
  unfold comp at hc
  rw [ho] at hc
  simp only at hc
  split at hc <;> try (simp at hc; done)
  rotate_left
  · -- an array
    rename_i len e zz hu hz
    split at hc <;> try (simp at hc; done)
    rename_i j hj
    split at hc <;> try (simp at hc; done)
    rename_i hj0
    simp only [Option.map_eq_some_iff, AOp.build.injEq] at hc
    obtain ⟨qs', hb, rfl, rfl, rfl⟩ := hc
    obtain ⟨i, v, h1, h2, h3, h4, h5, rfl⟩ := zOf_some hz
    unfold aparts at hb
    split at hb <;> simp only [Option.some.injEq, reduceCtorEq] at hb
    rename_i hall
    subst hb
    let rs : List (Nat × Nat × Nat × Operand) := ps.toList.map fun p => (p.1, p.1 * j.size, j.size, p.2)
    have hqs : (ps.toList.map fun p => (p.1 * j.size, j.size, p.2)) = rs.map fun r => r.2 := by rw [List.map_map]; rfl
    dsimp only at hn ⊢
    rw [hqs] at hn ⊢
    have hx : ∀ r ∈ rs, (aev σ r.2.2.2).ncell = r.2.2.1 := fun r hr => hn r.2 (List.mem_map_of_mem hr)
    obtain ⟨cs', f1, f2, f3⟩ := fill_over (a := a) (σ := σ) (w := w) (ρ := ρ) (O := σ.O) (b := E.b) rs (fun k => some (k * j.size, j.size)) v.cells (fun j => .im (.val (v.cells.toList.getD j undef)))
      (fun r hr => by
        obtain ⟨p, hp, rfl⟩ := List.mem_map.1 hr
        have := List.all_eq_true.1 hall p hp
        simp only [decide_eq_true_eq] at this
        exact ⟨rfl, by show p.1 * j.size + j.size ≤ v.cells.size; omega, cells_rel (aev_rel h p.2) (hx _ hr) hj0⟩)
      (fun j hj => ⟨h4 _ (by rw [Array.getD_eq_getD_getElem?, Array.getElem?_eq_getElem hj]; exact Array.getElem_mem _), (getD_toList v.cells j).symm⟩)
    refine comes_value h hd (x := .agg cs') ?_ ⟨cs', rfl, by omega, fun j hj => ?_⟩
    · have hp : (ps.map fun (p : Nat × Operand) => (p.1, a.eval p.2)).toList = rs.map fun p => (p.1, a.eval p.2.2.2) := by
        rw [Array.toList_map, List.map_map]
        rfl
      have hsz : ∀ w, (sizeOf e).run P w = .ok j.size w := fun w => by simp [sizeOf, typeInfo, hj, Result.andThen]
      simp only [execOp, ho, Instr.build, Sem.run_bind, run_zero h1 h2, run_underlying hu, hsz, Result.andThen, hp, f1, Sem.run_pure]
    · have := f3 j (by omega)
      rw [List.map_map]
      exact this
  rename_i fs zz hu hz
  split at hc <;> simp only [Option.map_eq_some_iff, AOp.build.injEq, reduceCtorEq] at hc
  rename_i hall
  obtain ⟨qs', hb, rfl, rfl, rfl⟩ := hc
  obtain ⟨i, v, h1, h2, h3, h4, h5, rfl⟩ := zOf_some hz
  obtain ⟨rs, hps, rfl, hrs⟩ := bparts_spec hb
  dsimp only at hrs hn ⊢
  have hpl : ∀ w, (fs.mapM (m := Sem) fun f => do pure (f.offset, ← sizeOf f.type)).run P w = .ok (fs.map fun f => (f.offset, ((P.info? f.type).map (·.size)).getD 0)) w := by
    intro w
    rw [Array.mapM_eq_mapM_toList]
    have := run_mapM (P := P) (fun f : Field => do pure (f.offset, ← sizeOf f.type)) (fun f => (f.offset, ((P.info? f.type).map (·.size)).getD 0)) fs.toList (fun f hf w => by
      have := List.all_eq_true.1 hall f hf
      obtain ⟨q, hq⟩ := Option.isSome_iff_exists.1 this
      simp [sizeOf, typeInfo, hq, Result.andThen]) w
    rw [← bind_pure_comp, Sem.run_bind, this]
    simp only [Result.andThen, Sem.run_pure]
    rw [← Array.toList_map, Array.toArray_toList]
  have hx : ∀ r ∈ rs, (aev σ r.2.2.2).ncell = r.2.2.1 := fun r hr => hn r.2 (List.mem_map_of_mem hr)
  obtain ⟨cs', f1, f2, f3⟩ := fill_over (a := a) (σ := σ) (w := w) (ρ := ρ) (O := σ.O) (b := E.b) rs (fun k => (fs.map fun f => (f.offset, ((P.info? f.type).map (·.size)).getD 0))[k]?) v.cells (fun j => .im (.val (v.cells.toList.getD j undef)))
    (fun r hr => by
      obtain ⟨⟨g1, g0⟩, f, j, g2, g3, g4, g5⟩ := hrs r hr
      exact ⟨by simp [g2, g3, g4, g5], by omega, cells_rel (aev_rel h r.2.2.2) (hx r hr) g0⟩)
    (fun j hj => ⟨h4 _ (by rw [Array.getD_eq_getD_getElem?, Array.getElem?_eq_getElem hj]; exact Array.getElem_mem _), (getD_toList v.cells j).symm⟩)
  refine comes_value h hd (x := .agg cs') ?_ ⟨cs', rfl, by omega, fun j hj => ?_⟩
  · have hp : (ps.map fun (p : Nat × Operand) => (p.1, a.eval p.2)).toList = rs.map fun p => (p.1, a.eval p.2.2.2) := by
      rw [Array.toList_map, hps, List.map_map]
      rfl
    simp only [execOp, ho, Instr.build, Sem.run_bind, run_zero h1 h2, run_underlying hu, hpl, Result.andThen, hp, f1, Sem.run_pure]
  · have := f3 j (by omega)
    rw [List.map_map]
    exact this

theorem fill_seq {sz : Nat} : ∀ (ps : List (Nat × Operand)) (m : Nat) (cs : Array Value), ps.map (·.1) = List.range' m ps.length → (∀ p ∈ ps, (a.eval p.2).cells.size = sz) → (m + ps.length) * sz ≤ cs.size →
    ∃ cs' : Array Value, Instr.fill (fun i => some (i * sz, sz)) cs (ps.map fun p => (p.1, a.eval p.2)) = some cs' ∧ cs'.size = cs.size ∧
      ∀ i j, j < sz → (∀ p, m ≤ i → ps[i - m]? = some p → cs'.getD (i * sz + j) undef = (a.eval p.2).cells.getD j undef) ∧ (i < m → cs'.getD (i * sz + j) undef = cs.getD (i * sz + j) undef)
  | [], m, cs, _, _, _ => ⟨cs, rfl, rfl, fun i j _ => ⟨fun p _ hp => by simp at hp, fun _ => rfl⟩⟩
  | p :: ps, m, cs, h1, h2, h3 => by
    obtain ⟨q, x⟩ := p
    simp only [List.map_cons, List.length_cons, List.range'_succ, List.cons.injEq] at h1
    obtain ⟨rfl, h1⟩ := h1
    have hm : (q + 1 + ps.length) * sz ≤ cs.size := by
      rw [show q + 1 + ps.length = q + (ps.length + 1) by omega]; exact h3
    have hq : (q + 1) * sz ≤ (q + 1 + ps.length) * sz := Nat.mul_le_mul_right _ (by omega)
    rw [Nat.add_mul q 1 sz] at hq
    obtain ⟨cs1, e1, e2, e3⟩ := fill_cons (place := fun i => some (i * sz, sz)) (i := q) (rest := ps.map fun p => (p.1, a.eval p.2)) (cs := cs) rfl (h2 (q, x) (by simp)) (by omega)
    obtain ⟨cs', f1, f2, f3⟩ := fill_seq ps (q + 1) cs1 h1 (fun p hp => h2 p (by simp [hp])) (by rw [e2]; exact hm)
    refine ⟨cs', by simp only [List.map_cons]; rw [e1, f1], by omega, fun i j hj => ⟨fun p hi hp => ?_, fun hi => ?_⟩⟩
    · by_cases hc : i = q
      · subst hc
        simp only [Nat.sub_self, List.getElem?_cons_zero, Option.some.injEq] at hp
        subst hp
        rw [(f3 i j hj).2 (by omega), e3, if_pos ⟨by omega, by omega⟩, show i * sz + j - i * sz = j by omega]
      · refine (f3 i j hj).1 p (by omega) ?_
        rw [← hp, show i - q = (i - (q + 1)) + 1 by omega]
        simp
    · rw [(f3 i j hj).2 (by omega), e3, if_neg]
      rintro ⟨c1, c2⟩
      have : (i + 1) * sz ≤ q * sz := Nat.mul_le_mul_right _ hi
      rw [Nat.add_mul] at this
      omega

theorem flat_at {sz : Nat} : ∀ (ps : List (Nat × Operand)) (i j : Nat) (p : Nat × Operand), ps[i]? = some p → j < sz → (ps.flatMap fun p => cellsOf sz (aev σ p.2))[i * sz + j]? = some ((aev σ p.2).cell j)
  | [], i, j, p, h, _ => by simp at h
  | q :: ps, 0, j, p, h, hj => by
    simp only [List.getElem?_cons_zero, Option.some.injEq] at h
    subst h
    rw [List.flatMap_cons, List.getElem?_append_left (by simp [cellsOf]; omega), cellsOf, List.getElem?_map, List.getElem?_range (by omega)]
    simp
  | q :: ps, i + 1, j, p, h, hj => by
    simp only [List.getElem?_cons_succ] at h
    rw [List.flatMap_cons, List.getElem?_append_right (by simp [cellsOf, Nat.add_mul]; omega)]
    have := flat_at ps i j p h hj
    rw [← this]
    congr 1
    simp [cellsOf, Nat.add_mul]
    omega

theorem cslice_ok (h : Rel E ρ σ a w) (hf : σ.O fr = none) (hn : fr < σ.next) (hd : ∀ t, o.dst = some t → t < σ.N) (t : TypeId) (ps : Array (Nat × Operand)) (e len : Nat) (qs : List (Nat × Operand)) (ho : o.op = .buildSlice t len ps) (hc : comp P o = some (.cslice e len qs)) {rd v ups}
    (k : (asem σ fr (.cslice e len qs)).wp P σ.O fr fun a b c => a = rd ∧ b = v ∧ c = ups) : Comes' P E (σ.upd o.dst v ups) o a w := by
  simp only [asem] at k
  obtain ⟨hcell, -, rfl, rfl⟩ := k
  unfold comp at hc
  rw [ho] at hc
  simp only at hc
  split at hc <;> try (simp at hc; done)
  rename_i el hu
  split at hc <;> try (simp at hc; done)
  rename_i zz hz
  split at hc <;> try (simp at hc; done)
  rename_i hlim
  split at hc <;> simp only [Option.some.injEq, AOp.cslice.injEq, reduceCtorEq] at hc
  rename_i hfn
  obtain ⟨rfl, -, rfl⟩ := hc
  obtain ⟨i, v0, h1, h2, h3, h4, h5, rfl⟩ := zOf_some hz
  obtain ⟨hl1, hl2⟩ := hlim
  simp only [Bool.and_eq_true, Nat.beq_eq, Nat.blt_eq] at hfn
  obtain ⟨-, hsz, hl0⟩ := hfn
  dsimp only at hsz hl1
  have hlen : ps.toList.length = len := by
    have := congrArg List.length hl2
    simpa using this
  have hz2 : ∃ zc : Array Value, zc.size = len * i.size ∧ (Array.range (len * i.size)).map (v0.cells[· % v0.cells.size]!) = zc := ⟨_, by simp, rfl⟩
  obtain ⟨zc, hzs, hz1⟩ := hz2
  have hcl : ∀ p ∈ ps.toList, (a.eval p.2).cells.size = i.size := fun p hp => (cells_rel (aev_rel h p.2) ((hcell p hp).trans hsz.symm) h5).1
  obtain ⟨cs', f1, f2, f3⟩ := fill_seq (a := a) (sz := i.size) ps.toList 0 zc (by rw [hl2, hlen, List.range_eq_range']) hcl (by rw [hlen, hzs]; simp)
  have hrun : (execOp a.eval o).run P w = .ok (.value (.slice (some ⟨w.heap.size, 0, none⟩) len len)) (w.alloc (.cells cs' el)) := by
    have hp : (ps.map fun (p : Nat × Operand) => (p.1, a.eval p.2)).toList = ps.toList.map fun p => (p.1, a.eval p.2) := by rw [Array.toList_map]
    have hg : ¬ len * i.size > 2 ^ 24 := by omega
    have hc : ¬ len * i.size = 0 := by rw [hsz]; omega
    simp only [execOp, ho, Instr.buildSlice, Sem.run_bind, run_underlying hu, sizeOf, typeInfo, program, Sem.run, h1, Result.andThen, Sem.run_pure, if_neg hg, if_neg hc, run_zero h1 h2, hz1, hp, f1, newRow, run_new]
  obtain ⟨hr, ext⟩ := h.new hf hn (.var el len fun j => (aev σ (ps.toList.getD j (0, .const undef)).2).cell 0) cs' el w rfl rfl rfl rfl (fun ext =>
    ⟨_, _, rfl, alloc_heap w w rfl _, by rw [f2, hzs, hsz, Nat.mul_one], fun j hj => by
      obtain ⟨p, hp⟩ : ∃ p, ps.toList[j]? = some p := ⟨_, List.getElem?_eq_getElem (by omega)⟩
      have hpm : p ∈ ps.toList := List.mem_of_getElem? hp
      have f4 := (f3 j 0 (by omega)).1 p (by omega) hp
      rw [hsz, Nat.mul_one, Nat.add_zero] at f4
      obtain ⟨c1, c2⟩ := cells_rel (aev_rel h p.2) ((hcell p hpm).trans hsz.symm) h5
      obtain ⟨d1, d2⟩ := c2 0 (by omega)
      have hpd : ps.toList.getD j (0, .const undef) = p := by rw [List.getD_eq_getElem?_getD, hp]; rfl
      rw [f4]
      dsimp only
      rw [hpd]
      exact ⟨d1, V.rel_ext ext d2⟩⟩)
  exact comes_made hr hd hrun ⟨_, _, _, rfl, Nat.le_refl _, setO_self _ _, fun _ => if_pos rfl⟩
theorem bslice_ok (h : Rel E ρ σ a w) (hf : σ.O fr = none) (hn : fr < σ.next) (hd : ∀ t, o.dst = some t → t < σ.N) (t : TypeId) (ps : Array (Nat × Operand)) (e sz len : Nat) (z : List Value) (qs : List (Nat × Operand)) (ho : o.op = .buildSlice t len ps) (hc : comp P o = some (.bslice e sz len z qs)) {rd v ups}
    (k : (asem σ fr (.bslice e sz len z qs)).wp P σ.O fr fun a b c => a = rd ∧ b = v ∧ c = ups) : Comes' P E (σ.upd o.dst v ups) o a w := by
  replace k := wp_drop k
  simp only [asem] at k
  obtain ⟨hcell, k⟩ := k
  unfold comp at hc
  rw [ho] at hc
  simp only at hc
  split at hc <;> try (simp at hc; done)
  rename_i el hu
  split at hc <;> try (simp at hc; done)
  rename_i zz hz
  split at hc <;> try (simp at hc; done)
  rename_i hlim
  split at hc <;> simp only [Option.some.injEq, AOp.bslice.injEq, reduceCtorEq] at hc
  obtain ⟨rfl, rfl, -, rfl, rfl⟩ := hc
  obtain ⟨i, v0, h1, h2, h3, h4, h5, rfl⟩ := zOf_some hz
  obtain ⟨hl1, hl2⟩ := hlim
  dsimp only at hcell k hl1
  have hlen : ps.toList.length = len := by
    have := congrArg List.length hl2
    simpa using this
  obtain ⟨ts, us, g1, g2, g3, g4⟩ := frzL_wp (R := fun b c => b = v ∧ c = ups) k
  obtain ⟨rfl, rfl⟩ := g4
  obtain ⟨hfz, fext⟩ := h.freeze g3
  have hfr : ({ σ with ob := us ++ σ.ob } : St).O fr = none := by
    rcases lo_frozen g3 σ.ob fr with ⟨_, _, _, _, _, _, _, g, _⟩ | ⟨_, g⟩
    · rw [hf] at g; cases g
    · exact g.trans hf
  have hz2 : ∃ zc : Array Value, zc.size = len * i.size ∧ (len * i.size = 0 → (Array.range (len * i.size)).map ((#[] : Array Value)[· % (#[] : Array Value).size]!) = zc) ∧ (len * i.size ≠ 0 → (Array.range (len * i.size)).map (v0.cells[· % v0.cells.size]!) = zc) := by
    by_cases hz0 : len * i.size = 0
    · exact ⟨_, by simp, fun _ => rfl, fun e => absurd hz0 e⟩
    · exact ⟨_, by simp, fun e => absurd e hz0, fun _ => rfl⟩
  obtain ⟨zc, hzs, hz0, hz1⟩ := hz2
  obtain ⟨cs', f1, f2, f3⟩ := fill_seq (a := a) (sz := i.size) ps.toList 0 zc (by rw [hl2, hlen, List.range_eq_range']) (fun p hp => (cells_rel (aev_rel h p.2) (hcell p hp) h5).1) (by rw [hlen, hzs]; simp)
  have hrun : (execOp a.eval o).run P w = .ok (.value (.slice (some ⟨w.heap.size, 0, none⟩) len len)) (w.alloc (.cells cs' el)) := by
    have hp : (ps.map fun (p : Nat × Operand) => (p.1, a.eval p.2)).toList = ps.toList.map fun p => (p.1, a.eval p.2) := by rw [Array.toList_map]
    have hg : ¬ len * i.size > 2 ^ 24 := by omega
    by_cases hc : len * i.size = 0
    · have hz0' := hz0 hc
      simp only [execOp, ho, Instr.buildSlice, Sem.run_bind, run_underlying hu, sizeOf, typeInfo, program, Sem.run, h1, Result.andThen, Sem.run_pure, if_neg hg, if_pos hc, hz0', hp, f1, newRow, run_new]
    · have hz1' := hz1 hc
      simp only [execOp, ho, Instr.buildSlice, Sem.run_bind, run_underlying hu, sizeOf, typeInfo, program, Sem.run, h1, Result.andThen, Sem.run_pure, if_neg hg, if_neg hc, run_zero h1 h2, hz1', hp, f1, newRow, run_new]
  obtain ⟨hr, ext⟩ := hfz.new hfr hn (.arr (.own none) el i.size 0 len fun i' j => ts.getD (i' * i.size + j) (.val undef)) cs' el w rfl rfl rfl rfl (fun ext =>
    .inr ⟨_, cs', len, rfl, alloc_heap w w rfl _, by rw [f2, hzs], Nat.le_refl _, ⟨by
      have : len * 1 ≤ len * i.size := Nat.mul_le_mul_left _ h5
      unfold maxLen; omega, nofun, Room.none nofun⟩, fun i' j hi' hj => by
      obtain ⟨p, hp⟩ : ∃ p, ps.toList[i']? = some p := ⟨_, List.getElem?_eq_getElem (by omega)⟩
      rw [(f3 i' j hj).1 p (by omega) hp]
      have hpm : p ∈ ps.toList := List.mem_of_getElem? hp
      obtain ⟨c1, c2⟩ := cells_rel (aev_rel h p.2) (hcell p hpm) h5
      obtain ⟨d1, d2⟩ := c2 j hj
      refine ⟨d1, ?_⟩
      have hat := flat_at (σ := σ) ps.toList i' j p hp hj
      have hl : i' * i.size + j < ts.length := by
        rw [g1]
        exact (List.getElem?_eq_some_iff.1 hat).1
      have hfz2 := g2 _ _ _ hat (List.getElem?_eq_getElem hl)
      have := Frz.rel h g3 fext hfz2 d2
      dsimp only
      rw [List.getD_eq_getElem?_getD, List.getElem?_eq_getElem hl]
      exact T.rel_mono ext.okb this⟩)
  refine comes_made (σ := { σ with ob := us ++ σ.ob }) hr hd hrun ⟨_, _, _, rfl, Nat.le_refl _, setO_self _ _, Nat.le_refl _, fun _ => ⟨_, _, _, _, _, rfl, by omega, .inr ⟨w.heap.size, cs', if_pos rfl, fun _ => by simp, alloc_heap w w rfl _, ?_⟩⟩⟩
  rw [f2, hzs]
  simp
end
end Go.Proofs.Ytlmnhbobgfpanaa
