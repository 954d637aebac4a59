/-
  That the program's operations do what the states say (4): what is made, and what is written.
-/
import Derived.Test.YtlmnhbobgfpanaaTrF
namespace Go.Proofs.Ytlmnhbobgfpanaa
open Go.RowKit

section
variable {P : Program} {E : Env} {ρ : Pl} {σ : St} {a : Act} {w w' : World} {o : Oper} {fr : Nat} {K : Act → World → Prop} {Q : Exit → Act → World → Prop}

def pset (ρ : Pl) (id : Nat) (p : Option Nat) : Pl := fun k => if k = id then p else ρ k

theorem lo_cons (id k : Nat) (o : Ob) (l : List (Nat × Ob)) : lo ((id, o) :: l) k = if id = k then some o else lo l k := rfl

theorem Rel.one (h : Rel E ρ σ a w) (id : Nat) (hid : id < σ.next) (o' : Ob) (p : Option Nat) (w' : World)
    (hw : ∀ g, g < w.heap.size → (∀ o, σ.O id = some o → o.live = true → ρ id ≠ some g) → w'.heap[g]? = w.heap[g]?)
    (hp : ∀ g, o'.live = true → p = some g → g < w'.heap.size ∧ ((∃ o, σ.O id = some o ∧ o.live = true ∧ ρ id = some g) ∨ w.heap.size ≤ g))
    (hz : ∀ o g k, σ.O id = some o → o.live = true → ρ id = some g → k < o.lo → look w' g k = look w g k ∧ (o'.live = true → p = some g → k < o'.lo))
    (hv : ∀ o, σ.O id = some o → o.ver ≤ o'.ver ∧ (o'.ver = o.ver → p = ρ id ∧ o.fits o' ∧
      ∀ g cs e, o.held = true → ρ id = some g → w.heap[g]? = some (.cells cs e (0, 0)) → ∃ cs' : Array Value, w'.heap[g]? = some (.cells cs' e (0, 0)) ∧ cs'.size = cs.size))
    (hrel : Ext ρ σ.O w (pset ρ id p) (σ.setO id o').O w' → o'.rel E.b (pset ρ id p) (σ.setO id o').O w' p)
    (hsize : w.heap.size ≤ w'.heap.size) (hos : w'.os = w.os) (htape : w'.tape = w.tape) (hout : w'.output = w.output) :
    Rel E (pset ρ id p) (σ.setO id o') a w' ∧ Ext ρ σ.O w (pset ρ id p) (σ.setO id o').O w' := by
  have hO : ∀ k, k ≠ id → (σ.setO id o').O k = σ.O k := fun k hk => by
    show lo ((id, o') :: σ.ob) k = lo σ.ob k
    rw [lo_cons, if_neg (Ne.symm hk)]
  have hO' : (σ.setO id o').O id = some o' := by
    show lo ((id, o') :: σ.ob) id = _
    rw [lo_cons, if_pos rfl]
  refine h.many (· = id) rfl rfl hO (fun k hk => if_neg hk) (fun g hg hn => hw g hg (fun o e1 e2 => hn id o rfl e1 e2)) ?_ ?_ ?_ ?_ ?_ ?_ hsize hos htape hout
  · rintro k o g rfl ho hl hg
    rw [hO'] at ho; cases ho
    simp only [pset, if_true] at hg
    obtain ⟨h1, h2⟩ := hp g hl hg
    exact ⟨h1, h2.imp (fun ⟨o, e⟩ => ⟨k, o, rfl, e⟩) (fun e => e)⟩
  · rintro k o g c rfl ho hl hg hc
    obtain ⟨h1, h2⟩ := hz o g c ho hl hg hc
    refine ⟨h1, ?_⟩
    rintro k' o1 rfl ho1 hl1 hg1
    rw [hO'] at ho1; cases ho1
    exact h2 hl1 (by simpa only [pset, if_true] using hg1)
  · rintro k k' o o' g rfl rfl - - - - - -
    rfl
  · rintro k o rfl ho
    obtain ⟨h1, h2⟩ := hv o ho
    refine ⟨o', hO', h1, fun e => ?_⟩
    obtain ⟨h3, h4⟩ := h2 e
    exact ⟨by simp only [pset, if_true]; exact h3, h4⟩
  · rintro ext k o rfl ho
    rw [hO'] at ho; cases ho
    have := hrel ext
    simpa only [pset, if_true] using this
  · intro k hk
    have hk' : σ.next ≤ k := hk
    rw [hO k (by omega)]
    exact h.nx k hk'

theorem Rel.new (h : Rel E ρ σ a w) (hf : σ.O fr = none) (hn : fr < σ.next) (o' : Ob) (cells : Array Value) (e : TypeId) (w0 : World) (h0 : w0.heap = w.heap) (h1 : w0.os = w.os) (h2 : w0.tape = w.tape) (h3 : w0.output = w.output)
    (hrel : Ext ρ σ.O w (pset ρ fr (some w.heap.size)) (σ.setO fr o').O (w0.alloc (.cells cells e)) → o'.rel E.b (pset ρ fr (some w.heap.size)) (σ.setO fr o').O (w0.alloc (.cells cells e)) (some w.heap.size)) :
    Rel E (pset ρ fr (some w.heap.size)) (σ.setO fr o') a (w0.alloc (.cells cells e)) ∧ Ext ρ σ.O w (pset ρ fr (some w.heap.size)) (σ.setO fr o').O (w0.alloc (.cells cells e)) := by
  refine h.one fr hn o' (some w.heap.size) _ (fun g hg _ => ?_) (fun g _ e => ?_) (fun o g k ho => by rw [hf] at ho; cases ho) (fun o ho => ?_) hrel ?_ h1 h2 h3
  · show (w0.heap.push _)[g]? = _
    rw [h0, Array.getElem?_push, if_neg (by omega)]
  · cases e
    exact ⟨by show _ < (w0.heap.push _).size; rw [h0]; simp, .inr (Nat.le_refl _)⟩
  · rw [hf] at ho; cases ho
  · show _ ≤ (w0.heap.push _).size
    rw [h0]; simp

theorem alloc_heap (w0 w : World) (h0 : w0.heap = w.heap) (o : Obj) : (w0.alloc o).heap[w.heap.size]? = some o := by
  show (w0.heap.push o)[w.heap.size]? = _
  rw [h0]; simp

theorem upd_one (d : Option Nat) (v : V) (id : Nat) (o' : Ob) : σ.upd d v [(id, o')] = (σ.setO id o').upd d v [] := rfl

theorem comes_made {ρ' : Pl} {id : Nat} {o' : Ob} {v : V} {x : Value} (hr : Rel E ρ' (σ.setO id o') a w') (hd : ∀ t, o.dst = some t → t < σ.N) (hrun : (execOp a.eval o).run P w = .ok (.value x) w')
    (hv : v.rel E.b ρ' (σ.setO id o').O w' x) : Comes' P E (σ.upd o.dst v [(id, o')]) o a w :=
  ⟨_, w', ρ', hrun, .inl ⟨x, rfl, by rw [upd_one]; exact hr.putO hd hv⟩⟩
theorem setO_self (id : Nat) (o' : Ob) : (σ.setO id o').O id = some o' := if_pos rfl

theorem zOf_some {t : TypeId} {z : Nat × List Value × Nat} (h : zOf P t = some z) : ∃ i v, P.info? t = some i ∧ i.zero = some v ∧ v.cells.size = i.size ∧ (∀ u ∈ v.cells, u.oneCell' = true) ∧ 0 < i.size ∧ z = (i.size, v.cells.toList, i.bytes) := by
  unfold zOf at h
  split at h <;> try (simp at h; done)
  rename_i i h1
  split at h <;> try (simp at h; done)
  rename_i v h2
  split at h <;> simp only [Option.some.injEq, reduceCtorEq] at h
  rename_i h3
  exact ⟨i, v, h1, h2, h3.1, fun u hu => (Array.all_eq_true_iff_forall_mem.1 h3.2.1) u hu, h3.2.2, h.symm⟩

theorem run_zero {e : TypeId} {i : TypeInfo} {v : Value} (h1 : P.info? e = some i) (h2 : i.zero = some v) (w : World) : (zeroValue e).run P w = .ok v w := by
  simp [zeroValue, typeInfo, h1, h2, Result.andThen]
theorem run_new (o : Obj) (w : World) : (newObj o).run P w = .ok w.heap.size (w.alloc o) := rfl
theorem getD_toList (cs : Array Value) (j : Nat) : cs.toList.getD j undef = cs.getD j undef := by simp [List.getD]

theorem alloc_ok (h : Rel E ρ σ a w) (hf : σ.O fr = none) (hn : fr < σ.next) (hd : ∀ t, o.dst = some t → t < σ.N) (e sz : Nat) (z : List Value) (ho : o.op = .alloc e) (hc : comp P o = some (.alloc e sz z)) {rd v ups}
    (k : (asem σ fr (.alloc e sz z)).wp P σ.O fr fun a b c => a = rd ∧ b = v ∧ c = ups) : Comes' P E (σ.upd o.dst v ups) o a w := by
  obtain ⟨-, rfl, rfl⟩ := k
  unfold comp at hc
  rw [ho] at hc
  simp only [Option.map_eq_some_iff, AOp.alloc.injEq] at hc
  obtain ⟨zz, hz, -, rfl, rfl⟩ := hc
  obtain ⟨i, v, h1, h2, h3, h4, h5, rfl⟩ := zOf_some hz
  have hrun : (execOp a.eval o).run P w = .ok (.value (.pointer (some ⟨w.heap.size, 0, none⟩))) (w.alloc (.cells v.cells e)) := by
    simp [execOp, ho, Instr.alloc, run_zero h1 h2, newVar, newRow, Result.andThen]
  obtain ⟨hr, ext⟩ := h.new hf hn (.var e i.size fun j => .im (.val (v.cells.toList.getD j undef))) v.cells e w rfl rfl rfl rfl (fun ext =>
    ⟨_, v.cells, rfl, alloc_heap w w rfl _, h3, fun j hj => ⟨h4 _ (by rw [Array.getD_eq_getD_getElem?, Array.getElem?_eq_getElem (by omega)]; exact Array.getElem_mem _), (getD_toList v.cells j).symm⟩⟩)
  exact comes_made hr hd hrun ⟨_, _, rfl, setO_self _ _, Nat.le_refl _, fun _ _ => ⟨_, if_pos rfl, by simp⟩⟩

theorem cells_rel {b : Sees} {O : Ow} {v : V} {x : Value} {k : Nat} (h : v.rel b ρ O w x) (hk : v.ncell = k) (h0 : 0 < k) :
    x.cells.size = k ∧ ∀ j, j < k → (x.cells.getD j undef).oneCell' = true ∧ (v.cell j).rel b ρ O w (x.cells.getD j undef) := by
  have one : ∀ x : Value, x.oneCell' = true → x.cells = #[x] := fun x hx => by cases x <;> first | rfl | cases hx
  cases v with
  | dead => simp [V.ncell] at hk; omega
  | tup n f => simp [V.ncell] at hk; omega
  | agg n f =>
    obtain ⟨cs, rfl, e, hf⟩ := h
    simp only [V.ncell] at hk
    exact ⟨by rw [← hk, ← e]; rfl, fun j hj => hf j (by omega)⟩
  | im t =>
    cases t with
    | val v =>
      have hx : x = v := h
      subst hx
      simp only [V.ncell] at hk
      split at hk
      · rename_i h1
        rw [one x h1]
        refine ⟨by rw [← hk]; rfl, fun j hj => ?_⟩
        have : j = 0 := by omega
        subst this
        exact ⟨h1, rfl⟩
      · omega
    | agg n f =>
      obtain ⟨cs, rfl, e, hf⟩ := h
      simp only [V.ncell] at hk
      exact ⟨by rw [← hk, ← e]; rfl, fun j hj => hf j (by omega)⟩
    | slr q size n m f =>
      simp only [V.ncell] at hk
      have h' := h
      obtain ⟨A, c, rfl, -⟩ := h
      refine ⟨by rw [← hk]; rfl, fun j hj => ?_⟩
      have : j = 0 := by omega
      subst this
      exact ⟨rfl, h'⟩
    | sl size n f =>
      simp only [V.ncell] at hk
      have h' := h
      obtain ⟨A, c, rfl, -⟩ := h
      refine ⟨by rw [← hk]; rfl, fun j hj => ?_⟩
      have : j = 0 := by omega
      subst this
      exact ⟨rfl, h'⟩
    | ifc t v =>
      simp only [V.ncell] at hk
      have h' := h
      obtain ⟨u, rfl, -⟩ := h
      refine ⟨by rw [← hk]; rfl, fun j hj => ?_⟩
      have : j = 0 := by omega
      subst this
      exact ⟨rfl, h'⟩
    | glo g t =>
      simp only [V.ncell] at hk
      have h' := h
      obtain ⟨-, -, u, rfl⟩ := h
      refine ⟨by rw [← hk]; rfl, fun j hj => ?_⟩
      have : j = 0 := by omega
      subst this
      exact ⟨rfl, h'⟩
    | anyn κ =>
      simp only [V.ncell] at hk
      have h' := h
      have h1 : x.oneCell' = true := by cases κ <;> (obtain ⟨u, rfl⟩ := h; rfl)
      refine ⟨by rw [← hk]; cases κ <;> (obtain ⟨u, rfl⟩ := h; rfl), fun j hj => ?_⟩
      have : j = 0 := by omega
      subst this
      cases κ <;> (obtain ⟨u, rfl⟩ := h; exact ⟨rfl, h'⟩)
    | opq =>
      simp only [V.ncell] at hk
      have h' := h
      obtain ⟨h1, h2⟩ := h
      refine ⟨by rw [h2, ← hk]; rfl, fun j hj => ?_⟩
      have : j = 0 := by omega
      subst this
      rw [h2]
      exact ⟨h1, h'⟩
    | anyb =>
      simp only [V.ncell] at hk
      have h' := h
      obtain ⟨u, rfl⟩ := h
      refine ⟨by rw [← hk]; rfl, fun j hj => ?_⟩
      have : j = 0 := by omega
      subst this
      exact ⟨rfl, h'⟩
  | buf id ver off len =>
    simp only [V.ncell] at hk
    have h' := h
    obtain ⟨A, c, ob, rfl, -⟩ := h
    refine ⟨by rw [← hk]; rfl, fun j hj => ?_⟩
    have : j = 0 := by omega
    subst this
    exact ⟨rfl, h'⟩
  | ptr id ver i j =>
    simp only [V.ncell] at hk
    have h' := h
    obtain ⟨A, ob, rfl, -⟩ := h
    refine ⟨by rw [← hk]; rfl, fun j hj => ?_⟩
    have : j = 0 := by omega
    subst this
    exact ⟨rfl, h'⟩
  | elem size n f i j =>
    simp only [V.ncell] at hk
    have h' := h
    obtain ⟨A, rfl, -⟩ := h
    refine ⟨by rw [← hk]; rfl, fun j hj => ?_⟩
    have : j = 0 := by omega
    subst this
    exact ⟨rfl, h'⟩
  | ifc t v =>
    simp only [V.ncell] at hk
    have h' := h
    obtain ⟨u, rfl, -⟩ := h
    refine ⟨by rw [← hk]; rfl, fun j hj => ?_⟩
    have : j = 0 := by omega
    subst this
    exact ⟨rfl, h'⟩
  | clo fn n f m g =>
    simp only [V.ncell] at hk
    have h' := h
    obtain ⟨u, v, rfl, -⟩ := h
    refine ⟨by rw [← hk]; rfl, fun j hj => ?_⟩
    have : j = 0 := by omega
    subst this
    exact ⟨rfl, h'⟩
  | mp id =>
    simp only [V.ncell] at hk
    have h' := h
    obtain ⟨u, v, rfl, -⟩ := h
    refine ⟨by rw [← hk]; rfl, fun j hj => ?_⟩
    have : j = 0 := by omega
    subst this
    exact ⟨rfl, h'⟩
  | vsl id len =>
    simp only [V.ncell] at hk
    have h' := h
    obtain ⟨u, v, q, rfl, -⟩ := h
    refine ⟨by rw [← hk]; rfl, fun j hj => ?_⟩
    have : j = 0 := by omega
    subst this
    exact ⟨rfl, h'⟩

theorem box_ok (h : Rel E ρ σ a w) (hf : σ.O fr = none) (hn : fr < σ.next) (hd : ∀ t, o.dst = some t → t < σ.N) (e sz : Nat) (x : Operand) (ho : o.op = .box e x) (hc : comp P o = some (.box e sz x)) {rd v ups}
    (k : (asem σ fr (.box e sz x)).wp P σ.O fr fun a b c => a = rd ∧ b = v ∧ c = ups) : Comes' P E (σ.upd o.dst v ups) o a w := by
  obtain ⟨hk, -, rfl, rfl⟩ := k
  unfold comp at hc
  rw [ho] at hc
  simp only [Option.map_eq_some_iff, AOp.box.injEq] at hc
  obtain ⟨zz, hz, -, rfl, -⟩ := hc
  obtain ⟨i, v, h1, h2, h3, h4, h5, rfl⟩ := zOf_some hz
  obtain ⟨c1, c2⟩ := cells_rel (aev_rel h x) hk h5
  have hrun : (execOp a.eval o).run P w = .ok (.value (.pointer (some ⟨w.heap.size, 0, none⟩))) (w.alloc (.cells (a.eval x).cells e)) := by
    simp only [execOp, ho, Instr.box, newVar, newRow, newObj, Sem.run, bind_pure_comp, Functor.map, Sem.bind]
    rfl
  obtain ⟨hr, ext⟩ := h.new hf hn (.var e i.size (aev σ x).cell) (a.eval x).cells e w rfl rfl rfl rfl (fun ext =>
    ⟨_, _, rfl, alloc_heap w w rfl _, c1, fun j hj => ⟨(c2 j hj).1, V.rel_ext ext (c2 j hj).2⟩⟩)
  exact comes_made hr hd hrun ⟨_, _, rfl, setO_self _ _, Nat.le_refl _, fun _ _ => ⟨_, if_pos rfl, by simp⟩⟩
end
end Go.Proofs.Ytlmnhbobgfpanaa
