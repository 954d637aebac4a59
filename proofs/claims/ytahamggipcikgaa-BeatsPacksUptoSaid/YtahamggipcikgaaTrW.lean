/-
  The rules of the walk in bundles.
-/
import Derived.Test.YtahamggipcikgaaTrU
namespace Go.Proofs.Ytahamggipcikgaa
open Go.RowKit
section
theorem simC : (∀ {P : Program} {m : Nat} {post : AX → St → Prop} {ks : List Kf} {σ : St}, awpS P m AC.skip ks post σ = popS P m AX.normal ks post σ) ∧
  (∀ {P : Program} {m : Nat} {post : AX → St → Prop} {ks : List Kf} {σ : St}, awpS P m AC.ret ks post σ = popS P m AX.ret ks post σ) ∧
  (∀ {P : Program} {m : Nat} {post : AX → St → Prop} {ks : List Kf} {σ : St} {id : Nat}, awpS P m (AC.exit id) ks post σ = popS P m (AX.exit id) ks post σ) ∧
  (∀ {P : Program} {m : Nat} {post : AX → St → Prop} {ks : List Kf} {σ : St} {x y : AC}, awpS P m (x.seq y) ks post σ = awpS P m x (Kf.seq y :: ks) post σ) ∧
  (∀ {P : Program} {m : Nat} {post : AX → St → Prop} {ks : List Kf} {σ : St} {id : Nat} {x : AC}, awpS P m (AC.block id x) ks post σ = awpS P m x (Kf.block id :: ks) post σ) ∧
  (∀ {P : Program} {m : Nat} {post : AX → St → Prop} {ks : List Kf} {σ : St} {x : AC}, awpS P m x.loop ks post σ = loopS P m x ks post σ) ∧
  (∀ {P : Program} {m : Nat} {post : AX → St → Prop} {ks : List Kf} {σ : St} {c : Operand} {x y : AC}, awpS P m (AC.cond c x y) ks post σ = condS P m (aev σ c) x y ks post σ) ∧
  (∀ {P : Program} {m : Nat} {post : AX → St → Prop} {ks : List Kf} {deps : List (List Nat)} {ros : List RO} {draw : Bool} {tm : List (Nat × V)} {ob : List (Nat × Ob)} {n N : Nat}, awpS P m (AC.region ros deps draw) ks post { tm := tm, ob := ob, next := n, N := N : St } = regS P m n ros 0 { tm := tm, ob := ob, next := n + 16 * ros.length, N := N : St } draw deps [] ks post) ∧
  (∀ {P : Program} {m : Nat} {post : AX → St → Prop} {σ : St} {e : AX}, popS P m e [] post σ = post e σ) ∧
  (∀ {P : Program} {m : Nat} {post : AX → St → Prop} {ks : List Kf} {σ : St} {y : AC}, popS P m AX.normal (Kf.seq y :: ks) post σ = awpS P m y ks post σ) ∧
  (∀ {P : Program} {m : Nat} {post : AX → St → Prop} {ks : List Kf} {σ : St} {y : AC}, popS P m AX.ret (Kf.seq y :: ks) post σ = popS P m AX.ret ks post σ) ∧
  (∀ {P : Program} {m : Nat} {post : AX → St → Prop} {ks : List Kf} {σ : St} {y : AC} {id : Nat}, popS P m (AX.exit id) (Kf.seq y :: ks) post σ = popS P m (AX.exit id) ks post σ) ∧
  (∀ {P : Program} {m : Nat} {post : AX → St → Prop} {ks : List Kf} {σ : St} {id : Nat}, popS P m AX.normal (Kf.block id :: ks) post σ = popS P m AX.normal ks post σ) ∧
  (∀ {P : Program} {m : Nat} {post : AX → St → Prop} {ks : List Kf} {σ : St} {id : Nat}, popS P m AX.ret (Kf.block id :: ks) post σ = popS P m AX.ret ks post σ) ∧
  (∀ {P : Program} {m : Nat} {post : AX → St → Prop} {ks : List Kf} {σ : St} {id i : Nat}, popS P m (AX.exit i) (Kf.block id :: ks) post σ = if i = id then popS P m AX.normal ks post σ else popS P m (AX.exit i) ks post σ) ∧
  (∀ {P : Program} {m base : Nat} {post : AX → St → Prop} {ks : List Kf} {σ : St} {i : Nat} {deps : List (List Nat)} {efs : List Ef} {d : Bool}, regS P m base [] i σ d deps efs ks post = freeWp d deps efs.reverse (popS P m AX.normal ks post σ)) ∧
  (∀ {P : Program} {m base : Nat} {post : AX → St → Prop} {ks : List Kf} {σ : St} {r : RO} {rs : List RO} {i : Nat} {d : Bool} {deps : List (List Nat)} {efs : List Ef}, regS P m base (r :: rs) i σ d deps efs ks post = opS P m base (gsem σ (base + 16 * i) r) [] r rs i σ d deps efs ks post) ∧
  (∀ {P : Program} {m base : Nat} {post : AX → St → Prop} {ks : List Kf} {σ : St} {rdl : List Nat} {r : RO} {rs : List RO} {i : Nat} {d : Bool} {deps : List (List Nat)} {efs : List Ef} {v : V} {ups : List (Nat × Ob)}, opS P m base (AM.done v ups) rdl r rs i σ d deps efs ks post = regS P m base rs (i + 1) (σ.upd r.dst v ups) d deps ({ fr := base + 16 * i, rd := r.rdT ++ List.map (fun k => 2 * k + 1) rdl, dst := r.dst, v := v, ups := ups : Ef } :: efs) ks post) ∧
  (∀ {P : Program} {m base : Nat} {post : AX → St → Prop} {ks : List Kf} {σ : St} {rdl : List Nat} {r : RO} {rs : List RO} {i : Nat} {d : Bool} {deps : List (List Nat)} {efs : List Ef} {id : Nat} {k : Ob → AM}, opS P m base (AM.get id k) rdl r rs i σ d deps efs ks post = getS P m base (σ.O id) id k rdl r rs i σ d deps efs ks post) ∧
  (∀ {P : Program} {m base : Nat} {post : AX → St → Prop} {ks : List Kf} {σ : St} {rdl : List Nat} {r : RO} {rs : List RO} {i : Nat} {d : Bool} {deps : List (List Nat)} {efs : List Ef} {o : Ob} {id : Nat} {k : Ob → AM}, getS P m base (some o) id k rdl r rs i σ d deps efs ks post = opS P m base (k o) (rdl ++ [id]) r rs i σ d deps efs ks post) ∧
  (∀ {P : Program} {m base : Nat} {post : AX → St → Prop} {ks : List Kf} {σ : St} {rdl : List Nat} {r : RO} {rs : List RO} {i : Nat} {d : Bool} {deps : List (List Nat)} {efs : List Ef} {p : Prop} {a : AM}, opS P m base (AM.req p a) rdl r rs i σ d deps efs ks post = (p ∧ opS P m base a rdl r rs i σ d deps efs ks post)) ∧
  (∀ {P : Program} {m base : Nat} {post : AX → St → Prop} {ks : List Kf} {σ : St} {rdl : List Nat} {r : RO} {rs : List RO} {i : Nat} {d : Bool} {deps : List (List Nat)} {efs : List Ef} {b : Bool} {x y : AM}, opS P m base (AM.ite b x y) rdl r rs i σ d deps efs ks post = iteS P m base b x y rdl r rs i σ d deps efs ks post) ∧
  (∀ {P : Program} {m base : Nat} {post : AX → St → Prop} {ks : List Kf} {σ : St} {rdl : List Nat} {r : RO} {rs : List RO} {i : Nat} {d : Bool} {deps : List (List Nat)} {efs : List Ef} {x y : AM}, iteS P m base true x y rdl r rs i σ d deps efs ks post = opS P m base x rdl r rs i σ d deps efs ks post) ∧
  (∀ {P : Program} {m base : Nat} {post : AX → St → Prop} {ks : List Kf} {σ : St} {rdl : List Nat} {r : RO} {rs : List RO} {i : Nat} {d : Bool} {deps : List (List Nat)} {efs : List Ef} {x y : AM}, iteS P m base false x y rdl r rs i σ d deps efs ks post = opS P m base y rdl r rs i σ d deps efs ks post) ∧
  (∀ {P : Program} {m base : Nat} {post : AX → St → Prop} {ks : List Kf} {σ : St} {rdl : List Nat} {r : RO} {rs : List RO} {i : Nat} {d : Bool} {deps : List (List Nat)} {efs : List Ef} {f : FuncId} {evs : List V}, opS P m base (AM.call f evs) rdl r rs i σ d deps efs ks post = callS P m base f evs rdl r rs i σ d deps efs ks post) ∧
  (∀ {P : Program} {m : Nat} {post : AX → St → Prop} {ks : List Kf} {σ : St} {x y : AC}, condS P m (V.im (T.val (Value.bool true))) x y ks post σ = awpS P m x ks post σ) ∧
  (∀ {P : Program} {m : Nat} {post : AX → St → Prop} {ks : List Kf} {σ : St} {x y : AC}, condS P m (V.im (T.val (Value.bool false))) x y ks post σ = awpS P m y ks post σ) ∧
  (∀ {deps : List (List Nat)} {efs : List Ef} {A : Prop}, freeWp false deps efs A = A) ∧
  (∀ {tm : List (Nat × V)} {ob : List (Nat × Ob)} {n N k : Nat}, { tm := tm, ob := ob, next := n, N := N : St }.O k = lo ob k) ∧
  (∀ {tm : List (Nat × V)} {ob : List (Nat × Ob)} {n N t : Nat}, { tm := tm, ob := ob, next := n, N := N : St }.get t = lk tm t) ∧
  (∀ {k t : Nat} {v : V} {l : List (Nat × V)}, lk ((k, v) :: l) t = if k = t then v else lk l t) ∧
  (∀ {t : Nat}, lk [] t = V.dead) ∧
  (∀ {k t : Nat} {o : Ob} {l : List (Nat × Ob)}, lo ((k, o) :: l) t = if k = t then some o else lo l t) ∧
  (∀ {t : Nat}, lo [] t = none) ∧
  (∀ {tm : List (Nat × V)} {ob : List (Nat × Ob)} {n N d : Nat} {v : V} {ups : List (Nat × Ob)}, { tm := tm, ob := ob, next := n, N := N : St }.upd (some d) v ups = { tm := (d, v) :: tm, ob := ups ++ ob, next := n, N := N : St }) ∧
  (∀ {tm : List (Nat × V)} {ob : List (Nat × Ob)} {n N : Nat} {v : V} {ups : List (Nat × Ob)}, { tm := tm, ob := ob, next := n, N := N : St }.upd none v ups = { tm := tm, ob := ups ++ ob, next := n, N := N : St }) ∧
  (∀ {σ : St} {t : Nat}, aev σ (Operand.tmp t) = σ.get t) ∧
  (∀ {σ : St} {v : Value}, aev σ (Operand.const v) = V.im (T.val v)) ∧
  (∀ {σ : St} {f : FuncId}, aev σ (Operand.func f) = V.clo f 0 (fun _ => V.dead) 0 fun _ => V.dead) ∧
  (∀ {σ : St} {fr : Nat} {d : Option Nat} {ao : AOp}, gsem σ fr { dst := d, guard := none, op := ao : RO } = asem σ fr ao) ∧
  (∀ {σ : St} {fr : Nat} {d : Option Nat} {t : Nat} {want : Bool} {ao : AOp}, gsem σ fr { dst := d, guard := some (t, want), op := ao : RO } = guardM (σ.get t) want (asem σ fr ao)) ∧
  (∀ {b want : Bool} {a : AM}, guardM (V.im (T.val (Value.bool b))) want a = AM.ite (b == want) a (AM.done (V.im (T.val undef)) [])) ∧
  (∀ {want : Bool} {a : AM}, guardM (V.im (T.val undef)) want a = AM.done (V.im (T.val undef)) []) :=
  ⟨@awpS_skip, @awpS_ret, @awpS_exit, @awpS_seq, @awpS_block, @awpS_loop, @awpS_cond, @awpS_region, @popS_nil, @popS_seq, @popS_seq_ret, @popS_seq_exit, @popS_block, @popS_block_ret, @popS_block_exit, @regS_nil, @regS_cons, @opS_done, @opS_get, @getS_some, @opS_req, @opS_ite, @iteS_true, @iteS_false, @opS_call, @condS_true, @condS_false, @freeWp_false, @St_O, @St_get, @lk_cons, @lk_nil, @lo_cons', @lo_nil, @upd_some, @upd_none, @aev_tmp, @aev_const, @aev_func, @gsem_none, @gsem_some, @guardM_bool, @guardM_undef⟩
end
section

/-- What a callee that is handed nothing to own is shown. -/
def argP (O : Ow) (vw : List Nat) : V → V → Prop
  | e, .im t' => (match e with
    | .im t => T.le t t'
    | .buf id ver off len => (match O id with
      | some (.arr _ _ size ver' _ f) => ver' = ver ∧ id ∈ vw ∧ T.le (.sl size len fun i j => f (off + i) j) t'
      | _ => False)
    | _ => False)
  | e, .agg n' f' => (match e with
    | .agg n f => n = n' ∧ allLt n fun j => argP O vw (f j) (f' j)
    | _ => False)
  | e, v => e = v ∧ (∀ r, v.ren r = v) ∧ v.lt 0

def argsP (O : Ow) (vw : List Nat) : List V → List V → Prop
  | [], [] => True
  | e :: es, v :: vs => argP O vw e v ∧ argsP O vw es vs
  | _, _ => False

theorem argP_ok {O : Ow} {vw : List Nat} (r : Nat → Nat) : ∀ {v e : V}, argP O vw e v → V.shown O vw r e v ∧ v.lt 0 := by
  intro v
  induction v with
  | im t' =>
    intro e h
    cases e <;> simp only [argP] at h
    · exact ⟨.im _ t' h, trivial⟩
    · split at h
      · rename_i id ver off len _ zz e size ver' n f ho
        obtain ⟨rfl, h2, h3⟩ := h
        exact ⟨.view id ver' off len e size n f t' ho h2 h3, trivial⟩
      · exact h.elim
  | agg n' f' ih =>
    intro e h
    cases e <;> simp only [argP] at h
    rename_i n f
    obtain ⟨rfl, h⟩ := h
    rw [allLt_iff] at h
    exact ⟨.agg n f f' fun j hj => (ih j (h j hj)).1, fun j hj => (ih j (h j hj)).2⟩
  | dead => intro e h; simp only [argP] at h; obtain ⟨rfl, h2, h3⟩ := h; exact ⟨by have := V.shown.same (O := O) (vw := vw) (r := r) V.dead; exact this, h3⟩
  | tup n f _ => intro e h; simp only [argP] at h; obtain ⟨rfl, h2, h3⟩ := h; exact ⟨by have := V.shown.same (O := O) (vw := vw) (r := r) (V.tup n f); rwa [h2] at this, h3⟩
  | buf id ver off len => intro e h; simp only [argP] at h; obtain ⟨rfl, h2, h3⟩ := h; exact ⟨by have := V.shown.same (O := O) (vw := vw) (r := r) (V.buf id ver off len); rwa [h2] at this, h3⟩
  | ptr id ver i j => intro e h; simp only [argP] at h; obtain ⟨rfl, h2, h3⟩ := h; exact ⟨by have := V.shown.same (O := O) (vw := vw) (r := r) (V.ptr id ver i j); rwa [h2] at this, h3⟩
  | elem s n f i j => intro e h; simp only [argP] at h; obtain ⟨rfl, h2, h3⟩ := h; exact ⟨by have := V.shown.same (O := O) (vw := vw) (r := r) (V.elem s n f i j); rwa [h2] at this, h3⟩
  | mp id => intro e h; simp only [argP] at h; obtain ⟨rfl, h2, h3⟩ := h; exact ⟨by have := V.shown.same (O := O) (vw := vw) (r := r) (V.mp id); rwa [h2] at this, h3⟩
  | vsl id len => intro e h; simp only [argP] at h; obtain ⟨rfl, h2, h3⟩ := h; exact ⟨by have := V.shown.same (O := O) (vw := vw) (r := r) (V.vsl id len); rwa [h2] at this, h3⟩
  | ifc t v _ => intro e h; simp only [argP] at h; obtain ⟨rfl, h2, h3⟩ := h; exact ⟨by have := V.shown.same (O := O) (vw := vw) (r := r) (V.ifc t v); rwa [h2] at this, h3⟩
  | clo fn n f m g _ _ => intro e h; simp only [argP] at h; obtain ⟨rfl, h2, h3⟩ := h; exact ⟨by have := V.shown.same (O := O) (vw := vw) (r := r) (V.clo fn n f m g); rwa [h2] at this, h3⟩

theorem argsP_ok {O : Ow} {vw : List Nat} (r : Nat → Nat) : ∀ {es vs : List V}, argsP O vw es vs → vs.length = es.length ∧ (∀ (j : Nat) (e v : V), es[j]? = some e → vs[j]? = some v → V.shown O vw r e v) ∧ ∀ v ∈ vs, v.lt 0
  | [], [], _ => ⟨rfl, fun j e v h => by simp at h, fun v h => by cases h⟩
  | [], _ :: _, h => h.elim
  | _ :: _, [], h => h.elim
  | e :: es, v :: vs, ⟨h1, h2⟩ => by
    obtain ⟨g1, g2, g3⟩ := argsP_ok r h2
    refine ⟨by simp [g1], fun j e' v' he hv => ?_, fun v' hv => ?_⟩
    · cases j with
      | zero =>
        simp only [List.getElem?_cons_zero, Option.some.injEq] at he hv
        subst he hv
        exact (argP_ok r h1).1
      | succ j =>
        simp only [List.getElem?_cons_succ] at he hv
        exact g2 j e' v' he hv
    · rcases List.mem_cons.1 hv with rfl | hv
      · exact (argP_ok r h1).2
      · exact g3 v' hv

/-- Those that are shown are rows. -/
def vwP (O : Ow) (id : Nat) : Prop := match O id with
  | some (.arr ..) => True
  | _ => False

def newUps (fr : Nat) (new : List Ob) : List (Nat × Ob) := new.zipIdx.map fun p => (fr + p.2, p.1.ren fun k => fr + k)
def goneUps (O : Ow) (vw : List Nat) : List (Nat × Ob) := vw.map fun id => (id, shareO (O id))

def V.flatP : V → Prop
  | .agg n f => allLt n fun j => (f j).flatP
  | .tup n f => allLt n fun j => (f j).flatP
  | .ifc _ v => v.flatP
  | v => v.flat
def Ob.flatP : Ob → Prop
  | .var _ s f => allLt s fun j => (f j).flatP
  | .arr zz _ s _ n f => zz ≠ .sh ∧ ∀ i, i < n → allLt s fun j => (f i j).flat
  | .map a s n _ f => allLt n fun j => (mapT a s (f j)).flat
  | .gone _ => True
theorem V.flat_of : ∀ {v : V}, v.flatP → v.flat
  | .agg _ _, h => fun j hj => V.flat_of (allLt_iff.1 h j hj)
  | .tup _ _, h => fun j hj => V.flat_of (allLt_iff.1 h j hj)
  | .ifc _ v, h => V.flat_of (v := v) h
  | .dead, h => h
  | .im _, h => h
  | .buf .., h => h
  | .ptr .., h => h
  | .elem .., h => h
  | .clo .., h => h
  | .mp _, h => h
  | .vsl .., h => h
theorem Ob.flat_of : ∀ {o : Ob}, o.flatP → o.flat
  | .var _ _ _, h => fun j hj => V.flat_of (allLt_iff.1 h j hj)
  | .arr _ _ _ _ _ _, h => ⟨h.1, fun i j hi hj => allLt_iff.1 (h.2 i hi) j hj⟩
  | .map _ _ _ _ _, h => fun j hj => allLt_iff.1 h j hj
  | .gone _, h => h

section
variable {P : Program} {m base : Nat} {post : AX → St → Prop} {ks : List Kf} {σ : St} {rdl : List Nat} {r : RO} {rs : List RO} {i : Nat} {d : Bool} {deps : List (List Nat)} {efs : List Ef}

theorem rn_nil (fr k : Nat) : rn [] fr k = fr + k := by simp [rn]

/-- A call that is handed nothing to own; the shown may be seen in what comes, and are given away. -/
theorem callS_give {f : FuncId} {evs : List V} (args : List V) (vw : List Nat) (new : List Ob) (v : V) (h : FC P f [] args ⟨[], new, v⟩) (ha : argsP σ.O vw evs args) (hv : allP vw (vwP σ.O)) (hn : new.length ≤ 16)
    (k : regS P m base rs (i + 1) (σ.upd r.dst (v.ren fun k => base + 16 * i + k) (newUps (base + 16 * i) new ++ goneUps σ.O vw)) d deps (⟨base + 16 * i, r.rdT ++ (rdl ++ vw).map (fun k => 2 * k + 1), r.dst, v.ren fun k => base + 16 * i + k, newUps (base + 16 * i) new ++ goneUps σ.O vw⟩ :: efs) ks post) :
    callS P m base f evs rdl r rs i σ d deps efs ks post := by
  obtain ⟨g1, g2, g3⟩ := argsP_ok (rn [] (base + 16 * i)) ha
  rw [allP_iff] at hv
  have e1 : rn [] (base + 16 * i) = fun k => base + 16 * i + k := funext fun k => rn_nil _ k
  refine callS_intro ⟨[], vw, false, args, [], ⟨[], new, v⟩⟩ ⟨h, g1, g2, g3, List.nodup_nil, rfl, rfl, fun k o hk => by simp at hk, fun id hid => ⟨by simp, ?_⟩, fun e => (by cases e), hn⟩ ?_
  · have := hv id hid
    unfold vwP at this
    split at this
    · rename_i e size ver n f ho
      exact .inl ⟨_, _, _, _, _, _, ho⟩
    · exact this.elim
  · simp only [CallInfo.ups, List.nil_append, e1]
    exact k

/-- A call that is handed nothing to own; the shown stay. -/
theorem callS_keep {f : FuncId} {evs : List V} (args : List V) (vw : List Nat) (new : List Ob) (v : V) (h : FC P f [] args ⟨[], new, v⟩) (ha : argsP σ.O vw evs args) (hv : allP vw (vwP σ.O)) (hf : vw = [] ∨ (v.flatP ∧ allP new Ob.flatP)) (hn : new.length ≤ 16)
    (k : regS P m base rs (i + 1) (σ.upd r.dst (v.ren fun k => base + 16 * i + k) (newUps (base + 16 * i) new)) d deps (⟨base + 16 * i, r.rdT ++ (rdl ++ vw).map (fun k => 2 * k + 1), r.dst, v.ren fun k => base + 16 * i + k, newUps (base + 16 * i) new⟩ :: efs) ks post) :
    callS P m base f evs rdl r rs i σ d deps efs ks post := by
  rcases hf with rfl | hf
  · exact callS_give args [] new v h ha trivial hn (by simpa [goneUps] using k)
  obtain ⟨g1, g2, g3⟩ := argsP_ok (rn [] (base + 16 * i)) ha
  rw [allP_iff] at hf
  replace hf : v.flat ∧ ∀ o ∈ new, o.flat := ⟨V.flat_of hf.1, fun o ho => Ob.flat_of (hf.2 o ho)⟩
  rw [allP_iff] at hv
  have e1 : rn [] (base + 16 * i) = fun k => base + 16 * i + k := funext fun k => rn_nil _ k
  refine callS_intro ⟨[], vw, true, args, [], ⟨[], new, v⟩⟩ ⟨h, g1, g2, g3, List.nodup_nil, rfl, rfl, fun k o hk => by simp at hk, fun id hid => ⟨by simp, ?_⟩, fun _ => hf, hn⟩ ?_
  · have := hv id hid
    unfold vwP at this
    split at this
    · rename_i e size ver n f ho
      exact .inl ⟨_, _, _, _, _, _, ho⟩
    · exact this.elim
  · simp only [CallInfo.ups, List.nil_append, List.append_nil, if_true, e1]
    exact k

/-- What a loop keeps: some slots and some objects as they stood, and the others as told. -/
def keepSt (σ : St) (kt ko : List Nat) (v : List (Nat × V)) (o : List (Nat × Ob)) : St :=
  { tm := v ++ kt.map fun t => (t, σ.get t), ob := o ++ ko.flatMap fun k => (match σ.O k with | some x => [(k, x)] | none => []), next := σ.next, N := σ.N }
theorem loopS_keep {x : AC} {ι : Type} (kt ko : List Nat) (v : ι → List (Nat × V)) (o : ι → List (Nat × Ob)) (μ : ι → Nat) (i0 : ι) (h0 : WeakP m σ (keepSt σ kt ko (v i0) (o i0)))
    (h : ∀ i, awpS P m x [] (fun e σ' => match e with | .normal => ∃ j, μ j < μ i ∧ WeakP m σ' (keepSt σ kt ko (v j) (o j)) | e => popS P m e ks post σ') (keepSt σ kt ko (v i) (o i))) : loopS P m x ks post σ :=
  loopS_intro (fun i => keepSt σ kt ko (v i) (o i)) μ i0 h0 h
/-- What a function gives, at its end. -/
theorem endWp_intro {m : Nat} {rs : List RVx} {r : Ret} {σ : St} (nl : List Nat) {v : V} (h : resV σ rs = some v) (g : Gives m nl σ v r) : endWp m rs r σ := ⟨v, nl, h, g⟩
/-- .. a value that names nothing. -/
theorem endWp_pure {rs : List RVx} {v' : V} {σ : St} {v : V} (h : resV σ rs = some v) (g : VW (mu 0 []) σ.O (lol []) v v') : endWp 0 rs ⟨[], [], v'⟩ σ :=
  ⟨v, [], h, rfl, rfl, List.nodup_nil, trivial, trivial, g⟩

theorem condS_dec {p : Prop} [Decidable p] {x y : AC} (h1 : p → awpS P m x ks post σ) (h2 : ¬ p → awpS P m y ks post σ) : condS P m (.im (.val (.bool (decide p)))) x y ks post σ := ⟨fun h => h1 (of_decide_eq_true h), fun h => h2 (of_decide_eq_false h)⟩
theorem condS_beq {a b : Int} {x y : AC} (h1 : a = b → awpS P m x ks post σ) (h2 : ¬ a = b → awpS P m y ks post σ) : condS P m (.im (.val (.bool (a == b)))) x y ks post σ := ⟨fun h => h1 (by simpa using h), fun h => h2 (by simpa using h)⟩
theorem condS_bne {a b : Int} {x y : AC} (h1 : ¬ a = b → awpS P m x ks post σ) (h2 : a = b → awpS P m y ks post σ) : condS P m (.im (.val (.bool (a != b)))) x y ks post σ := ⟨fun h => h1 (by simpa using h), fun h => h2 (by simpa using h)⟩
end

theorem T.le_val {a b : Value} (h : a = b) : T.le (.val a) (.val b) := T.le_of_eq (by rw [h])
theorem T.le_int {k : IntKind} {a b : Int} (h : a = b) : T.le (.val (.int k a)) (.val (.int k b)) := T.le_of_eq (by rw [h])
theorem T.le_nil {size : Nat} {f : Nat → Nat → T} : T.le (.val (.slice none 0 0)) (.sl size 0 f) = True :=
  eq_true fun _ _ _ h => ⟨none, 0, h, Nat.le_refl _, fun _ _ hi => absurd hi (Nat.not_lt_zero _)⟩
theorem T.le_sl1 {n : Nat} {f g : Nat → Nat → T} (h : ∀ i, i < n → T.le (f i 0) (g i 0)) : T.le (.sl 1 n f) (.sl 1 n g) :=
  T.le_sl fun i j hi hj => by obtain rfl : j = 0 := by omega
                              exact h i hi
theorem T.le_self (t : T) : T.le t t = True := eq_true (T.le_refl t)
end
end Go.Proofs.Ytahamggipcikgaa
