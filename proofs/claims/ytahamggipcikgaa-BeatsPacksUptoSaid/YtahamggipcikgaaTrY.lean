/-
  A law that a contract meets: whatever came in, true, and all that was there as it was.
-/
import Derived.Test.YtahamggipcikgaaTrX
import Derived.Test.YtahamggipcikgaaLaw
import Derived.WideShapes
namespace Go.Proofs.Ytahamggipcikgaa
open Go.ChangeShapes Go.WideShapes Go.ChangeAt Go.RowKit

/-- The variables that are never written hold what they hold. -/
def GlW (W : World) : Prop := (∀ p ∈ gtab, ∀ (k : Nat) (v : Value), p.2[k]? = some v → W.cell? ⟨p.1, k, none⟩ = some v) ∧ ∀ p ∈ gptr, ∃ a, W.cell? ⟨p.1, 0, none⟩ = some (.iface p.2 (.pointer (some a)))
theorem GlW.glb {W : World} (h : GlW W) : Glb (fun b _ => b < W.heap.size) (fun _ => none) (lol []) W := by
  refine ⟨fun p hp k n hn => ⟨⟨World.block_lt_of_cell? W _ (h.1 p hp k n hn), fun ⟨id, o, ho, _⟩ => by simp [lol] at ho⟩, h.1 p hp k n hn⟩, fun p hp => ?_⟩
  obtain ⟨a, ha⟩ := h.2 p hp
  exact ⟨a, ⟨World.block_lt_of_cell? W _ ha, fun ⟨id, o, ho, _⟩ => by simp [lol] at ho⟩, ha⟩
theorem yes_of_fc {P : Program} {f : FuncId} {args : List V} (h : FC P f [] args ⟨[], [], .im (.val (.bool true))⟩) (W : World) (hgl : GlW W) (vs : Array Value) (hs : vs.size = args.length)
    (hv : ∀ (j : Nat) (v : V), args[j]? = some v → v.rel (fun b _ => b < W.heap.size) (fun _ => none) (lol []) W (vs.getD j undef)) : Calls P f vs W (Yes W) := by
  refine (h.2 (fun b _ => b < W.heap.size) (fun _ => none) W vs hgl.glb (fun k o hk => by simp [lol] at hk) (fun k o g hk => by simp [lol] at hk) (fun k k' o o' g hk => by simp [lol] at hk) hs hv).mono ?_
  rintro e w' ⟨ρ', x, rfl, _, hx, _, _, _, hE, hz, h1, h2, h3⟩
  refine ⟨by cases hx; rfl, ⟨h1, h2, h3, hz, fun k hk => (hE.keep k hk ?_).1⟩⟩
  rintro ⟨id, o, ho, _⟩
  simp [lol] at ho

theorem argP_rel {ok : Nat → Nat → Prop} {ρ : Pl} {O : Ow} {w : World} (hO : ∀ k, O k = none) : ∀ {v e : V} {x : Value}, argP O [] e v → e.rel ok ρ O w x → v.rel ok ρ O w x := by
  intro v
  induction v with
  | im t' =>
    intro e x h hr
    cases e <;> simp only [argP] at h
    · exact h _ _ _ hr
    · rw [hO] at h; exact h.elim
  | agg n' f' ih =>
    intro e x h hr
    cases e <;> simp only [argP] at h
    obtain ⟨rfl, h⟩ := h
    rw [allLt_iff] at h
    obtain ⟨cs, rfl, h1, h2⟩ := hr
    exact ⟨cs, rfl, h1, fun j hj => ⟨(h2 j hj).1, ih j (h j hj) (h2 j hj).2⟩⟩
  | dead => intro e x h hr; exact trivial
  | tup n f _ => intro e x h hr; simp only [argP] at h; obtain ⟨rfl, _⟩ := h; exact hr
  | buf id ver off len => intro e x h hr; simp only [argP] at h; obtain ⟨rfl, _⟩ := h; exact hr
  | ptr id ver i j => intro e x h hr; simp only [argP] at h; obtain ⟨rfl, _⟩ := h; exact hr
  | elem s n f i j => intro e x h hr; simp only [argP] at h; obtain ⟨rfl, _⟩ := h; exact hr
  | mp id => intro e x h hr; simp only [argP] at h; obtain ⟨rfl, _⟩ := h; exact hr
  | vsl id len => intro e x h hr; simp only [argP] at h; obtain ⟨rfl, _⟩ := h; exact hr
  | ifc t v _ => intro e x h hr; simp only [argP] at h; obtain ⟨rfl, _⟩ := h; exact hr
  | clo fn n f m g _ _ => intro e x h hr; simp only [argP] at h; obtain ⟨rfl, _⟩ := h; exact hr
theorem argsP_get {O : Ow} : ∀ {es vs : List V} {j : Nat} {v : V}, argsP O [] es vs → vs[j]? = some v → es.length = vs.length ∧ ∃ e, es[j]? = some e ∧ argP O [] e v
  | [], [], _, _, _, h => by simp at h
  | [], _ :: _, _, _, h, _ => h.elim
  | _ :: _, [], _, _, h, _ => h.elim
  | e :: es, v :: vs, 0, u, h, hv => by
    simp only [List.getElem?_cons_zero, Option.some.injEq] at hv
    subst hv
    refine ⟨?_, e, rfl, h.1⟩
    have : ∀ {es vs : List V}, argsP O [] es vs → es.length = vs.length := by
      intro es
      induction es with
      | nil => intro vs h; cases vs with | nil => rfl | cons _ _ => exact h.elim
      | cons a l ih => intro vs h; cases vs with | nil => exact h.elim | cons b r => simp [ih h.2]
    simpa using this h.2
  | e :: es, v :: vs, j + 1, u, h, hv => by
    obtain ⟨h1, x, h2, h3⟩ := argsP_get (j := j) h.2 (by simpa using hv)
    exact ⟨by simpa using h1, x, by simpa using h2, h3⟩
theorem argsP_len {O : Ow} : ∀ {es vs : List V}, argsP O [] es vs → es.length = vs.length
  | [], [], _ => rfl
  | [], _ :: _, h => h.elim
  | _ :: _, [], h => h.elim
  | _ :: _, _ :: _, h => by simp [argsP_len h.2]
/-- A contract of trees that say less. -/
theorem fc_args {P : Program} {f : FuncId} {es vs : List V} {r : Ret} (h : FC P f [] vs r) (ha : argsP (lol []) [] es vs) : FC P f [] es r :=
  ⟨h.1, fun ok ρ w xs hg h1 h2 h3 h4 h5 => h.2 ok ρ w xs hg h1 h2 h3 (h4.trans (argsP_len ha)) fun j v hj => by
    obtain ⟨_, e, e1, e2⟩ := argsP_get ha hj
    exact argP_rel (fun k => by simp [lol]) e2 (h5 j e e1)⟩

def Ty.arg : Ty → List T → V
  | .st f, ts => .agg f.size fun j => .im (ts.getD j (.val undef))
  | _, ts => .im (ts.getD 0 (.val undef))

def Ty.alls : List Ty → (List V → Prop) → Prop
  | [], K => K []
  | ty :: l, K => ty.all fun ts => Ty.alls l fun xs => K (ty.arg ts :: xs)

section
variable {H : Type} {enc : TypeId × Value → H} {P : Program} {W : World} {b0 : Nat}

theorem im_rel {b : Nat → Nat → Prop} {ρ : Pl} {O : Ow} (hO : ∀ k, O k = none) {t : T} {x : Value} (h : t.rel b W x) : (V.im t).rel b ρ O W x := by
  have : okb b ρ O = b := funext fun g => funext fun q => propext ⟨fun h => h.1, fun h => ⟨h, fun ⟨id, o, ho, _⟩ => by rw [hO] at ho; cases ho⟩⟩
  show t.rel (okb b ρ O) W x
  rw [this]; exact h

theorem arg_rel {b : Nat → Nat → Prop} {ρ : Pl} {O : Ow} (hO : ∀ k, O k = none) {ty : Ty} {t : TypeId} {ts : List T} {v : Value} (hc : ty.chk P (.inl t) = true) (hv : Value.okWide P W .any b0 t v) (h : ty.has ts) (hr : Cells b W ts v.cells.toList) :
    (ty.arg ts).rel b ρ O W v := by
  have one : v.cells = #[v] → 0 < ts.length → (V.im (ts.getD 0 (.val undef))).rel b ρ O W v := fun e hl => by
    rw [e] at hr
    exact im_rel hO (hr.2 0 hl).2
  have hl := Ty.has_len h
  cases ty with
  | bool =>
    simp only [Ty.chk] at hc
    split at hc
    · rename_i hu
      obtain ⟨z, rfl⟩ := okWide_bool hu hv
      exact one rfl (by rw [hl]; exact Nat.one_pos)
    · cases hc
  | str =>
    simp only [Ty.chk] at hc
    split at hc
    · rename_i hu
      obtain ⟨z, rfl⟩ := okWide_string hu hv
      exact one rfl (by rw [hl]; exact Nat.one_pos)
    · cases hc
  | txt => exact absurd (show false = true from hc) Bool.false_ne_true
  | int k =>
    simp only [Ty.chk] at hc
    split at hc
    · rename_i k' hu
      obtain ⟨z, rfl⟩ := okWide_int hu hv
      exact one rfl (by rw [hl]; exact Nat.one_pos)
    · cases hc
  | sl n e =>
    simp only [Ty.chk] at hc
    split at hc
    · rename_i u hu
      obtain ⟨a, m, c, rfl⟩ := okWide_slice hu hv
      exact one rfl (by rw [hl]; exact Nat.one_pos)
    · cases hc
  | unit => cases (show false = true from hc)
  | pair a c => cases (show false = true from hc)
  | st f =>
    simp only [Ty.chk] at hc
    split at hc
    · rename_i fs hu
      obtain ⟨cs, rfl, hz⟩ := okWide_struct hu hv
      simp only [Bool.and_eq_true, beq_iff_eq] at hc
      have hl' : ts.length = f.size := hl
      refine ⟨cs, rfl, hz.trans hc.1, fun j hj => ?_⟩
      have := hr.2 j (by rw [hl']; exact hj)
      have e : (Value.agg cs).cells.toList.getD j undef = cs.getD j undef := by
        simp [Value.cells, List.getD_eq_getElem?_getD, Array.getD_eq_getD_getElem?]
      rw [e] at this
      exact ⟨this.1, im_rel hO this.2⟩
    · cases hc

theorem alls_of {f : FuncId} {r : Ret} : ∀ {tys : List Ty} {pre : List V} {ts : List TypeId} {vs : List Value} {ds : List (DataW H)} {ps : List MemPlace},
    Ty.alls tys (fun xs => FC P f [] (pre ++ xs) r) → tys.length = ts.length → (∀ (j : Nat) (ty : Ty) (t : TypeId), tys[j]? = some ty → ts[j]? = some t → ty.chk P (.inl t) = true) →
    (∀ (j : Nat) t v, ts[j]? = some t → vs[j]? = some v → Value.okWide P W .any b0 t v) → (∀ n ∈ DataW.weightsEach P ts ds, n ≤ reachBytes) →
    DataW.TrodAll enc P W 0 (fun _ => true) true ts vs ds ps →
    ∃ xs : List V, FC P f [] (pre ++ xs) r ∧ xs.length = vs.length ∧ ∀ (j : Nat) (a : V) (v : Value), xs[j]? = some a → vs[j]? = some v → a.rel (fun b _ => b < W.heap.size) (fun _ => none) (lol []) W v
  | [], pre, [], vs, ds, ps, h, _, _, _, _, hA => by
    obtain ⟨rfl, rfl, rfl⟩ := trodAll_nil hA
    exact ⟨[], h, rfl, fun j a v ha => by simp at ha⟩
  | [], _, _ :: _, _, _, _, _, hl, _, _, _, _ => by simp at hl
  | _ :: _, _, [], _, _, _, _, hl, _, _, _, _ => by simp at hl
  | ty :: tys, pre, t :: ts, vs, ds, ps, h, hl, hc, hv, hw, hA => by
    obtain ⟨v, vs1, d, ds1, p, q, rfl, rfl, rfl, h1, h2⟩ := trodAll_cons hA
    obtain ⟨fuel, hf⟩ := h1
    have hc0 := hc 0 ty t rfl rfl
    simp only [DataW.weightsEach, List.mem_append] at hw
    obtain ⟨us, u1, u2⟩ := trod_has.1 hc0 (fun n hn => hw n (.inl hn)) hf
    have h' := Ty.all_of (ty := ty) (K := fun us => Ty.alls tys fun xs => FC P f [] (pre ++ ty.arg us :: xs) r) h u1
    obtain ⟨xs, a1, a2, a3⟩ := alls_of (pre := pre ++ [ty.arg us]) (ts := ts) (vs := vs1) (ds := ds1) (by simpa using h') (by simpa using hl) (fun j ty' t' e1 e2 => hc (j + 1) ty' t' (by simpa using e1) (by simpa using e2))
      (fun j t' v' e1 e2 => hv (j + 1) t' v' (by simpa using e1) (by simpa using e2)) (fun n hn => hw n (.inr hn)) h2
    refine ⟨ty.arg us :: xs, by simpa using a1, by simp [a2], fun j a v' ha hv' => ?_⟩
    cases j with
    | zero =>
      simp at ha hv'
      subst ha hv'
      exact arg_rel (fun _ => rfl) hc0 (hv 0 t v rfl rfl) u1 u2
    | succ j => exact a3 j a v' (by simpa using ha) (by simpa using hv')

/-- A law. -/
theorem law_lifted {C : Checked} (hown : ownKnob C.prog.godebug = none) (hlo : laidOutB C.prog = true) {os : Os} (started : os.Started) {f : FuncId} {fn : Func} {s : ChangeSpec} {conds : List PathCond} {apart fresh handsOn again : Bool} {tb : TypeId}
    (noInit : C.prog.inits.idxOf? f = none) (hfn : C.prog.funcs[f]? = some fn)
    (witness : ∃ (w : World) (tape : Tape) (i : Input), w.os = os ∧ (w.forCall tape i).Shaped C.prog ∧ i.vars = [] ∧ Input.okWide C.prog (w.forCall tape i) .any w.heap.size f i ∧
      s.pre6 enc C.prog fn conds apart (w.forCall tape i).memory i.args ∧ ({} : Assume).holds C.prog (lone (Frame.enter C.prog f i.args .normal) [] (w.forCall tape i)))
    (hvars : s.vars = []) (hr : fn.resultTypes = #[tb]) (htb : C.prog.underlying tb = some .bool)
    (hp : ∀ t ∈ fn.params.toList, C.prog.readableRec t = true ∧ t < C.prog.types.size)
    (hfnl : ∀ l : List (DataW H), l.length = fn.params.toList.length → s.fn H l = { results := [.lit (.bool true)], args := l })
    (tys : List Ty) (hlen : tys.length = fn.params.size) (hc : (tys.zip fn.params.toList).all (fun p => p.1.chk C.prog (.inl p.2)) = true)
    (h : Ty.alls tys fun xs => FC C.prog f [] xs ⟨[], [], .im (.val (.bool true))⟩) (hgt : gtab = [] ∧ gptr = [] := by exact ⟨rfl, rfl⟩) :
    ReturnsInHanded {} C os f .any (s.pre6 enc C.prog fn conds apart) (s.post enc C.prog fn apart fresh handsOn again) := by
  refine returnsInHanded_of_change_sized hown started noInit hfn witness ?_
  intro W base args ds gs before hval hW _ hsz _
  have hW' := hW
  obtain ⟨p, q, hA, hV, rfl, _, _⟩ := hW
  have hg : gs = [] := by rw [hvars] at hV; exact (trodVars_none hV).1
  subst hg
  have hw : ∀ n ∈ DataW.weightsEach C.prog fn.params.toList ds, n ≤ reachBytes := by
    intro n hn
    have hv0 : s.plain.varTypes C.prog = [] := by simp [ChangeSpec.plain, DataSpec.varTypes, hvars]
    rw [hv0] at hsz
    simp only [List.append_nil] at hsz
    simpa using List.all_eq_true.1 hsz n hn
  obtain ⟨xs, a1, a2, a3⟩ := alls_of (b0 := base) (pre := []) (by simpa using h) (by simpa using hlen) (fun j ty t e1 e2 => by
      refine List.all_eq_true.1 hc (ty, t) ?_
      rw [List.mem_iff_getElem?]
      exact ⟨j, by rw [List.getElem?_zip_eq_some]; exact ⟨e1, e2⟩⟩)
    (fun j t v e1 e2 => hval j t v (by simpa using e1) (by simpa using e2)) hw hA
  refine (yes_of_fc (by simpa using a1) W ⟨fun p hp => (by rw [hgt.1] at hp; cases hp), fun p hp => (by rw [hgt.2] at hp; cases hp)⟩ args (by simpa using a2.symm) fun j v hj => ?_).mono fun e W' ⟨he, hb⟩ => ⟨_, he, ?_⟩
  · have hj' : j < args.size := by
      have := (List.getElem?_eq_some_iff.1 hj).1
      simpa [a2] using this
    have := a3 j v args[j] hj (by simp [hj'])
    simpa [Array.getD_eq_getD_getElem?, hj'] using this
  · exact post_true hlo hvars hr htb hp hfnl hW' hb
end
end Go.Proofs.Ytahamggipcikgaa
