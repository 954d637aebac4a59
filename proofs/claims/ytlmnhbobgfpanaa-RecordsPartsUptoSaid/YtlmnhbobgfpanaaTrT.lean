/-
  A function's contract out of its body.
-/
import Derived.Test.YtlmnhbobgfpanaaTrS
namespace Go.Proofs.Ytlmnhbobgfpanaa
open Go.RowKit

inductive RVx where
  | tmp (t : Nat)
  | cell (p : Nat) (g : Bool) (sz : Nat)

def compRes (P : Program) : List ResultVar → Option (List RVx)
  | [] => some []
  | .tmp t :: rs => (compRes P rs).map (.tmp t :: ·)
  | .cell p ty :: rs => match aggT P ty, P.info? ty with
    | some true, some i => (compRes P rs).map (.cell p true i.size :: ·)
    | some false, some _ => (compRes P rs).map (.cell p false 1 :: ·)
    | _, _ => none

def rvV (σ : St) : RVx → Option V
  | .tmp t => some (σ.get t)
  | .cell p g sz => match σ.get p with
    | .ptr id 0 0 0 => match σ.O id with
      | some (.var _ s f) => if sz ≤ s then some (if g then .agg sz f else f 0) else none
      | _ => none
    | _ => none

def rvVs (σ : St) : List RVx → Option (List V)
  | [] => some []
  | x :: l => match rvV σ x, rvVs σ l with
    | some v, some vs => some (v :: vs)
    | _, _ => none

def resV (σ : St) (l : List RVx) : Option V :=
  match rvVs σ l with
  | some [v] => some v
  | some vs => some (.tup vs.length (lf vs))
  | none => none

def mu (m : Nat) (nl : List Nat) (k : Nat) : Nat := if k < m then k else nl.getD (k - m) 0

def Gives (m : Nat) (nl : List Nat) (σ : St) (v : V) (r : Ret) : Prop :=
  nl.length = r.new.length ∧ r.os.length = m ∧ nl.Nodup ∧ (allP nl fun k => m ≤ k) ∧
  (allP (r.os ++ r.new).zipIdx fun p => match σ.O (mu m nl p.2) with
    | some o => OW (mu m nl) σ.O (lol (r.os ++ r.new)) o p.1 ∧ (p.2 < m → p.1.ver = o.ver)
    | none => m ≤ p.2 ∧ match p.1 with
      | .arr _ _ _ _ n _ => n = 0
      | _ => False) ∧
  VW (mu m nl) σ.O (lol (r.os ++ r.new)) v r.v

def st0 (os : List Ob) (args : List V) (N : Nat) : St :=
  { tm := args.zipIdx.map (fun p => (p.2, p.1)) ++ ((List.range (N - args.length)).map fun j => (args.length + j, V.im (.val undef))), ob := os.zipIdx.map fun p => (p.2, p.1), next := os.length, N := N }

section
variable {P : Program} {E : Env} {ρ ρ' ρc : Pl} {O O' Oc : Ow} {σ σ' : St} {a : Act} {w w' : World} {N m : Nat} {μ : Nat → Nat} {b : Sees}

def rvRun (tmps : Array Value) : ResultVar → Sem Value
  | .tmp t => pure (tmps.getD t undef)
  | .cell p t => do loadVar t (← asAddr (tmps.getD p undef))
theorem results_eq (fn : Func) (tmps : Array Value) : results fn tmps = fn.results.mapM (rvRun tmps) >>= fun vs => pure (if h : vs.size = 1 then vs[0] else .tuple vs) := rfl

theorem rv_run {x : ResultVar} {rx : RVx} (hc : compRes P [x] = some [rx]) (h : Rel E ρ σ a w) {v : V} (hv : rvV σ rx = some v) :
    ∃ y, (rvRun a.tmps x).run P w = .ok y w ∧ v.rel E.b ρ σ.O w y := by
  cases x with
  | tmp t =>
    simp only [compRes, Option.map_some, Option.some.injEq, List.cons.injEq, and_true] at hc
    subst hc
    simp only [rvV, Option.some.injEq] at hv
    subst hv
    exact ⟨_, rfl, h.tm t⟩
  | cell p ty =>
    have key : ∃ g sz, rx = .cell p g sz ∧ ∀ q f, (∀ j, j < sz → w.cell? ((⟨q, 0, none⟩ : Addr).add j) = some (f j)) → (loadVar ty ⟨q, 0, none⟩).run P w = .ok (if g then .agg ((List.range sz).map f).toArray else f 0) w ∧ (g = false → sz = 1) := by
      simp only [compRes] at hc
      split at hc <;> simp only [Option.map_some, Option.some.injEq, List.cons.injEq, and_true, reduceCtorEq] at hc
      · rename_i i h1 h2
        exact ⟨_, _, hc.symm, fun q f hf => ⟨run_loadVar_agg h1 h2 _ f hf, fun e => by cases e⟩⟩
      · rename_i i h1 h2
        refine ⟨_, _, hc.symm, fun q f hf => ⟨run_loadVar_one h1 _ ?_, fun _ => rfl⟩⟩
        exact hf 0 (by omega)
    obtain ⟨g, sz, rfl, key⟩ := key
    have hp := h.tm p
    simp only [rvV] at hv
    split at hv <;> try (simp at hv; done)
    rename_i id e
    rw [e] at hp
    split at hv <;> try (simp at hv; done)
    rename_i el s f ho
    split at hv <;> simp only [Option.some.injEq, reduceCtorEq] at hv
    rename_i hsz
    obtain ⟨pa, ob, e1, e2, e3, e4⟩ := hp
    rw [ho] at e2; cases e2
    obtain ⟨q, hq, rfl⟩ := e4 rfl rfl
    obtain ⟨q', cs, p1, p2, p3, p4⟩ := h.ob id _ ho
    rw [hq] at p1; cases p1
    have hcell : ∀ j, j < sz → w.cell? ((⟨q, 0, none⟩ : Addr).add j) = some (cs.getD j undef) := fun j hj => by
      rw [add_mk, cell_of_row w q _ cs el (0, 0) p2, Nat.zero_add]
      exact getD_some (by omega)
    obtain ⟨k1, k2⟩ := key q _ hcell
    have e1' : a.tmps.getD p undef = .pointer (some ⟨q, 0, none⟩) := by rw [e1]; simp
    refine ⟨if g then .agg ((List.range sz).map fun j => cs.getD j undef).toArray else cs.getD 0 undef, ?_, ?_⟩
    · simp only [rvRun, e1', asAddr, Sem.run_bind, Sem.run_pure, Result.andThen]
      exact k1
    · subst hv
      cases g with
      | true => exact ⟨_, rfl, by simp, fun j hj => by rw [getD_range _ _ _ hj]; exact p4 j (by omega)⟩
      | false => have := k2 rfl; subst this; exact (p4 0 (by omega)).2

theorem compRes_cons {x : ResultVar} {xs : List ResultVar} {rs : List RVx} (h : compRes P (x :: xs) = some rs) : ∃ r rs', rs = r :: rs' ∧ compRes P [x] = some [r] ∧ compRes P xs = some rs' := by
  cases x with
  | tmp t =>
    simp only [compRes, Option.map_eq_some_iff] at h
    obtain ⟨rs', h1, rfl⟩ := h
    exact ⟨_, rs', rfl, rfl, h1⟩
  | cell p ty =>
    simp only [compRes] at h ⊢
    split at h <;> simp only [Option.map_eq_some_iff, reduceCtorEq] at h
    · rename_i i h1 h2
      obtain ⟨rs', h3, rfl⟩ := h
      exact ⟨_, rs', rfl, by simp [], h3⟩
    · rename_i i h1 h2
      obtain ⟨rs', h3, rfl⟩ := h
      exact ⟨_, rs', rfl, by simp [], h3⟩

theorem rvs_run (h : Rel E ρ σ a w) : ∀ {xs : List ResultVar} {rs : List RVx} {vs : List V}, compRes P xs = some rs → rvVs σ rs = some vs →
    ∃ ys : List Value, (xs.mapM (rvRun a.tmps)).run P w = .ok ys w ∧ ys.length = vs.length ∧ ∀ (j : Nat) (v : V), vs[j]? = some v → v.rel E.b ρ σ.O w (ys.getD j undef)
  | [], rs, vs, h1, h2 => by
    simp only [compRes, Option.some.injEq] at h1
    subst h1
    simp only [rvVs, Option.some.injEq] at h2
    subst h2
    exact ⟨[], by simp, rfl, fun j v hv => by simp at hv⟩
  | x :: xs, rs, vs, h1, h2 => by
    obtain ⟨r, rs', rfl, h3, h4⟩ := compRes_cons h1
    simp only [rvVs] at h2
    split at h2 <;> simp only [Option.some.injEq, reduceCtorEq] at h2
    rename_i v vs' g1 g2
    subst h2
    obtain ⟨y, k1, k2⟩ := rv_run h3 h g1
    obtain ⟨ys, k3, k4, k5⟩ := rvs_run h h4 g2
    refine ⟨y :: ys, ?_, by simp [k4], fun j v' hv => ?_⟩
    · rw [List.mapM_cons, Sem.run_bind, k1]
      simp only [Result.andThen, Sem.run_bind, k3, Sem.run_pure]
    · cases j with
      | zero =>
        simp only [List.getElem?_cons_zero, Option.some.injEq] at hv
        subst hv
        exact k2
      | succ j =>
        simp only [List.getElem?_cons_succ] at hv
        exact k5 j v' hv

theorem res_run (h : Rel E ρ σ a w) {fn : Func} {rs : List RVx} (hc : compRes P fn.results.toList = some rs) {v : V} (hv : resV σ rs = some v) : ∃ x, (results fn a.tmps).run P w = .ok x w ∧ v.rel E.b ρ σ.O w x := by
  unfold resV at hv
  cases hvs : rvVs σ rs with
  | none => rw [hvs] at hv; cases hv
  | some vs =>
    obtain ⟨ys, k3, k4, k5⟩ := rvs_run h hc hvs
    rw [hvs] at hv
    have hrun : ∀ k : Array Value → Sem Value, (fn.results.mapM (rvRun a.tmps) >>= k).run P w = (k ys.toArray).run P w := fun k => by
      rw [Array.mapM_eq_mapM_toList, ← bind_pure_comp, Sem.run_bind, Sem.run_bind, k3]
      simp only [Result.andThen, Sem.run_pure]
    rw [results_eq, hrun]
    match vs, hv, k4, k5 with
    | [], hv, k4, k5 =>
      have : ys = [] := List.eq_nil_of_length_eq_zero (by simpa using k4)
      subst this
      simp only [Option.some.injEq] at hv
      subst hv
      exact ⟨.tuple #[], rfl, #[], rfl, rfl, fun j hj => by simp at hj⟩
    | [v0], hv, k4, k5 =>
      obtain ⟨y, rfl⟩ : ∃ y, ys = [y] := by
        match ys, k4 with
        | [y], _ => exact ⟨y, rfl⟩
      simp only [Option.some.injEq] at hv
      subst hv
      exact ⟨y, rfl, k5 0 v0 rfl⟩
    | v0 :: v1 :: vs, hv, k4, k5 =>
      have hne : ¬ ys.toArray.size = 1 := by simp [k4]
      simp only [Option.some.injEq] at hv
      subst hv
      refine ⟨.tuple ys.toArray, by rw [dif_neg hne]; rfl, ys.toArray, rfl, by simp [k4], fun j hj => ?_⟩
      have hj' : (v0 :: v1 :: vs)[j]? = some (v0 :: v1 :: vs)[j] := List.getElem?_eq_getElem hj
      have := k5 j _ hj'
      have e : lf (v0 :: v1 :: vs) j = (v0 :: v1 :: vs)[j] := by unfold lf; rw [List.getD_eq_getElem?_getD, hj']; rfl
      rw [e]
      simpa [List.getD] using this

theorem lo_zip0 (os : List Ob) (k : Nat) : lo (os.zipIdx.map fun p => (p.2, p.1)) k = os[k]? := by
  by_cases hk : k < os.length
  · have := lo_zip (fun k => k) (fun o => o) os 0 k (fun i j _ _ _ _ e => e) (Nat.zero_le _) (by omega)
    simpa using this
  · rw [List.getElem?_eq_none (by omega)]
    refine lo_none fun p hp e => ?_
    obtain ⟨q, hq, rfl⟩ := List.mem_map.1 hp
    obtain ⟨i, hi, rfl⟩ := List.getElem_of_mem hq
    simp only [List.length_zipIdx] at hi
    simp at e
    omega
theorem lk_append : ∀ (l l' : List (Nat × V)) (k : Nat), (∀ p ∈ l, p.1 ≠ k) → lk (l ++ l') k = lk l' k
  | [], _, _, _ => rfl
  | (q, v) :: l, l', k, h => by
    simp only [List.cons_append, lk]
    rw [if_neg (h (q, v) (by simp))]
    exact lk_append l l' k fun p hp => h p (by simp [hp])
theorem lk_zip : ∀ (l : List V) (s k : Nat) (l' : List (Nat × V)), s ≤ k → k < s + l.length → lk ((l.zipIdx s).map (fun p => (p.2, p.1)) ++ l') k = l.getD (k - s) .dead
  | [], s, k, _, h1, h2 => by simp at h2; omega
  | v :: l, s, k, l', h1, h2 => by
    simp only [List.zipIdx_cons, List.map_cons, List.cons_append, lk]
    by_cases e : s = k
    · subst e; simp
    · rw [if_neg e, lk_zip l (s + 1) k l' (by omega) (by simp at h2; omega), show k - s = (k - (s + 1)) + 1 by omega]
      simp

theorem ren_id : ∀ v : V, v.ren (fun k => k) = v
  | .dead | .im _ | .buf .. | .ptr .. | .elem .. | .mp _ | .vsl .. => rfl
  | .agg n f => by simp only [V.ren]; congr 1; funext j; exact ren_id (f j)
  | .tup n f => by simp only [V.ren]; congr 1; funext j; exact ren_id (f j)
  | .ifc t v => by simp only [V.ren, ren_id v]
  | .clo fn n f m g => by
    simp only [V.ren]
    congr 1
    · funext j; exact ren_id (f j)
    · funext j; exact ren_id (g j)
theorem oren_id (o : Ob) : o.ren (fun k => k) = o := by
  cases o with
  | var e s f => simp only [Ob.ren]; congr 1; funext j; exact ren_id (f j)
  | _ => rfl

theorem fits_hd {o o1 o3 : Ob} (h : o.fits o1) (k : o1.hd o3) : o.fits o3 := by
  cases o <;> cases o1 <;> cases o3 <;> simp_all [Ob.fits, Ob.hd]

end
end Go.Proofs.Ytlmnhbobgfpanaa
