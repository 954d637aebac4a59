/-
  That the program's operations do what the states say (2): memory.
-/
import Derived.Test.YtlglifgnklngfaaTrD
namespace Go.Proofs.Ytlglifgnklngfaa
open Go.RowKit

section
variable {P : Program} {E : Env} {ρ : Pl} {σ : St} {a : Act} {w : World} {o : Oper} {fr : Nat} {K : Act → World → Prop} {Q : Exit → Act → World → Prop}

theorem add_mk (g k j : Nat) : (⟨g, k, none⟩ : Addr).add j = ⟨g, k + j, none⟩ := by
  unfold Addr.add
  split
  · rename_i h; subst h; rfl
  · rfl
theorem add_add (ad : Addr) (k j : Nat) (h : ad.spot = none) : (ad.add k).add j = ad.add (k + j) := by
  obtain ⟨b, q, s⟩ := ad
  simp only at h
  subst h
  rw [add_mk, add_mk, add_mk, Nat.add_assoc]
theorem spot_of_cell {w : World} {ad : Addr} {u : Value} (h : w.cell? ad = some u) : ad.spot = none := by
  unfold World.cell? at h
  split at h
  · split at h
    · cases h
    · rename_i hs; simpa using hs
  · cases h
/-- The cells of an element: nothing is said of the address itself but through them. -/
theorem cell_add (ad : Addr) (w : World) (k j : Nat) {u u' : Value} (h : w.cell? (ad.add k) = some u) (h' : w.cell? (ad.add (k + j)) = some u') : w.cell? ((ad.add k).add j) = some u' := by
  have hs := spot_of_cell h
  by_cases hk : k = 0
  · subst hk
    have e : ad.add 0 = ad := rfl
    rw [e] at hs ⊢
    rw [Nat.zero_add] at h'
    exact h'
  · by_cases hj : j = 0
    · subst hj; exact h'
    · have : (ad.add k).add j = ad.add (k + j) := by
        simp only [Addr.add, if_neg hk, if_neg hj, if_neg (show k + j ≠ 0 by omega)]
        congr 1
        omega
      rw [this]; exact h'

theorem run_loadVar_agg {t : TypeId} {i : TypeInfo} (h : aggT P t = some true) (hi : P.info? t = some i) (ad : Addr) (g : Nat → Value) (hc : ∀ j, j < i.size → w.cell? (ad.add j) = some (g j)) :
    (loadVar t ad).run P w = .ok (.agg ((List.range i.size).map g).toArray) w := by
  have hl := run_loadCells (P := P) w ad i.size g hc
  unfold aggT at h
  cases hu : P.underlying t with
  | none => rw [hu] at h; cases h
  | some d =>
    rw [hu] at h
    cases d <;> simp only at h <;> first | (simp at h; done) | simp [loadVar, isAgg, run_underlying hu, sizeOf, typeInfo, hi, hl, Result.andThen]
theorem run_loadVar_one {t : TypeId} (h : aggT P t = some false) (ad : Addr) {v : Value} (hc : w.cell? ad = some v) : (loadVar t ad).run P w = .ok v w := by
  unfold aggT at h
  cases hu : P.underlying t with
  | none => rw [hu] at h; cases h
  | some d =>
    rw [hu] at h
    cases d <;> simp only at h <;> first | (simp at h; done) | simp [loadVar, isAgg, run_underlying hu, hc, Result.andThen]

theorem getD_range (f : Nat → Value) (n j : Nat) (h : j < n) : ((List.range n).map f).toArray.getD j undef = f j := by
  simp [h]

theorem getD_some {cs : Array Value} {k : Nat} (h : k < cs.size) : cs[k]? = some (cs.getD k undef) := by
  simp [h]

/-- What a load of so many cells, or of one, gives. -/
theorem load_run {t : TypeId} {x : Operand} {g : Bool} {sz : Nat} (ho : o.op = .load t x) (hc : comp P o = some (.load g sz x)) (ad : Addr) (he : a.eval x = .pointer (some ad)) (f : Nat → Value)
    (hf : ∀ j, j < sz → w.cell? (ad.add j) = some (f j)) : (execOp a.eval o).run P w = .ok (.value (if g then .agg ((List.range sz).map f).toArray else f 0)) w := by
  unfold comp at hc
  rw [ho] at hc
  simp only at hc
  split at hc <;> simp only [Option.some.injEq, AOp.load.injEq, reduceCtorEq] at hc
  · rename_i i h1 h2
    obtain ⟨rfl, rfl, -⟩ := hc
    simp [execOp, ho, Instr.loadAt, Instr.sureAddr, he, run_loadVar_agg h1 h2 ad f hf, Result.andThen]
  · rename_i i h1 h2
    obtain ⟨rfl, rfl, -⟩ := hc
    have h0 := hf 0 (by omega)
    have e : ad.add 0 = ad := rfl
    rw [e] at h0
    simp [execOp, ho, Instr.loadAt, Instr.sureAddr, he, run_loadVar_one h1 ad h0, Result.andThen]

theorem load_ok (h : Rel E ρ σ a w) (hd : ∀ t, o.dst = some t → t < σ.N) (t : TypeId) (x : Operand) (g : Bool) (sz : Nat) (ho : o.op = .load t x) (hc : comp P o = some (.load g sz x)) {rd v ups}
    (k : (asem σ fr (.load g sz x)).wp P σ.O fr fun a b c => a = rd ∧ b = v ∧ c = ups) : Comes' P E (σ.upd o.dst v ups) o a w := by
  have hx := aev_rel h x
  have hsz : g = false → sz = 1 := by
    intro e
    subst e
    unfold comp at hc
    rw [ho] at hc
    simp only at hc
    split at hc <;> simp at hc
    exact hc.symm
  simp only [asem] at k
  split at k
  · rename_i id ver i j e
    rw [e] at hx
    obtain ⟨pa, ob, e1, e2, e3, e4⟩ := hx
    obtain ⟨ob', e2', k⟩ := k
    rw [e2] at e2'
    cases e2'
    have hob := h.ob id ob e2
    cases ob with
    | map => exact k.1.elim
    | gone v => exact k.1.elim
    | var el size f =>
      obtain ⟨⟨rfl, rfl, hj⟩, -, rfl, rfl⟩ := k
      obtain ⟨q, hq, rfl⟩ := e4 rfl rfl
      obtain ⟨q', cs, p1, p2, p3, p4⟩ := hob
      rw [hq] at p1; cases p1
      have hcell : ∀ m, m < sz → w.cell? ((⟨q, 0 * (Ob.var el size f).size + j, none⟩ : Addr).add m) = some (cs.getD (j + m) undef) := by
        intro m hm
        rw [add_mk, cell_of_row w q _ cs el (0, 0) p2, Nat.zero_mul, Nat.zero_add]
        exact getD_some (by omega)
      refine comes_value h hd (load_run ho hc _ e1 _ hcell) ?_
      cases g with
      | true => exact ⟨_, rfl, by simp, fun m hm => by rw [getD_range _ _ _ hm]; exact p4 _ (by omega)⟩
      | false => have := hsz rfl; subst this; exact (p4 j (by omega)).2
    | arr zz el size ver' n f =>
      obtain ⟨⟨rfl, hi, hj⟩, -, rfl, rfl⟩ := k
      obtain ⟨q, hq, rfl⟩ := e4 rfl rfl
      rcases hob with ⟨p1, -⟩ | ⟨q', cs, cap, p1, p2, p3, p4, p5, p6⟩
      · rw [hq] at p1; cases p1
      rw [hq] at p1; cases p1
      have hbnd : ∀ m, j + m < size → i * size + (j + m) < cs.size := by
        intro m hm
        have : (i + 1) * size ≤ cap * size := Nat.mul_le_mul_right _ (by omega)
        rw [Nat.add_mul] at this
        omega
      have hcell : ∀ m, m < sz → w.cell? ((⟨q, i * (Ob.arr zz el size ver' n f).size + j, none⟩ : Addr).add m) = some (cs.getD (i * size + (j + m)) undef) := by
        intro m hm
        rw [add_mk, cell_of_row w q _ cs el (0, 0) p2, Nat.add_assoc]
        exact getD_some (hbnd m (by omega))
      refine comes_value h hd (load_run ho hc _ e1 _ hcell) ?_
      cases g with
      | true => exact ⟨_, rfl, by simp, fun m hm => by rw [getD_range _ _ _ hm]; exact p6 _ _ hi (by omega)⟩
      | false => have := hsz rfl; subst this; exact (p6 i j hi (by omega)).2
  · rename_i size n f i j e
    rw [e] at hx
    obtain ⟨ad, e1, e2, -, e3⟩ := hx
    obtain ⟨⟨hi, hj⟩, -, rfl, rfl⟩ := k
    have hex : ∀ m, ∃ u, m < sz → w.cell? (ad.add (i * size + (j + m))) = some u ∧ u.oneCell' = true ∧ (f i (j + m)).rel (okb E.b ρ σ.O) w u := by
      intro m
      by_cases hm : m < sz
      · obtain ⟨_, u, hu⟩ := e3 (j + m) (by omega)
        exact ⟨u, fun _ => hu⟩
      · exact ⟨undef, fun h => absurd h hm⟩
    obtain ⟨fu, hfu⟩ := Classical.axiomOfChoice hex
    by_cases hz : sz = 0
    · subst hz
      cases g with
      | false => exact absurd (hsz rfl) (by omega)
      | true =>
        refine comes_value h hd (load_run ho hc _ e1 fu (fun m hm => by omega)) ?_
        exact ⟨_, rfl, by simp, fun m hm => by omega⟩
    · have h0 := (hfu 0 (by omega)).1
      have hcell : ∀ m, m < sz → w.cell? ((ad.add (i * size + j)).add m) = some (fu m) := fun m hm => by
        have hm' := (hfu m hm).1
        rw [← Nat.add_assoc] at hm'
        exact cell_add ad w (i * size + j) m h0 hm'
      refine comes_value h hd (load_run ho hc _ e1 _ hcell) ?_
      cases g with
      | true => exact ⟨_, rfl, by simp, fun m hm => by rw [getD_range _ _ _ hm]; exact (hfu m hm).2⟩
      | false => have := hsz rfl; subst this; exact (hfu 0 (by omega)).2.2
  · exact k.1.elim
end
end Go.Proofs.Ytlglifgnklngfaa
