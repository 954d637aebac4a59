/-
  Writing over what is new: nothing is known of a number but its kind. General; nothing of this program.
-/
import Derived.Test.YtlmnhbobgfpanaaDaZ
namespace Go.Proofs.Ytlmnhbobgfpanaa
open Go.RowKit

theorem Nk.one {κ : Nk} {v : Value} (h : κ.has v) : v.oneCell' = true ∧ v.cells = #[v] := by
  cases κ <;> (obtain ⟨n, rfl⟩ := h; exact ⟨rfl, rfl⟩)
theorem Nk.same {κ κ' : Nk} {u v : Value} (h : κ.has u) (h' : κ'.has u) (hv : κ.has v) : κ'.has v := by
  cases κ with
  | int k =>
    obtain ⟨n, rfl⟩ := h
    cases κ' with
    | int k' => obtain ⟨m, e⟩ := h'; cases e; exact hv
    | str => obtain ⟨m, e⟩ := h'; cases e
  | str =>
    obtain ⟨n, rfl⟩ := h
    cases κ' with
    | int k' => obtain ⟨m, e⟩ := h'; cases e
    | str => exact hv
theorem kindAt_lt : ∀ {τ : Tp} {j : Nat} {κ : Nk}, τ.kindAt j = some κ → j < τ.size ∧ ∀ x, cellT τ x j = .anyn κ := by
  intro τ
  induction τ with
  | hv κ0 =>
    intro j κ h
    cases j with
    | zero => cases h; exact ⟨Nat.zero_lt_one, fun _ => rfl⟩
    | succ j => cases h
  | pair a b ih1 ih2 =>
    intro j κ h
    simp only [Tp.kindAt, nblt_iff] at h
    by_cases hj : j < a.size
    · simp only [hj, decide_true, cond_true] at h
      obtain ⟨h1, h2⟩ := ih1 h
      exact ⟨by simp only [Tp.size]; omega, fun x => by simp only [cellT, hj, if_true]; exact h2 _⟩
    · simp only [hj, decide_false, cond_false] at h
      obtain ⟨h1, h2⟩ := ih2 h
      exact ⟨by simp only [Tp.size]; omega, fun x => by simp only [cellT, hj, if_false]; exact h2 _⟩
  | _ => intro j κ h; cases j <;> cases h
theorem kind_has {d : DV} {κ : Nk} (h : d.kind = some κ) {b : Sees} {ρ : Pl} {O : Ow} {w : World} {u : Value} (hu : d.toV.rel b ρ O w u) : κ.has u := by
  unfold DV.kind at h
  split at h
  · cases h; exact hu
  · cases h; exact ⟨_, hu⟩
  · cases h; exact ⟨_, hu⟩
  · cases h

structure Wrote (w w' : World) (g k : Nat) (v : Value) : Prop where
  size : w'.heap.size = w.heap.size
  block : ∀ g', g' ≠ g → w'.heap[g']? = w.heap[g']?
  frozen : ∀ a, w'.frozen? a = w.frozen? a
  cell : ∀ g' k', ¬ (g' = g ∧ k' = k) → w'.cell? ⟨g', k', none⟩ = w.cell? ⟨g', k', none⟩
  at' : w'.cell? ⟨g, k, none⟩ = some v
  rest : w'.os = w.os ∧ w'.tape = w.tape ∧ w'.output = w.output
theorem wrote_setCell {w : World} {g k : Nat} {u v : Value} (h : w.cell? ⟨g, k, none⟩ = some u) : Wrote w (w.setCell ⟨g, k, none⟩ v) g k v := by
  simp only [World.cell?] at h
  split at h <;> try (simp at h; done)
  rename_i cs e ro hg
  simp only [Option.isSome_none, Bool.false_eq_true, if_false] at h
  have hlt := (Array.getElem?_eq_some_iff.1 hg).1
  have hk := (Array.getElem?_eq_some_iff.1 h).1
  have hself : (w.setCell ⟨g, k, none⟩ v).heap[g]? = some (.cells (cs.setIfInBounds k v) e ro) := by
    simp only [World.setCell, Array.getElem?_modify, if_true, hg, Option.map_some]
    simp
  have hoth : ∀ g', g' ≠ g → (w.setCell ⟨g, k, none⟩ v).heap[g']? = w.heap[g']? := fun g' hn => by
    simp only [World.setCell, Array.getElem?_modify, if_neg (Ne.symm hn)]
  refine ⟨by simp [World.setCell], hoth, fun a => ?_, fun g' k' hn => ?_, ?_, rfl, rfl, rfl⟩
  · by_cases ha : a.block = g
    · simp only [World.frozen?, ha, hself, hg]
    · simp only [World.frozen?, hoth _ ha]
  · by_cases ha : g' = g
    · subst ha
      have hk' : k ≠ k' := fun e => hn ⟨rfl, e.symm⟩
      simp only [World.cell?, hself, hg]
      simp [hk']
    · simp only [World.cell?, hoth _ ha]
  · simp only [World.cell?, hself]
    simp [hk]

section
variable {w w' : World} {g k : Nat} {u v : Value} {κ : Nk} {ok : Sees} {md : Bool}
theorem numb_cell (hw : Wrote w w' g k v) (hu : w.cell? ⟨g, k, none⟩ = some u) (hku : κ.has u) (hkv : κ.has v) (hno : ∀ q, Qc.sf md q = true → ¬ ok q g k) : ∀ (τ : Tp) (x : den τ) (j : Nat),
    (τ.numb md = true → ∀ y, (cellT τ x j).rel ok w y → (cellT τ x j).rel ok w' y) ∧ (τ.numI md = true → (∀ y, (cellT τ x j).rel ok w y → (cellT τ x j).rel ok w' y) ∧ ((cellT τ x j).rel ok w u → (cellT τ x j).rel ok w' v)) := by
  have undefNo : ¬ κ.has undef := by cases κ <;> (rintro ⟨n, e⟩; cases e)
  have row : ∀ (q : Qc) (e : Tp) (l : List (den e)), (Qc.sf md q = true → e.numb md = true) → (Qc.sf md q = false → e.numI md = true) →
      (∀ (x : den e) (j : Nat), (e.numb md = true → ∀ y, (cellT e x j).rel ok w y → (cellT e x j).rel ok w' y) ∧ (e.numI md = true → (∀ y, (cellT e x j).rel ok w y → (cellT e x j).rel ok w' y) ∧ ((cellT e x j).rel ok w u → (cellT e x j).rel ok w' v))) →
      ∀ y, (cellT (.sl q e) l 0).rel ok w y → (cellT (.sl q e) l 0).rel ok w' y := by
    rintro q e l h1 h2 ih y ⟨A, c, e1, hn, hf⟩
    refine ⟨A, c, e1, hn, fun i j hi hj => ?_⟩
    obtain ⟨ad, z, a1, a2, a3, a4, a5⟩ := hf i j hi hj
    have hsp := cell_addr a3
    rw [block_add, off_add] at hsp
    obtain ⟨ihb, ihn⟩ := ih (l.getD i (dflt e)) j
    by_cases hat : ad.block = g ∧ ad.off + (i * e.size + j) = k
    · have hq : Qc.sf md q = false := by
        cases hq : Qc.sf md q with
        | false => rfl
        | true =>
          refine (hno q hq ?_).elim
          rw [← hat.1, ← hat.2]
          exact a2.1
      have hz : z = u := by
        rw [hsp, hat.1, hat.2, hu] at a3
        exact (Option.some.inj a3).symm
      subst hz
      refine ⟨ad, v, a1, ⟨a2.1, fun hq' => (hw.frozen _).trans (a2.2 hq')⟩, ?_, (Nk.one hkv).1, (ihn (h2 hq)).2 a5⟩
      rw [hsp, hat.1, hat.2]
      exact hw.at'
    · refine ⟨ad, z, a1, ⟨a2.1, fun hq' => (hw.frozen _).trans (a2.2 hq')⟩, cell_mono a3 (hw.cell _ _ hat), a4, ?_⟩
      cases hq : Qc.sf md q with
      | true => exact ihb (h1 hq) z a5
      | false => exact (ihn (h2 hq)).1 z a5
  have slno : ∀ (q : Qc) (e : Tp) (l : List (den e)), ¬ (cellT (.sl q e) l 0).rel ok w u := by
    rintro q e l ⟨A, c, e1, -⟩
    rw [e1] at hku
    cases κ <;> (obtain ⟨n, e⟩ := hku; cases e)
  intro τ
  induction τ with
  | bool =>
    intro x j
    refine ⟨fun _ y hy => by cases j <;> exact hy, fun _ => ⟨fun y hy => by cases j <;> exact hy, fun hy => ?_⟩⟩
    exfalso
    cases j with
    | zero => have hy' : u = .bool x := hy; rw [hy'] at hku; cases κ <;> (obtain ⟨n, e⟩ := hku; cases e)
    | succ j => have hy' : u = undef := hy; rw [hy'] at hku; exact undefNo hku
  | str => intro x j; exact ⟨fun _ y hy => by cases j <;> exact hy, fun h => nomatch h⟩
  | int q => intro x j; exact ⟨fun _ y hy => by cases j <;> exact hy, fun h => nomatch h⟩
  | unit =>
    intro x j
    refine ⟨fun _ y hy => hy, fun _ => ⟨fun y hy => hy, fun hy => ?_⟩⟩
    have hy' : u = undef := hy
    rw [hy'] at hku
    exact (undefNo hku).elim
  | op e ih =>
    intro x j
    refine ⟨fun _ y hy => by cases j <;> exact hy, fun _ => ⟨fun y hy => by cases j <;> exact hy, fun hy => ?_⟩⟩
    cases j with
    | zero => exact Nk.one hkv
    | succ j => have hy' : u = undef := hy; rw [hy'] at hku; exact (undefNo hku).elim
  | hv κ' =>
    intro x j
    refine ⟨fun _ y hy => by cases j <;> exact hy, fun _ => ⟨fun y hy => by cases j <;> exact hy, fun hy => ?_⟩⟩
    cases j with
    | zero => exact Nk.same hku hy hkv
    | succ j => have hy' : u = undef := hy; rw [hy'] at hku; exact (undefNo hku).elim
  | sl q e ih =>
    intro x j
    cases j with
    | succ j =>
      refine ⟨fun _ y hy => hy, fun _ => ⟨fun y hy => hy, fun hy => ?_⟩⟩
      have hy' : u = undef := hy
      rw [hy'] at hku
      exact (undefNo hku).elim
    | zero =>
      have r := row q e x
      have c1 : (cond (Qc.sf md q) (e.numb md) (e.numI md)) = true → (Qc.sf md q = true → e.numb md = true) ∧ (Qc.sf md q = false → e.numI md = true) := fun h => by
        cases hq : Qc.sf md q with
        | true => rw [hq] at h; exact ⟨fun _ => h, nofun⟩
        | false => rw [hq] at h; exact ⟨nofun, fun _ => h⟩
      refine ⟨fun h => r (c1 h).1 (c1 h).2 ih, fun h => ⟨r (c1 h).1 (c1 h).2 ih, fun hy => (slno q e x hy).elim⟩⟩
  | pair a b ih1 ih2 =>
    intro x j
    simp only [cellT]
    by_cases hj : j < a.size
    · rw [if_pos hj]
      obtain ⟨h1, h2⟩ := ih1 x.1 j
      refine ⟨fun h => h1 ?_, fun h => h2 ?_⟩
      · simp only [Tp.numb, Bool.and_eq_true] at h; exact h.1
      · simp only [Tp.numI, Bool.and_eq_true] at h; exact h.1
    · rw [if_neg hj]
      obtain ⟨h1, h2⟩ := ih2 x.2 (j - a.size)
      refine ⟨fun h => h1 ?_, fun h => h2 ?_⟩
      · simp only [Tp.numb, Bool.and_eq_true] at h; exact h.2
      · simp only [Tp.numI, Bool.and_eq_true] at h; exact h.2
end
section
variable {w w' : World} {g k : Nat} {u v : Value} {κ : Nk} {b : Sees} {ρ : Pl} {O : Ow} {md : Bool}
theorem all_range {n : Nat} {p : Nat → Bool} (h : ((List.range n).all p) = true) {j : Nat} (hj : j < n) : p j = true := List.all_eq_true.1 h j (List.mem_range.2 hj)
theorem numb_rel (hw : Wrote w w' g k v) (hu : w.cell? ⟨g, k, none⟩ = some u) (hku : κ.has u) (hkv : κ.has v) (hno : ∀ q, Qc.sf md q = true → ¬ okb b ρ O q g k) : ∀ (d : DV) {y : Value}, d.numb md = true → d.toV.rel b ρ O w y → d.toV.rel b ρ O w' y := by
  intro d
  induction d with
  | dead => intro y _ _; trivial
  | im τ x => intro y h hy; exact (numb_cell hw hu hku hkv hno τ x 0).1 h y hy
  | raw z => intro y _ hy; exact hy
  | agg n f ih => intro y h ⟨cs, e, h1, h2⟩; exact ⟨cs, e, h1, fun j hj => ⟨(h2 j hj).1, ih j (all_range h hj) (h2 j hj).2⟩⟩
  | tup n f ih => intro y h ⟨cs, e, h1, h2⟩; exact ⟨cs, e, h1, fun j hj => ih j (all_range h hj) (h2 j hj)⟩
  | ptr id ver i j => intro y _ hy; exact hy
  | ifc t z ih => intro y h ⟨z', e, hz⟩; exact ⟨z', e, ih h hz⟩
  | mp id => intro y _ hy; exact hy
  | vsl id len => intro y _ hy; exact hy
  | unk => intro y _ hy; exact hy
  | sd q τ l n =>
    intro y h hy
    have h' : (Qc.sf md q && τ.numb md) = true := h
    simp only [Bool.and_eq_true] at h'
    obtain ⟨A, c, e1, e2, e3⟩ := hy
    refine ⟨A, c, e1, e2, fun i j hi hj => ?_⟩
    obtain ⟨ad, z, a1, a2, a3, a4, a5⟩ := e3 i j hi hj
    have hsp := cell_addr a3
    rw [block_add, off_add] at hsp
    have hat : ¬ (ad.block = g ∧ ad.off + (i * τ.size + j) = k) := fun hat => by
      refine hno q h'.1 ?_
      rw [← hat.1, ← hat.2]
      exact a2.1
    exact ⟨ad, z, a1, ⟨a2.1, fun hq' => (hw.frozen _).trans (a2.2 hq')⟩, cell_mono a3 (hw.cell _ _ hat), a4, (numb_cell hw hu hku hkv hno τ (l.getD i (dflt τ)) j).1 h'.2 z a5⟩
  | glo t ty =>
    rintro y _ ⟨h1, h2, h3⟩
    refine ⟨h1, (hw.cell _ _ ?_).trans h2, h3⟩
    rintro ⟨rfl, rfl⟩
    exact hno .old (by cases md <;> rfl) h1
  | elem q τ l i j =>
    rintro y h ⟨ad, e, hi, hs, hk⟩
    have hb : (Qc.sf md q = true → τ.numb md = true) ∧ (Qc.sf md q = false → τ.numI md = true) := by
      have h' : (cond (Qc.sf md q) (τ.numb md) (τ.numI md)) = true := h
      cases hq : Qc.sf md q with
      | true => rw [hq] at h'; exact ⟨fun _ => h', nofun⟩
      | false => rw [hq] at h'; exact ⟨nofun, fun _ => h'⟩
    refine ⟨ad, e, hi, hs, fun m hm => ?_⟩
    obtain ⟨a2, z, a3, a4, a5⟩ := hk m hm
    have hsp := cell_addr a3
    rw [block_add, off_add] at hsp
    obtain ⟨ihb, ihn⟩ := numb_cell hw hu hku hkv hno τ (l.getD i (dflt τ)) m
    by_cases hat : ad.block = g ∧ ad.off + (i * τ.size + m) = k
    · have hq : Qc.sf md q = false := by
        cases hq : Qc.sf md q with
        | false => rfl
        | true =>
          refine (hno q hq ?_).elim
          rw [← hat.1, ← hat.2]
          exact a2.1
      have hz : z = u := by
        rw [hsp, hat.1, hat.2, hu] at a3
        exact (Option.some.inj a3).symm
      subst hz
      refine ⟨⟨a2.1, fun hq' => (hw.frozen _).trans (a2.2 hq')⟩, v, ?_, (Nk.one hkv).1, (ihn (hb.2 hq)).2 a5⟩
      rw [hsp, hat.1, hat.2]
      exact hw.at'
    · refine ⟨⟨a2.1, fun hq' => (hw.frozen _).trans (a2.2 hq')⟩, z, cell_mono a3 (hw.cell _ _ hat), a4, ?_⟩
      cases hq : Qc.sf md q with
      | true => exact ihb (hb.1 hq) z a5
      | false => exact (ihn (hb.2 hq)).1 z a5
  | _ => intro y h; cases h
end
section
variable {E : Env} {ρ : Pl} {σ : DSt} {a : Act} {w w' : World} {g k m : Nat} {u v : Value} {κ : Nk}
theorem dlk_numb {md : Bool} {l : List (Nat × DV)} (h : (l.all fun p => p.2.numb md) = true) (t : Nat) : (dlk l t).numb md = true := by
  induction l with
  | nil => rfl
  | cons p l ih =>
    obtain ⟨t', d⟩ := p
    simp only [List.all_cons, Bool.and_eq_true] at h
    simp only [dlk]
    cases Nat.beq t' t with
    | true => exact h.1
    | false => exact ih h.2
theorem dlo_numb {md : Bool} {l : List (Nat × DOb)} (h : (l.all fun p => p.2.numb md) = true) {t : Nat} {o : DOb} (ho : dlo l t = some o) : o.numb md = true := by
  induction l with
  | nil => cases ho
  | cons p l ih =>
    obtain ⟨t', d⟩ := p
    simp only [List.all_cons, Bool.and_eq_true] at h
    simp only [dlo] at ho
    cases hb : Nat.beq t' t with
    | true => rw [hb] at ho; cases ho; exact h.1
    | false => rw [hb] at ho; exact ih h.2 ho
theorem rel_up {b b' : Sees} {O : Ow} {w : World} (h : ∀ q g k, g < w.heap.size → okb b ρ O q g k → okb b' ρ O q g k) : ∀ {v : V} {x : Value}, v.rel b ρ O w x → v.rel b' ρ O w x
  | .dead, _, _ => trivial
  | .im _, _, hx => T.rel_ok (.inl h) hx
  | .agg _ _, _, ⟨cs, e, hn, hf⟩ => ⟨cs, e, hn, fun j hj => ⟨(hf j hj).1, rel_up h (hf j hj).2⟩⟩
  | .tup _ _, _, ⟨cs, e, hn, hf⟩ => ⟨cs, e, hn, fun j hj => rel_up h (hf j hj)⟩
  | .buf _ _ _ _, _, hx => hx
  | .ptr _ _ _ _, _, hx => hx
  | .elem _ _ _ _ _ _, _, ⟨ad, e, hi, hs, hk⟩ => ⟨ad, e, hi, hs, fun k hk' => by
      obtain ⟨h1, u, h2, h3, h4⟩ := hk k hk'
      have hlt := World.block_lt_of_cell? w _ h2
      rw [block_add] at hlt
      exact ⟨⟨h _ _ _ hlt h1.1, h1.2⟩, u, h2, h3, T.rel_ok (.inl h) h4⟩⟩
  | .ifc _ _, _, ⟨u, e, hu⟩ => ⟨u, e, rel_up h hu⟩
  | .clo _ _ _ _ _, _, ⟨a, d, e, h1, h2, h3, h4⟩ => ⟨a, d, e, h1, h2, fun j hj => rel_up h (h3 j hj), fun j hj => rel_up h (h4 j hj)⟩
  | .mp _, _, hx => hx
  | .vsl _ _, _, hx => hx
theorem scr_rel (md : Bool) (hE : KE m true E) (h : Rel E ρ σ.st a w) (hn : σ.numb md = true) (hw : Wrote w w' g k v) (hu : w.cell? ⟨g, k, none⟩ = some u) (hku : κ.has u) (hkv : κ.has v) (hok : okb E.b ρ σ.st.O (Qc.wc md) g k) :
    ∃ E', StepZ true E E' ∧ KE m true E' ∧ Rel E' ρ σ.st a w' := by
  obtain ⟨z1, z2, z3, z4⟩ := hE.zn rfl
  have hno : ∀ q, Qc.sf md q = true → ¬ okb E.b ρ σ.st.O q g k := fun q hq hk => ke_apart hE h.le hq hk.1 hok.1
  unfold DSt.numb at hn
  simp only [Bool.and_eq_true] at hn
  obtain ⟨n1, n2⟩ := hn
  have hO : ∀ id, σ.st.O id = (σ.O id).map DOb.toOb := fun id => lo_map σ.ob id
  have hfr : ∀ g, g < w'.heap.size → (E.W.heap.size ≤ g ∨ E.mine g) → (rbE E w').X g := fun g hg hk => ⟨hk.imp id (ke_mine hE), hg⟩
  have hX : ∀ g, (rbE E w').mine g → E.W.heap.size ≤ g ∨ E.X g := fun g hg => hg.elim (fun ⟨id, o, ho, _⟩ => by cases ho) And.left
  have hup : ∀ q g k, g < w'.heap.size → okb E.b ρ σ.st.O q g k → okb (rbE E w').b ρ σ.st.O q g k := fun q g k hg hk => by
    refine ⟨?_, hk.2⟩
    rcases hk.1 with h1 | ⟨h1, h2⟩
    · exact .inl ⟨fun e => by subst e; exact z2 g k h1, h1⟩
    · exact .inr ⟨h1, .inr (.inr (hfr g hg h2))⟩
  have hbs : E.W.heap.size ≤ w'.heap.size := by rw [hw.size]; exact h.bs
  refine ⟨rbE E w', .inr ⟨rfl, hbs, fun g' hg hm hk => ?_, hw.rest.1.trans h.os, hw.rest.2.1.trans h.tape, hw.rest.2.2.trans h.output⟩, ⟨fun _ _ => rfl, fun _ => ⟨fun _ => rfl, fun g k hk => hk.1 rfl, fun g k hk => ?_, fun g k hk => ⟨?_, fun k' hk' => (z4 g k hk.2).2 k' hk'.2⟩⟩⟩, ?_⟩
  · obtain ⟨k1, k2⟩ := h.ext.keep g' hg hm
    refine ⟨(hw.block g' ?_).trans k1, fun hh => ?_, fun k hk' => hk k hk'.2⟩
    · rintro rfl
      cases md with
      | false =>
        rcases ke_new hE hok.1 with h1 | h1
        · omega
        · exact hm (.inr h1)
      | true => exact hk k (ke_mid hE hok.1)
    · rcases hX g' hh with h1 | h1
      · omega
      · exact hm (.inr h1)
  · obtain ⟨h1, h2⟩ := z3 g k hk.2
    exact ⟨Nat.lt_of_lt_of_le h1 hbs, fun hx => hx.1.elim (fun h3 => by omega) h2⟩
  · obtain ⟨h1, h2⟩ := (z4 g k hk.2).1
    exact ⟨Nat.lt_of_lt_of_le h1 hbs, fun hx => hx.1.elim (fun h3 => by omega) h2⟩
  have hmy : ∀ g, own ρ σ.st.O g → (rbE E w').X g := fun g ⟨id, o, h1, h2, h3⟩ => by
    have := h.hi id o g h1 h2 h3
    exact hfr g (by rw [hw.size]; exact this.2) this.1
  refine ⟨fun t => ?_, h.N, fun id o ho => ?_, fun id o g' h1 h2 h3 => ?_, h.inj, h.nx, ?_, Nat.le_refl _, rfl, rfl, rfl, h.df, ?_, ⟨fun q g k hk => ⟨nofun, h.le.1 q g k hk.2⟩, fun q g k hq hk => ⟨nofun, h.le.2 q g k hq hk.2⟩⟩⟩
  · have ht := h.tm t
    rw [show σ.st.get t = (σ.get t).toV from lk_map σ.tm t] at ht ⊢
    exact rel_up hup (numb_rel hw hu hku hkv hno _ (dlk_numb n1 t) ht)
  · have hr := h.ob id o ho
    rw [hO] at ho
    obtain ⟨d, hd, rfl⟩ := Option.map_eq_some_iff.1 ho
    have hdn := dlo_numb n2 hd
    cases d with
    | var e n f =>
      obtain ⟨g', cs, h1, h2, h3, h4⟩ := hr
      refine ⟨g', cs, h1, ?_, h3, fun j hj => ⟨(h4 j hj).1, rel_up hup (numb_rel hw hu hku hkv hno _ (all_range hdn hj) (h4 j hj).2)⟩⟩
      rw [hw.block g' ?_]
      · exact h2
      · rintro rfl
        exact hok.2 ⟨id, (DOb.var e n f).toOb, by rw [hO, hd]; rfl, rfl, h1, Nat.zero_le _⟩
    | gone v => exact trivial
    | arr => cases hdn
    | map => cases hdn
  · have := h.hi id o g' h1 h2 h3
    exact ⟨.inr (.inr (hmy g' ⟨id, o, h1, h2, h3⟩)), by rw [hw.size]; exact this.2⟩
  · exact ⟨fun g hg hm => ⟨rfl, fun ho => hm (.inr (hmy g ho))⟩, fun g k hg hm => ⟨rfl, fun ho => hm (.inr (hmy g (own_of_ownc ho)))⟩, fun id o ho => by cases ho⟩
  · have old : ∀ g' k', okb E.b ρ σ.st.O .old g' k' → w'.cell? ⟨g', k', none⟩ = w.cell? ⟨g', k', none⟩ := fun g' k' hk => hw.cell _ _ (by rintro ⟨rfl, rfl⟩; exact hno .old (by cases md <;> rfl) hk)
    refine ⟨fun p hp q z hz => ?_, fun p hp => ?_⟩
    · obtain ⟨g1, g2⟩ := h.gl.1 p hp q z hz
      exact ⟨hup _ _ _ (by rw [hw.size]; exact World.block_lt_of_cell? w _ g2) g1, (old _ _ g1).trans g2⟩
    · obtain ⟨ad, g1, g2⟩ := h.gl.2 p hp
      exact ⟨ad, hup _ _ _ (by rw [hw.size]; exact World.block_lt_of_cell? w _ g2) g1, (old _ _ g1).trans g2⟩
end
end Go.Proofs.Ytlmnhbobgfpanaa
