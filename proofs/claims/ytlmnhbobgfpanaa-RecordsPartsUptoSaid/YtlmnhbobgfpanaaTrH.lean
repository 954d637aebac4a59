/-
  That the program's operations do what the states say (5): stores, and what is frozen.
-/
import Derived.Test.YtlmnhbobgfpanaaTrG
namespace Go.Proofs.Ytlmnhbobgfpanaa
open Go.RowKit

section
variable {P : Program} {E : Env} {ρ : Pl} {σ : St} {a : Act} {w w' : World} {o : Oper} {fr : Nat} {K : Act → World → Prop} {Q : Exit → Act → World → Prop}

def Frozen (O : Ow) (us : List (Nat × Ob)) : Prop := ∀ p ∈ us, ∃ zz e size ver n f, O p.1 = some (.arr zz e size ver n f) ∧ p.2 = .arr .sh e size ver n f
def Frz (O : Ow) (us : List (Nat × Ob)) (v : V) (t : T) : Prop :=
  (v.okT = true ∧ t = v.asT) ∨ ∃ id ver off len zz e size n f, v = .buf id ver off len ∧ O id = some (.arr zz e size ver n f) ∧ t = .sl .new size len (fun i j => f (off + i) j) ∧ (id, .arr .sh e size ver n f) ∈ us

theorem frz_wp {O : Ow} {v : V} {k : T → List (Nat × Ob) → AM} {R : V → List (Nat × Ob) → Prop} (h : (frz v k).wp P O fr fun _ b c => R b c) :
    ∃ t us, Frz O us v t ∧ Frozen O us ∧ (k t us).wp P O fr fun _ b c => R b c := by
  unfold frz at h
  split at h
  · rename_i id ver off len
    obtain ⟨ob, ho, h⟩ := h
    cases ob with
    | var => exact h.1.elim
    | map => exact h.1.elim
    | gone => exact h.1.elim
    | arr zz e size ver' n f =>
      obtain ⟨rfl, h⟩ := h
      exact ⟨_, _, .inr ⟨id, ver', off, len, zz, e, size, n, f, rfl, ho, rfl, by simp⟩, fun p hp => by simp only [List.mem_singleton] at hp; subst hp; exact ⟨zz, e, size, ver', n, f, ho, rfl⟩, h⟩
  · obtain ⟨h1, h⟩ := h
    exact ⟨_, _, .inl ⟨h1, rfl⟩, fun p hp => (by cases hp), h⟩

theorem Frz.more {O : Ow} {us us' : List (Nat × Ob)} {v : V} {t : T} (h : Frz O us v t) (hs : ∀ p ∈ us, p ∈ us') : Frz O us' v t := by
  rcases h with h | ⟨id, ver, off, len, zz, e, size, n, f, h1, h2, h3, h4⟩
  · exact .inl h
  · exact .inr ⟨id, ver, off, len, zz, e, size, n, f, h1, h2, h3, hs _ h4⟩

theorem frzL_wp {O : Ow} {R : V → List (Nat × Ob) → Prop} : ∀ {vs : List V} {k : List T → List (Nat × Ob) → AM}, (frzL vs k).wp P O fr (fun _ b c => R b c) →
    ∃ ts us, ts.length = vs.length ∧ (∀ (i : Nat) (v : V) (t : T), vs[i]? = some v → ts[i]? = some t → Frz O us v t) ∧ Frozen O us ∧ (k ts us).wp P O fr fun _ b c => R b c
  | [], k, h => ⟨[], [], rfl, fun i v t hv => (by simp at hv), fun p hp => (by cases hp), h⟩
  | v :: vs, k, h => by
    obtain ⟨t, us, h1, h2, h3⟩ := frz_wp h
    obtain ⟨ts, us', g1, g2, g3, g4⟩ := frzL_wp h3
    refine ⟨t :: ts, us ++ us', by simp [g1], fun i v' t' hv ht => ?_, fun p hp => ?_, g4⟩
    · cases i with
      | zero =>
        simp only [List.getElem?_cons_zero, Option.some.injEq] at hv ht
        subst hv ht
        exact h1.more fun p hp => List.mem_append_left _ hp
      | succ i =>
        simp only [List.getElem?_cons_succ] at hv ht
        exact (g2 i v' t' hv ht).more fun p hp => List.mem_append_right _ hp
    · rcases List.mem_append.1 hp with hp | hp
      · exact h2 p hp
      · exact g3 p hp

theorem lo_frozen {O : Ow} {us : List (Nat × Ob)} (h : Frozen O us) (l : List (Nat × Ob)) (id : Nat) :
    (id ∈ us.map (·.1) ∧ ∃ zz e size ver n f, O id = some (.arr zz e size ver n f) ∧ lo (us ++ l) id = some (.arr .sh e size ver n f)) ∨ (id ∉ us.map (·.1) ∧ lo (us ++ l) id = lo l id) := by
  induction us with
  | nil => exact .inr ⟨by simp, rfl⟩
  | cons p us ih =>
    obtain ⟨k, ob⟩ := p
    obtain ⟨zz, e, size, ver, n, f, h1, h2⟩ := h (k, ob) (by simp)
    simp only at h1 h2
    subst h2
    by_cases hk : k = id
    · subst hk
      exact .inl ⟨by simp, zz, e, size, ver, n, f, h1, by simp [lo]⟩
    · rcases ih (fun p hp => h p (by simp [hp])) with ⟨g1, g2⟩ | ⟨g1, g2⟩
      · exact .inl ⟨by simp [g1], by simpa [lo, hk] using g2⟩
      · exact .inr ⟨by simpa [Ne.symm hk] using g1, by simpa [lo, hk] using g2⟩

theorem Rel.freeze (h : Rel E ρ σ a w) {us : List (Nat × Ob)} (hu : Frozen σ.O us) : Rel E ρ { σ with ob := us ++ σ.ob } a w ∧ Ext ρ σ.O w ρ (lo (us ++ σ.ob)) w := by
  have key : ∀ id, id ∈ us.map (·.1) → ∃ zz e size ver n f, σ.O id = some (.arr zz e size ver n f) ∧ lo (us ++ σ.ob) id = some (.arr .sh e size ver n f) := fun id hid => by
    rcases lo_frozen hu σ.ob id with ⟨_, g⟩ | ⟨g, _⟩
    · exact g
    · exact absurd hid g
  refine h.many (σ' := { σ with ob := us ++ σ.ob }) (· ∈ us.map (·.1)) rfl rfl (fun id hid => ?_) (fun _ _ => rfl) (fun g _ _ => rfl) ?_ ?_ ?_ ?_ ?_ ?_ (Nat.le_refl _) rfl rfl rfl
  · rcases lo_frozen hu σ.ob id with ⟨g, _⟩ | ⟨_, g⟩
    · exact absurd g hid
    · exact g
  · intro id o' g hid ho hl _
    obtain ⟨zz, e, size, ver, n, f, h1, h2⟩ := key id hid
    have ho' : lo (us ++ σ.ob) id = some o' := ho
    rw [h2] at ho'; cases ho'; cases hl
  · intro id0 o0 g k hid0 ho0 hl0 hg0 hk0
    refine ⟨rfl, fun id o hid ho hl => ?_⟩
    obtain ⟨zz, e, size, ver, n, f, h1, h2⟩ := key id hid
    have ho' : lo (us ++ σ.ob) id = some o := ho
    rw [h2] at ho'; cases ho'; cases hl
  · intro id id' o o' g hid _ ho _ hl _ _ _
    obtain ⟨zz, e, size, ver, n, f, h1, h2⟩ := key id hid
    have ho' : lo (us ++ σ.ob) id = some o := ho
    rw [h2] at ho'; cases ho'; cases hl
  · intro id o hid ho
    obtain ⟨zz, e, size, ver, n, f, h1, h2⟩ := key id hid
    rw [h1] at ho; cases ho
    exact ⟨_, h2, Nat.le_refl _, fun _ => ⟨rfl, ⟨rfl, rfl, Nat.le_refl _⟩, fun g cs e' _ _ hh => ⟨cs, hh, rfl⟩⟩⟩
  · intro ext id o' hid ho
    obtain ⟨zz, e, size, ver, n, f, h1, h2⟩ := key id hid
    have ho' : lo (us ++ σ.ob) id = some o' := ho
    rw [h2] at ho'; cases ho'
    rcases h.ob id _ h1 with k | ⟨g, cs, cap, e1, e2, e3, e4, e5, e6⟩
    · exact .inl k
    · obtain ⟨hb, hs⟩ := h.seen h1 e1
      refine .inr ⟨g, cs, cap, e1, e2, e3, e4, ⟨e5.1, fun _ => ⟨?_, hb⟩, Room.none nofun⟩, fun i j hi hj => ⟨(e6 i j hi hj).1, T.rel_mono ext.okb (e6 i j hi hj).2⟩⟩
      rintro ⟨id', ob, k1, k2, k3⟩
      rcases lo_frozen hu σ.ob id' with ⟨_, _, _, _, _, _, _, _, g3⟩ | ⟨g1, g2⟩
      · have k1' : lo (us ++ σ.ob) id' = some ob := k1
        rw [g3] at k1'; cases k1'; cases k2
      · obtain ⟨rfl, _⟩ := hs id' ob (g2.symm.trans k1) k2 k3
        exact g1 hid
  · intro id hid
    rcases lo_frozen hu σ.ob id with ⟨_, zz, e, size, ver, n, f, h1, _⟩ | ⟨_, g⟩
    · rw [h.nx id hid] at h1; cases h1
    · exact g.trans (h.nx id hid)

def FrozenG (O : Ow) (us : List (Nat × Ob)) : Prop := ∀ p ∈ us, ∃ e size ver n g, p.2 = .arr .sh e size ver n g ∧
  ((∃ zz, O p.1 = some (.arr zz e size ver n g)) ∨ (ver = 0 ∧ n = 1 ∧ ∃ f, O p.1 = some (.var e size f) ∧ ∀ j, j < size → VLe (f j) (.im (g 0 j))))
theorem lo_frozenG {O : Ow} {us : List (Nat × Ob)} (h : FrozenG O us) (l : List (Nat × Ob)) (id : Nat) :
    (id ∈ us.map (·.1) ∧ ∃ e size ver n g, lo (us ++ l) id = some (.arr .sh e size ver n g) ∧
      ((∃ zz, O id = some (.arr zz e size ver n g)) ∨ (ver = 0 ∧ n = 1 ∧ ∃ f, O id = some (.var e size f) ∧ ∀ j, j < size → VLe (f j) (.im (g 0 j))))) ∨ (id ∉ us.map (·.1) ∧ lo (us ++ l) id = lo l id) := by
  induction us with
  | nil => exact .inr ⟨by simp, rfl⟩
  | cons p us ih =>
    obtain ⟨k, ob⟩ := p
    obtain ⟨e, size, ver, n, g, h2, h1⟩ := h (k, ob) (by simp)
    simp only at h1 h2
    subst h2
    by_cases hk : k = id
    · subst hk
      exact .inl ⟨by simp, e, size, ver, n, g, by simp [lo], h1⟩
    · rcases ih (fun p hp => h p (by simp [hp])) with ⟨g1, g2⟩ | ⟨g1, g2⟩
      · exact .inl ⟨by simp [g1], by simpa [lo, hk] using g2⟩
      · exact .inr ⟨by simpa [Ne.symm hk] using g1, by simpa [lo, hk] using g2⟩
theorem Rel.freezeG (h : Rel E ρ σ a w) {us : List (Nat × Ob)} (hu : FrozenG σ.O us) : Rel E ρ { σ with ob := us ++ σ.ob } a w ∧ Ext ρ σ.O w ρ (lo (us ++ σ.ob)) w := by
  have key : ∀ id, id ∈ us.map (·.1) → ∃ e size ver n g, lo (us ++ σ.ob) id = some (.arr .sh e size ver n g) ∧
      ((∃ zz, σ.O id = some (.arr zz e size ver n g)) ∨ (ver = 0 ∧ n = 1 ∧ ∃ f, σ.O id = some (.var e size f) ∧ ∀ j, j < size → VLe (f j) (.im (g 0 j)))) := fun id hid => by
    rcases lo_frozenG hu σ.ob id with ⟨_, g⟩ | ⟨g, _⟩
    · exact g
    · exact absurd hid g
  refine h.many (σ' := { σ with ob := us ++ σ.ob }) (· ∈ us.map (·.1)) rfl rfl (fun id hid => ?_) (fun _ _ => rfl) (fun g _ _ => rfl) ?_ ?_ ?_ ?_ ?_ ?_ (Nat.le_refl _) rfl rfl rfl
  · rcases lo_frozenG hu σ.ob id with ⟨g, _⟩ | ⟨_, g⟩
    · exact absurd g hid
    · exact g
  · intro id o' g hid ho hl _
    obtain ⟨e, size, ver, n, f, h2, h1⟩ := key id hid
    have ho' : lo (us ++ σ.ob) id = some o' := ho
    rw [h2] at ho'; cases ho'; cases hl
  · intro id0 o0 g k hid0 ho0 hl0 hg0 hk0
    refine ⟨rfl, fun id o hid ho hl => ?_⟩
    obtain ⟨e, size, ver, n, f, h2, h1⟩ := key id hid
    have ho' : lo (us ++ σ.ob) id = some o := ho
    rw [h2] at ho'; cases ho'; cases hl
  · intro id id' o o' g hid _ ho _ hl _ _ _
    obtain ⟨e, size, ver, n, f, h2, h1⟩ := key id hid
    have ho' : lo (us ++ σ.ob) id = some o := ho
    rw [h2] at ho'; cases ho'; cases hl
  · intro id o hid ho
    obtain ⟨e, size, ver, n, f, h2, ⟨zz, h1⟩ | ⟨rfl, rfl, f', h1, _⟩⟩ := key id hid
    · rw [h1] at ho; cases ho
      exact ⟨_, h2, Nat.le_refl _, fun _ => ⟨rfl, ⟨rfl, rfl, Nat.le_refl _⟩, fun g cs e' _ _ hh => ⟨cs, hh, rfl⟩⟩⟩
    · rw [h1] at ho; cases ho
      exact ⟨_, h2, Nat.le_refl _, fun _ => ⟨rfl, ⟨rfl, rfl, Nat.le_refl _⟩, fun g cs e' _ _ hh => ⟨cs, hh, rfl⟩⟩⟩
  · intro ext id o' hid ho
    obtain ⟨e, size, ver, n, f, h2, h1⟩ := key id hid
    have ho' : lo (us ++ σ.ob) id = some o' := ho
    rw [h2] at ho'; cases ho'
    have nob : ∀ g, ρ id = some g → (∀ id' ob, σ.O id' = some ob → ob.live = true → ρ id' = some g → id' = id) → ¬ own ρ (lo (us ++ σ.ob)) g := fun g e1 hs => by
      rintro ⟨id', ob, k1, k2, k3⟩
      rcases lo_frozenG hu σ.ob id' with ⟨_, _, _, _, _, _, g3, _⟩ | ⟨g1, g2⟩
      · have k1' : lo (us ++ σ.ob) id' = some ob := k1
        rw [g3] at k1'; cases k1'; cases k2
      · obtain rfl := hs id' ob (g2.symm.trans k1) k2 k3
        exact g1 hid
    rcases h1 with ⟨zz, h1⟩ | ⟨rfl, rfl, f', h1, hle⟩
    · rcases h.ob id _ h1 with k | ⟨g, cs, cap, e1, e2, e3, e4, e5, e6⟩
      · exact .inl k
      · obtain ⟨hb, hs⟩ := h.seen h1 e1
        exact .inr ⟨g, cs, cap, e1, e2, e3, e4, ⟨e5.1, fun _ => ⟨nob g e1 fun id' ob a b c => (hs id' ob a b c).1, hb⟩, Room.none nofun⟩, fun i j hi hj => ⟨(e6 i j hi hj).1, T.rel_mono ext.okb (e6 i j hi hj).2⟩⟩
    · obtain ⟨g, cs, e1, e2, e3, e4⟩ := h.ob id _ h1
      refine .inr ⟨g, cs, 1, e1, e2, by omega, Nat.le_refl _, ⟨by unfold maxLen; omega, fun _ => ⟨nob g e1 fun id' ob a b c => h.inj id' id ob _ g a h1 b rfl c e1, fun q k => ?_⟩, Room.none nofun⟩, fun i j hi hj => ?_⟩
      · exact fun hq => .inr ⟨hq, (h.hi id _ g h1 rfl e1).1⟩
      · obtain rfl : i = 0 := by omega
        rw [Nat.zero_mul, Nat.zero_add]
        exact ⟨(e4 j hj).1, T.rel_mono ext.okb (hle j hj _ _ _ _ _ (Env.mono h.le) (e4 j hj).2)⟩
  · intro id hid
    rcases lo_frozenG hu σ.ob id with ⟨_, e, size, ver, n, f, _, ⟨zz, h1⟩ | ⟨_, _, f', h1, _⟩⟩ | ⟨_, g⟩
    · rw [h.nx id hid] at h1; cases h1
    · rw [h.nx id hid] at h1; cases h1
    · exact g.trans (h.nx id hid)

theorem asT_rel {b : Sees} {O : Ow} : ∀ {v : V} {x : Value}, v.rel b ρ O w x → v.okT = true → v.asT.rel (okb b ρ O) w x
  | .im _, _, h, _ => h
  | .ifc _ v, _, ⟨u, e, h⟩, k => ⟨u, e, asT_rel h (by simpa [V.okT] using k)⟩
  | .dead, _, _, k | .agg .., _, _, k | .tup .., _, _, k | .buf .., _, _, k | .ptr .., _, _, k | .elem .., _, _, k | .clo .., _, _, k | .mp .., _, _, k | .vsl .., _, _, k => by cases k

theorem Frz.rel (h : Rel E ρ σ a w) {us : List (Nat × Ob)} (hu : Frozen σ.O us) (ext : Ext ρ σ.O w ρ (lo (us ++ σ.ob)) w) {v : V} {t : T} (hf : Frz σ.O us v t) {x : Value} (hx : v.rel E.b ρ σ.O w x) : t.rel (okb E.b ρ (lo (us ++ σ.ob))) w x := by
  rcases hf with ⟨h1, rfl⟩ | ⟨id, ver, off, len, zz, e, size, n, f, rfl, ho, rfl, hm⟩
  · exact T.rel_mono ext.okb (asT_rel hx h1)
  · obtain ⟨A, c, ob, rfl, hl, ho', hv, hk⟩ := hx
    rw [ho] at ho'; cases ho'
    obtain ⟨_, _, _, _, _, e1, hn, hp⟩ := hk rfl
    cases e1
    refine ⟨A, c, rfl, hl, fun i j hi hj => ?_⟩
    rcases hp with ⟨p1, p2, p3, p4⟩ | ⟨g, cs, p1, p2, p3, p4⟩
    · omega
    · have hA := p2 (.inl (by omega))
      subst hA
      rcases h.ob id _ ho with ⟨q1, _⟩ | ⟨g', cs', cap, q1, q2, q3, q4, q5, q6⟩
      · rw [p1] at q1; cases q1
      rw [p1] at q1; cases q1
      rw [p3] at q2; cases q2
      obtain ⟨hb, hs⟩ := h.seen ho p1
      obtain ⟨r1, r2⟩ := q6 (off + i) j (by omega) hj
      have hlt : (off + i) * size + j < cs.size := by
        have : (off + i + 1) * size ≤ cap * size := Nat.mul_le_mul_right _ (by omega)
        rw [Nat.add_mul] at this
        omega
      refine ⟨⟨g, off * size, none⟩, cs.getD ((off + i) * size + j) undef, rfl, ⟨⟨hb _ _ rfl, ?_⟩, fun _ => frozen_row p3⟩, ?_, r1, T.rel_mono ext.okb r2⟩
      · rintro ⟨id', ob, h1, h2, h3, -⟩
        rcases lo_frozen hu σ.ob id' with ⟨g1, _, _, _, _, _, _, g2, g3⟩ | ⟨g1, g2⟩
        · rw [g3] at h1; cases h1; cases h2
        · rw [g2] at h1
          obtain ⟨rfl, _⟩ := hs id' ob h1 h2 h3
          exact g1 (List.mem_map.2 ⟨_, hm, rfl⟩)
      · rw [add_mk, ← Nat.add_assoc, ← Nat.add_mul, cell_of_row w g _ cs e (0, 0) p3]
        exact getD_some hlt

theorem store_run {t : TypeId} {y x : Operand} {sz g q : Nat} {cs : Array Value} {e : TypeId} (ho : o.op = .store t y x) (hc : comp P o = some (.store sz y x)) (he : a.eval y = .pointer (some ⟨g, q, none⟩))
    (hs : (a.eval x).cells.size = sz) (h1 : ∀ j, j < sz → ((a.eval x).cells.getD j undef).oneCell' = true) (hg : w.heap[g]? = some (.cells cs e (0, 0))) (hb : q + sz ≤ cs.size) :
    ∃ cs' : Array Value, (execOp a.eval o).run P w = .ok .skip (w.setRow g cs') ∧ cs'.size = cs.size ∧ ∀ k, cs'.getD k undef = if q ≤ k ∧ k < q + sz then (a.eval x).cells.getD (k - q) undef else cs.getD k undef := by
  unfold comp at hc
  rw [ho] at hc
  simp only at hc
  split at hc <;> try (simp at hc; done)
  rename_i i h2
  split at hc <;> simp only [Option.some.injEq, AOp.store.injEq, reduceCtorEq] at hc
  obtain ⟨rfl, -⟩ := hc
  have hst := run_storeCells_at (P := P) g q e (a.eval x).cells.toList 0 cs w hg (by simp; omega) (fun v hv => by
    obtain ⟨j, hj, rfl⟩ := List.getElem_of_mem hv
    have := h1 j (by simpa [hs] using hj)
    simp only [Array.length_toList] at hj
    simpa [hj] using this)
  refine ⟨(cs.toList.take q ++ (a.eval x).cells.toList ++ cs.toList.drop (q + i.size)).toArray, ?_, ?_, ?_⟩
  · simp [execOp, ho, Instr.storeAt, Instr.sureAddr, he, storeVar, sizeOf, typeInfo, h2, hs, hst, Result.andThen]
  · simp; omega
  · intro k
    simp only [Array.getD_eq_getD_getElem?, List.getElem?_toArray]
    by_cases c1 : k < q
    · rw [if_neg (by omega), List.getElem?_append_left (by simp; omega), List.getElem?_append_left (by simp; omega), List.getElem?_take, if_pos c1]
      simp
    · by_cases c2 : k < q + i.size
      · rw [if_pos ⟨by omega, c2⟩, List.getElem?_append_left (by simp; omega), List.getElem?_append_right (by simp; omega)]
        simp [show min q cs.size = q by omega]
      · rw [if_neg (by omega), List.getElem?_append_right (by simp; omega)]
        simp only [List.length_append, List.length_take, Array.length_toList, List.getElem?_drop]
        congr 1
        rw [show q + i.size + (k - (min q cs.size + (a.eval x).cells.size)) = k by omega]
        simp

theorem wp_drop {O : Ow} {m : AM} {rd : List Nat} {v : V} {ups : List (Nat × Ob)} (h : m.wp P O fr fun a b c => a = rd ∧ b = v ∧ c = ups) : m.wp P O fr fun _ b c => b = v ∧ c = ups :=
  AM.wp_mono (fun _ _ _ h => h.2) h

theorem store_ok (h : Rel E ρ σ a w) (hd : ∀ t, o.dst = some t → t < σ.N) (t : TypeId) (y x : Operand) (sz : Nat) (ho : o.op = .store t y x) (hc : comp P o = some (.store sz y x)) (hz : 0 < sz) {rd v ups}
    (k : (asem σ fr (.store sz y x)).wp P σ.O fr fun a b c => a = rd ∧ b = v ∧ c = ups) : Comes' P E (σ.upd o.dst v ups) o a w := by
  have hy := aev_rel h y
  have hx := aev_rel h x
  replace k := wp_drop k
  simp only [asem] at k
  obtain ⟨hn, k⟩ := k
  obtain ⟨c1, c2⟩ := cells_rel hx hn hz
  split at k
  · rename_i id ver i j e
    rw [e] at hy
    obtain ⟨pa, ob, e1, e2, e3, e4⟩ := hy
    obtain ⟨ob', e2', k⟩ := k
    rw [e2] at e2'
    cases e2'
    cases ob with
    | map => exact k.1.elim
    | gone v => exact k.1.elim
    | var el size f =>
      obtain ⟨⟨rfl, rfl, hj⟩, rfl, rfl⟩ := k
      obtain ⟨q, hq, rfl⟩ := e4 rfl rfl
      obtain ⟨q', cs, p1, p2, p3, p4⟩ := h.ob id _ e2
      rw [hq] at p1; cases p1
      have e1' : a.eval y = .pointer (some ⟨q, j, none⟩) := by rw [e1]; simp
      obtain ⟨cs', hr, hs', hg'⟩ := store_run ho hc e1' c1 (fun m hm => (c2 m hm).1) p2 (by omega)
      have hlt : q < w.heap.size := (Array.getElem?_eq_some_iff.1 p2).1
      obtain ⟨hr2, ext⟩ := h.one id (by
          rcases Nat.lt_or_ge id σ.next with hl | hl
          · exact hl
          · rw [h.nx id hl] at e2; cases e2) (.var el size fun t => if j ≤ t ∧ t < j + sz then (aev σ x).cell (t - j) else f t) (some q) (w.setRow q cs')
        (fun g hg hn => setRow_other w q g cs' (fun e => hn _ e2 rfl (by rw [hq, e])))
        (fun g _ e => by cases e; exact ⟨by simpa using hlt, .inl ⟨_, e2, rfl, hq⟩⟩)
        (fun o g k ho _ _ hk => by rw [e2] at ho; cases ho; exact absurd hk (Nat.not_lt_zero _))
        (fun o ho => by
          rw [e2] at ho; cases ho
          refine ⟨Nat.le_refl _, fun _ => ⟨hq.symm, ⟨rfl, rfl⟩, fun g cs2 e5 _ hg hh => ?_⟩⟩
          rw [hq] at hg; cases hg
          rw [p2] at hh; cases hh
          exact ⟨cs', setRow_heap w q cs cs' el (0, 0) p2, hs'⟩)
        (fun ext => ⟨q, cs', rfl, setRow_heap w q cs cs' el (0, 0) p2, hs'.trans p3, fun m hm => by
          rw [hg' m]
          by_cases hc : j ≤ m ∧ m < j + sz
          · rw [if_pos hc]
            dsimp only
            rw [if_pos hc]
            obtain ⟨d1, d2⟩ := c2 (m - j) (by omega)
            exact ⟨d1, V.rel_ext ext d2⟩
          · rw [if_neg hc]
            dsimp only
            rw [if_neg hc]
            exact ⟨(p4 m hm).1, V.rel_ext ext (p4 m hm).2⟩⟩)
        (by simp) rfl rfl rfl
      exact ⟨_, _, _, hr, .inr ⟨rfl, hr2.putO (d := o.dst) hd (v := .im (.val undef)) rfl⟩⟩
    | arr zz el size ver' n f =>
      cases zz with
      | app => exact k.1.elim
      | sh => exact k.1.elim
      | own rm =>
      obtain ⟨⟨rfl, hi, hj⟩, k⟩ := k
      obtain ⟨ts, us, g1, g2, g3, g4⟩ := frzL_wp (R := fun b c => b = v ∧ c = ups) k
      obtain ⟨hne, rfl, rfl⟩ := g4
      have hne' : id ∉ us.map (·.1) := fun hm => by
        obtain ⟨p, hp, rfl⟩ := List.mem_map.1 hm
        have := List.all_eq_true.1 hne p hp
        simp at this
      obtain ⟨q, hq, rfl⟩ := e4 rfl rfl
      obtain ⟨hf, fext⟩ := h.freeze g3
      have e2' : ({ σ with ob := us ++ σ.ob } : St).O id = some (.arr (.own rm) el size ver' n f) := by
        rcases lo_frozen g3 σ.ob id with ⟨g, _⟩ | ⟨_, g⟩
        · exact absurd g hne'
        · exact g.trans e2
      rcases hf.ob id _ e2' with ⟨p1, -⟩ | ⟨q', cs, cap, p1, p2, p3, p4, p5, p6⟩
      · rw [hq] at p1; cases p1
      rw [hq] at p1; cases p1
      have hrow : (i + 1) * size ≤ cap * size := Nat.mul_le_mul_right _ (by omega)
      rw [Nat.add_mul] at hrow
      have e1' : a.eval y = .pointer (some ⟨q, i * size + j, none⟩) := e1
      obtain ⟨cs', hr, hs', hg'⟩ := store_run ho hc e1' c1 (fun m hm => (c2 m hm).1) p2 (by omega)
      have hlt : q < w.heap.size := (Array.getElem?_eq_some_iff.1 p2).1
      obtain ⟨hr2, ext⟩ := hf.one id (by
          rcases Nat.lt_or_ge id σ.next with hl | hl
          · exact hl
          · rw [h.nx id hl] at e2; cases e2) (.arr (.own rm) el size ver' n fun i' j' => if i' = i ∧ j ≤ j' ∧ j' < j + sz then ts.getD (j' - j) (.val undef) else f i' j') (some q) (w.setRow q cs')
        (fun g hg hn => setRow_other w q g cs' (fun e => hn _ e2' rfl (by rw [hq, e])))
        (fun g _ e => by cases e; exact ⟨by simpa using hlt, .inl ⟨_, e2', rfl, hq⟩⟩)
        (fun o g k ho _ _ hk => by rw [e2'] at ho; cases ho; exact absurd hk (Nat.not_lt_zero _))
        (fun o ho => by
          rw [e2'] at ho; cases ho
          refine ⟨Nat.le_refl _, fun _ => ⟨hq.symm, ⟨rfl, rfl, Nat.le_refl _⟩, fun g cs2 e5 _ hg hh => ?_⟩⟩
          rw [hq] at hg; cases hg
          rw [p2] at hh; cases hh
          exact ⟨cs', setRow_heap w q cs cs' el (0, 0) p2, hs'⟩)
        (fun ext => .inr ⟨q, cs', cap, rfl, setRow_heap w q cs cs' el (0, 0) p2, hs'.trans p3, p4, ⟨p5.1, nofun, Room.same p5.2.2 fun k hk1 _ => by
          have hr3 : (i + 1) * size ≤ n * size := Nat.mul_le_mul_right _ (by omega)
          rw [Nat.add_mul] at hr3
          rw [hg', if_neg (by omega)]⟩, fun i' j' hi' hj' => by
          rw [hg']
          by_cases hc : i' = i ∧ j ≤ j' ∧ j' < j + sz
          · obtain ⟨rfl, hc1, hc2⟩ := hc
            rw [if_pos ⟨by omega, by omega⟩]
            dsimp only
            rw [if_pos ⟨rfl, hc1, hc2⟩, show i' * size + j' - (i' * size + j) = j' - j by omega]
            obtain ⟨d1, d2⟩ := c2 (j' - j) (by omega)
            refine ⟨d1, ?_⟩
            have hlen : j' - j < ts.length := by rw [g1]; simp [cellsOf]; omega
            have hfz := g2 (j' - j) _ ts[j' - j] (by rw [cellsOf, List.getElem?_map, List.getElem?_range (by omega)]; rfl) (List.getElem?_eq_getElem hlen)
            have := Frz.rel h g3 fext hfz d2
            rw [List.getD_eq_getElem?_getD, List.getElem?_eq_getElem hlen]
            exact T.rel_mono ext.okb this
          · dsimp only
            rw [if_neg hc]
            have hn2 : ¬ (i * size + j ≤ i' * size + j' ∧ i' * size + j' < i * size + j + sz) := by
              rintro ⟨h5, h6⟩
              by_cases hii : i' = i
              · subst hii; exact hc ⟨rfl, by omega, by omega⟩
              · rcases Nat.lt_or_gt_of_ne hii with hlt | hgt
                · have : (i' + 1) * size ≤ i * size := Nat.mul_le_mul_right _ hlt
                  rw [Nat.add_mul] at this
                  omega
                · have : (i + 1) * size ≤ i' * size := Nat.mul_le_mul_right _ hgt
                  rw [Nat.add_mul] at this
                  omega
            rw [if_neg hn2]
            exact ⟨(p6 i' j' hi' hj').1, T.rel_mono ext.okb (p6 i' j' hi' hj').2⟩⟩)
        (by simp) rfl rfl rfl
      exact ⟨_, _, _, hr, .inr ⟨rfl, hr2.putO (d := o.dst) hd (v := .im (.val undef)) rfl⟩⟩
  · exact k.1.elim
end
end Go.Proofs.Ytlmnhbobgfpanaa
