/-
  Less known, other names; a function's contract out of its body.
-/
import Derived.Test.YtlmnhbobgfpanaaTrR
namespace Go.Proofs.Ytlmnhbobgfpanaa
open Go.RowKit

def Qc.le (q q' : Qc) : Prop := q' = q ∨ q' = .any ∨ (q' = .saf ∧ (q = .new ∨ q = .old))
theorem Qc.le_refl (q : Qc) : q.le q := .inl rfl
theorem Qc.le.ok {q q' : Qc} (h : q.le q') {b : Sees} (hm : Mono b) {w : World} {g k : Nat} (hb : Okw b w q g k) : Okw b w q' g k := by
  rcases h with rfl | rfl | ⟨rfl, hq⟩
  · exact hb
  · exact ⟨hm.1 _ _ _ hb.1, nofun⟩
  · exact ⟨hm.2 _ _ _ hq hb.1, nofun⟩
theorem T.le_sl {q q' : Qc} (hq : q.le q') {size n : Nat} {f g : Nat → Nat → T} (h : ∀ i j, i < n → j < size → T.le (f i j) (g i j)) : T.le (.sl q size n f) (.sl q' size n g) :=
  fun ok w _ hm ⟨A, c, e, hn, hf⟩ => ⟨A, c, e, hn, fun i j hi hj => by
    obtain ⟨ad, u, h1, h2, h3, h4, h5⟩ := hf i j hi hj
    exact ⟨ad, u, h1, hq.ok hm h2, h3, h4, h i j hi hj ok w u hm h5⟩⟩
theorem T.le_of_eq {t t' : T} (h : t = t') : T.le t t' := h ▸ T.le_refl t

def allLt : Nat → (Nat → Prop) → Prop
  | 0, _ => True
  | n + 1, p => allLt n p ∧ p n
theorem allLt_iff {n : Nat} {p : Nat → Prop} : allLt n p ↔ ∀ j, j < n → p j := by
  induction n with
  | zero => simp [allLt]
  | succ n ih =>
    simp only [allLt, ih]
    constructor
    · rintro ⟨h1, h2⟩ j hj
      by_cases e : j = n
      · exact e ▸ h2
      · exact h1 j (by omega)
    · exact fun h => ⟨fun j hj => h j (by omega), h n (by omega)⟩

def VW (μ : Nat → Nat) (O O' : Ow) : V → V → Prop
  | _, .dead => True
  | u, .buf id ver off len => (match u with
    | .buf id0 ver0 off0 len0 => id0 = μ id ∧ off0 = off ∧ len0 = len ∧ (match O (μ id), O' id with
      | some o, some o' => ver ≤ o'.ver ∧ (o'.ver = ver → o.ver = ver0)
      | _, _ => False)
    | .im (.val (.slice none 0 0)) => off = 0 ∧ len = 0 ∧ (match O (μ id), O' id with
      | none, some (.arr _ _ _ v n _) => v = ver ∧ n = 0
      | _, _ => False)
    | _ => False)
  | u, .ptr id ver i j => (match u with
    | .ptr id0 ver0 i0 j0 => id0 = μ id ∧ i0 = i ∧ j0 = j ∧ (match O (μ id), O' id with
      | some o, some o' => ver ≤ o'.ver ∧ (o'.ver = ver → o.ver = ver0)
      | _, _ => False)
    | _ => False)
  | u, .vsl id len => (match u with
    | .vsl id0 len0 => id0 = μ id ∧ len0 = len ∧ (match O (μ id), O' id with
      | some o, some o' => o'.isVar = true → o.isVar = true
      | _, _ => False)
    | _ => False)
  | u, .mp id => (match u with
    | .mp id0 => id0 = μ id ∧ (match O (μ id), O' id with
      | some _, some _ => True
      | _, _ => False)
    | _ => False)
  | .im t, .im t' => T.le t t'
  | .buf id0 ver0 off0 len0, .im t' => (match O id0 with
    | some (.arr .sh _ s v _ f) => v = ver0 ∧ T.le (.sl .new s len0 fun i j => f (off0 + i) j) t'
    | _ => False)
  | .agg n f, .agg n' f' => n = n' ∧ allLt n fun j => VW μ O O' (f j) (f' j)
  | .tup n f, .tup n' f' => n = n' ∧ allLt n fun j => VW μ O O' (f j) (f' j)
  | .ifc t u, .ifc t' v => t = t' ∧ VW μ O O' u v
  | .ptr id0 ver0 i0 j0, .elem q s n f i j => (match O id0 with
    | some (.arr .sh _ s' v n' g) => q.young = true ∧ v = ver0 ∧ s' = s ∧ n' = n ∧ i0 = i ∧ j0 = j ∧ i < n ∧ ∀ a c, a < n → c < s → T.le (g a c) (f a c)
    | _ => False)
  | .elem q s n f i j, v => v = .elem q s n f i j ∨ v = .elem .any s n f i j
  | .clo fn n f m g, .clo fn' n' f' m' g' => fn = fn' ∧ n = n' ∧ m = m' ∧ (allLt n fun j => VW μ O O' (f j) (f' j)) ∧ allLt m fun j => VW μ O O' (g j) (g' j)
  | _, _ => False

def Zz.ok (z z' : Zz) : Prop := z' = z ∨ ((∃ rm, z = .own rm) ∧ (z' = .app ∨ z' = .own none))
def Ob.hd : Ob → Ob → Prop
  | .var e s _, .var e' s' _ => e' = e ∧ s' = s
  | .arr zz e s _ n _, .arr zz' e' s' _ n' _ => Zz.ok zz zz' ∧ e' = e ∧ s' = s ∧ n' = n
  | .map .., .map .. => True
  | .gone _, .gone _ => True
  | _, _ => False

def OW (μ : Nat → Nat) (O O' : Ow) : Ob → Ob → Prop
  | .var e s f, .var e' s' f' => e' = e ∧ s' = s ∧ allLt s fun j => VW μ O O' (f j) (f' j)
  | .arr zz e s _ n f, .arr zz' e' s' _ n' f' => Zz.ok zz zz' ∧ e' = e ∧ s' = s ∧ n' = n ∧ ∀ i j, i < n → j < s → T.le (f i j) (f' i j)
  | .map a s n k f, .map a' s' n' k' f' => n' = n ∧ (∀ i, i < n → k' i = k i) ∧ ∀ i, i < n → T.le (mapT a s (f i)) (mapT a' s' (f' i))
  | .gone _, .gone _ => True
  | _, _ => False

theorem OW.hd {μ : Nat → Nat} {O O' : Ow} {o o' : Ob} (h : OW μ O O' o o') : o.hd o' := by
  cases o <;> cases o' <;> simp_all [OW, Ob.hd]

section
variable {P : Program} {E : Env} {ρ ρ' ρc : Pl} {O O' Oc : Ow} {σ σ' : St} {a : Act} {w w' : World} {N m : Nat} {μ : Nat → Nat} {b : Sees}

theorem Ob.hd_live {o o' : Ob} (h : o.hd o') : o'.live = o.live := by
  cases o with
  | arr zz e s v n f =>
    cases o' with
    | arr zz' e' s' v' n' f' =>
      rcases h.1 with rfl | ⟨⟨_, rfl⟩, rfl | rfl⟩
      · cases zz' <;> rfl
      · rfl
      · rfl
    | _ => exact h.elim
  | _ => cases o' <;> first | rfl | exact h.elim
theorem Ob.hd_isMap {o o' : Ob} (h : o.hd o') : o'.isMap = o.isMap := by cases o <;> cases o' <;> first | rfl | exact h.elim
theorem Ob.hd_held {o o' : Ob} (h : o.hd o') : o'.held = o.held := by cases o <;> cases o' <;> first | rfl | exact h.elim
theorem Ob.hd_lo {o o' : Ob} (h : o.hd o') : o.lo ≤ o'.lo := by
  cases o with
  | arr zz e s v n f =>
    cases o' with
    | arr zz' e' s' v' n' f' =>
      obtain ⟨h0, rfl, rfl, rfl⟩ := h
      rcases h0 with rfl | ⟨⟨_, rfl⟩, rfl | rfl⟩
      · cases zz' <;> exact Nat.le_refl _
      · exact Nat.zero_le _
      · exact Nat.zero_le _
    | _ => exact h.elim
  | _ => exact Nat.zero_le _
theorem Ob.hd_size {o o' : Ob} (h : o.hd o') : o'.size = o.size := by cases o <;> cases o' <;> simp_all [Ob.hd, Ob.size]

def Named (μ : Nat → Nat) (ρ : Pl) (O : Ow) (ρ' : Pl) (O' : Ow) : Prop :=
  ∀ id o', O' id = some o' → (∃ o, O (μ id) = some o ∧ o.hd o' ∧ ρ' id = ρ (μ id)) ∨ (O (μ id) = none ∧ ρ' id = none ∧ ∃ zz e s v f, o' = .arr zz e s v 0 f)

theorem Named.own (h : Named μ ρ O ρ' O') {g : Nat} (k : own ρ' O' g) : own ρ O g := by
  obtain ⟨id, o', h1, h2, h3⟩ := k
  rcases h id o' h1 with ⟨o, g1, g2, g3⟩ | ⟨g1, g2, _⟩
  · exact ⟨μ id, o, g1, by rw [← Ob.hd_live g2]; exact h2, by rw [← g3]; exact h3⟩
  · rw [g2] at h3; cases h3
theorem Named.ownc (h : Named μ ρ O ρ' O') {g q : Nat} (k : ownc ρ' O' g q) : ownc ρ O g q := by
  obtain ⟨id, o', h1, h2, h3, h4⟩ := k
  rcases h id o' h1 with ⟨o, g1, g2, g3⟩ | ⟨g1, g2, _⟩
  · exact ⟨μ id, o, g1, by rw [← Ob.hd_live g2]; exact h2, by rw [← g3]; exact h3, Nat.le_trans (Ob.hd_lo g2) h4⟩
  · rw [g2] at h3; cases h3
theorem Named.okb (h : Named μ ρ O ρ' O') (qc : Qc) (g q : Nat) (k : okb b ρ O qc g q) : okb b ρ' O' qc g q := ⟨k.1, fun ho => k.2 (h.ownc ho)⟩

theorem VW.rel (hmo : Mono b) (h : Named μ ρ O ρ' O') (hob : ∀ id o, O id = some o → o.rel b ρ O w (ρ id)) : ∀ {v u : V} {x : Value}, VW μ O O' u v → u.rel b ρ O w x → v.rel b ρ' O' w x
  | .dead, _, _, _, _ => trivial
  | .buf id ver off len, u, x, hw, hu => by
    unfold VW at hw
    split at hw
    · rename_i id0 ver0 off0 len0
      obtain ⟨rfl, rfl, rfl, hw⟩ := hw
      split at hw
      · rename_i o o' h1 h2
        obtain ⟨h3, h4⟩ := hw
        obtain ⟨A, c, q, e1, e2, e3, e4, e5⟩ := hu
        rw [h1] at e3; cases e3
        refine ⟨A, c, o', e1, e2, h2, h3, fun hv => ?_⟩
        obtain ⟨zz, el, size, n, f, rfl, hn, hp⟩ := e5 (h4 hv)
        rcases h id o' h2 with ⟨q, g1, g2, g3⟩ | ⟨g1, _⟩
        · rw [h1] at g1; cases g1
          cases o' with
          | var => exact g2.elim
          | map => exact g2.elim
          | gone => exact g2.elim
          | arr zz' e' s' v' n' f' =>
            obtain ⟨-, rfl, rfl, rfl⟩ := g2
            have hv' : v' = ver := hv
            subst hv'
            exact ⟨_, _, _, _, _, rfl, hn, by rw [g3]; exact hp⟩
        · rw [h1] at g1; cases g1
      · exact hw.elim
    · obtain ⟨rfl, rfl, hw⟩ := hw
      split at hw
      · rename_i e s v n f h1 h2
        obtain ⟨rfl, rfl⟩ := hw
        have hx : x = .slice none 0 0 := hu
        subst hx
        rcases h id _ h2 with ⟨q, g1, g2, g3⟩ | ⟨_, g2, _⟩
        · rw [h1] at g1; cases g1
        · exact ⟨none, 0, _, rfl, Nat.le_refl _, h2, Nat.le_refl _, fun _ => ⟨_, _, _, _, _, rfl, Nat.le_refl _, .inl ⟨g2, rfl, rfl, rfl⟩⟩⟩
      · exact hw.elim
    · exact hw.elim
  | .ptr id ver i j, u, x, hw, hu => by
    unfold VW at hw
    split at hw
    · obtain ⟨rfl, rfl, rfl, hw⟩ := hw
      split at hw
      · rename_i o o' h1 h2
        obtain ⟨h3, h4⟩ := hw
        obtain ⟨A, q, e1, e3, e4, e5⟩ := hu
        rw [h1] at e3; cases e3
        refine ⟨A, o', e1, h2, h3, fun hv hl => ?_⟩
        rcases h id o' h2 with ⟨q, g1, g2, g3⟩ | ⟨g1, _⟩
        · rw [h1] at g1; cases g1
          obtain ⟨g, hg, ha⟩ := e5 (h4 hv) (by rw [← Ob.hd_held g2]; exact hl)
          exact ⟨g, by rw [g3]; exact hg, by rw [Ob.hd_size g2]; exact ha⟩
        · rw [h1] at g1; cases g1
      · exact hw.elim
    · exact hw.elim
  | .vsl id len, u, x, hw, hu => by
    unfold VW at hw
    split at hw
    · obtain ⟨rfl, rfl, hw⟩ := hw
      split at hw
      · rename_i o o' h1 h2
        obtain ⟨gg, c, q, e1, e2, e3, e5⟩ := hu
        rw [h1] at e3; cases e3
        refine ⟨gg, c, o', e1, e2, h2, fun hv => ?_⟩
        rcases h id o' h2 with ⟨q, g1, g2, g3⟩ | ⟨g1, _⟩
        · rw [h1] at g1; cases g1
          rw [g3]
          exact e5 (hw hv)
        · rw [h1] at g1; cases g1
      · exact hw.elim
    · exact hw.elim
  | .mp id, u, x, hw, hu => by
    unfold VW at hw
    split at hw
    · obtain ⟨rfl, hw⟩ := hw
      split at hw
      · rename_i o o' h1 h2
        obtain ⟨gg, q, e1, e3, e5⟩ := hu
        rw [h1] at e3; cases e3
        refine ⟨gg, o', e1, h2, fun hl => ?_⟩
        rcases h id o' h2 with ⟨q, g1, g2, g3⟩ | ⟨g1, _⟩
        · rw [h1] at g1; cases g1
          rw [g3]
          exact e5 (by rw [← Ob.hd_isMap g2]; exact hl)
        · rw [h1] at g1; cases g1
      · exact hw.elim
    · exact hw.elim
  | .im t', u, x, hw, hu => by
    cases u with
    | im t => exact T.rel_ok (.inl fun qc g q _ k => h.okb qc g q k) (hw _ _ _ hmo.okb hu)
    | buf id ver off len =>
      simp only [VW] at hw
      split at hw
      · rename_i e size v n f ho
        obtain ⟨rfl, hw⟩ := hw
        obtain ⟨A, c, o, e1, hl, ho', hv, hk⟩ := hu
        rw [ho] at ho'; cases ho'
        obtain ⟨_, _, _, _, _, e2, hn, hp⟩ := hk rfl
        cases e2
        refine hw _ _ _ hmo.okb (T.rel_ok (.inl fun qc g q _ k => h.okb qc g q k) ⟨A, c, e1, hl, fun i j hi hj => ?_⟩)
        rcases hp with ⟨p1, p2, p3, p4⟩ | ⟨g, cs, p1, p2, p3, p4⟩
        · omega
        · have hA := p2 (.inl (by omega))
          subst hA
          rcases hob id _ ho with ⟨q1, _⟩ | ⟨g', cs', cap, q1, q2, q3, q4, q5, q6⟩
          · rw [p1] at q1; cases q1
          rw [p1] at q1; cases q1
          rw [p3] at q2; cases q2
          obtain ⟨r1, r2⟩ := q6 (off + i) j (by omega) hj
          have hlt : (off + i) * size + j < cs.size := by
            have : (off + i + 1) * size ≤ cap * size := Nat.mul_le_mul_right _ (by omega)
            rw [Nat.add_mul] at this
            omega
          refine ⟨⟨g, off * size, none⟩, cs.getD ((off + i) * size + j) undef, rfl, ⟨⟨(q5.2.1 rfl).2 _ _ rfl, fun ho => (q5.2.1 rfl).1 (own_of_ownc ho)⟩, fun _ => frozen_row p3⟩, ?_, r1, r2⟩
          rw [add_mk, ← Nat.add_assoc, ← Nat.add_mul, cell_of_row w g _ cs e (0, 0) p3]
          exact getD_some hlt
      · exact hw.elim
    | elem => simp [VW] at hw
    | _ => exact hw.elim
  | .agg n' f', u, x, hw, hu => by
    cases u with
    | agg n f =>
      obtain ⟨rfl, hw⟩ := hw
      obtain ⟨cs, e, hn, hf⟩ := hu
      exact ⟨cs, e, hn, fun j hj => ⟨(hf j hj).1, VW.rel hmo h hob (allLt_iff.1 hw j hj) (hf j hj).2⟩⟩
    | elem => simp [VW] at hw
    | _ => exact hw.elim
  | .tup n' f', u, x, hw, hu => by
    cases u with
    | tup n f =>
      obtain ⟨rfl, hw⟩ := hw
      obtain ⟨cs, e, hn, hf⟩ := hu
      exact ⟨cs, e, hn, fun j hj => VW.rel hmo h hob (allLt_iff.1 hw j hj) (hf j hj)⟩
    | elem => simp [VW] at hw
    | _ => exact hw.elim
  | .ifc t' v', u, x, hw, hu => by
    cases u with
    | ifc t v =>
      obtain ⟨rfl, hw⟩ := hw
      obtain ⟨y, e, hr⟩ := hu
      exact ⟨y, e, VW.rel hmo h hob hw hr⟩
    | elem => simp [VW] at hw
    | _ => exact hw.elim
  | .elem q' s' n' f' i' j', u, x, hw, hu => by
    cases u with
    | elem q s n f i j =>
      simp only [VW] at hw
      have hu' : V.rel b ρ O w (.elem q' s' n' f' i' j') x := by
        rcases hw with e | e
        · cases e; exact hu
        · cases e; exact VLe.elem _ _ _ _ _ hmo hu
      obtain ⟨ad, e, hi, hs, hk⟩ := hu'
      refine ⟨ad, e, hi, hs, fun k hk' => ?_⟩
      obtain ⟨h1, y, h2, h3, h4⟩ := hk k hk'
      exact ⟨⟨h.okb _ _ _ h1.1, h1.2⟩, y, h2, h3, T.rel_ok (.inl fun qc g q _ k => h.okb qc g q k) h4⟩
    | ptr id0 ver0 i0 j0 =>
      simp only [VW] at hw
      split at hw
      · rename_i e s v n g ho
        obtain ⟨hq, rfl, rfl, rfl, rfl, rfl, hi, hle⟩ := hw
        obtain ⟨ad, o, e1, e3, e4, e5⟩ := hu
        rw [ho] at e3; cases e3
        obtain ⟨gg, hg, rfl⟩ := e5 rfl rfl
        rcases hob id0 _ ho with ⟨q1, _⟩ | ⟨g', cs, cap, q1, q2, q3, q4, q5, q6⟩
        · rw [hg] at q1; cases q1
        rw [hg] at q1; cases q1
        refine ⟨⟨gg, 0, none⟩, by rw [e1, add_mk, Nat.zero_add]; rfl, hi, rfl, fun k hk => ⟨⟨⟨(q5.2.1 rfl).2 _ _ hq, fun ho => (q5.2.1 rfl).1 (own_of_ownc (h.ownc ho))⟩, fun _ => frozen_row q2⟩, cs.getD (i0 * s + k) undef, ?_, (q6 i0 k hi hk).1, T.rel_ok (.inl fun qc g q _ k => h.okb qc g q k) (hle i0 k hi hk _ _ _ hmo.okb (q6 i0 k hi hk).2)⟩⟩
        have hlt : i0 * s + k < cs.size := by
          have : (i0 + 1) * s ≤ cap * s := Nat.mul_le_mul_right _ (by omega)
          rw [Nat.add_mul] at this
          omega
        rw [add_mk, Nat.zero_add, cell_of_row w gg _ cs e (0, 0) q2]
        exact getD_some hlt
      · exact hw.elim
    | _ => exact hw.elim
  | .clo fn' n' f' m' g', u, x, hw, hu => by
    cases u with
    | clo fn n f m g =>
      obtain ⟨rfl, rfl, rfl, h1, h2⟩ := hw
      obtain ⟨A, D, e, hn, hm, hf, hg⟩ := hu
      exact ⟨A, D, e, hn, hm, fun j hj => VW.rel hmo h hob (allLt_iff.1 h1 j hj) (hf j hj), fun j hj => VW.rel hmo h hob (allLt_iff.1 h2 j hj) (hg j hj)⟩
    | elem => simp [VW] at hw
    | _ => exact hw.elim

theorem OW.rel (hm : Mono b) (h : Named μ ρ O ρ' O') (hob : ∀ id o, O id = some o → o.rel b ρ O w (ρ id)) {o o' : Ob} {p : Option Nat} (hw : OW μ O O' o o') (k : o.rel b ρ O w p) : o'.rel b ρ' O' w p := by
  cases o with
  | var e s f =>
    cases o' with
    | var e' s' f' =>
      obtain ⟨rfl, rfl, hw⟩ := hw
      obtain ⟨g, cs, h1, h2, h3, h4⟩ := k
      exact ⟨g, cs, h1, h2, h3, fun j hj => ⟨(h4 j hj).1, VW.rel hm h hob (allLt_iff.1 hw j hj) (h4 j hj).2⟩⟩
    | _ => exact hw.elim
  | arr zz e s v n f =>
    cases o' with
    | arr zz' e' s' v' n' f' =>
      obtain ⟨hz, rfl, rfl, rfl, hw⟩ := hw
      rcases k with k | ⟨g, cs, cap, h1, h2, h3, h4, h5, h6⟩
      · exact .inl k
      · exact .inr ⟨g, cs, cap, h1, h2, h3, h4, ⟨h5.1, (fun hs => by
          rcases hz with rfl | ⟨_, rfl | rfl⟩
          · exact ⟨fun ho => (h5.2.1 hs).1 (h.own ho), (h5.2.1 hs).2⟩
          · cases hs
          · cases hs), by
          rcases hz with rfl | ⟨_, rfl | rfl⟩
          · exact h5.2.2
          · exact Room.none nofun
          · exact Room.none nofun⟩, fun i j hi hj => ⟨(h6 i j hi hj).1, T.rel_ok (.inl fun qc g q _ k => h.okb qc g q k) (hw i j hi hj _ _ _ hm.okb (h6 i j hi hj).2)⟩⟩
    | _ => exact hw.elim
  | map ag sz n ky f =>
    cases o' with
    | map ag' sz' n' ky' f' =>
      obtain ⟨rfl, hk, hw⟩ := hw
      obtain ⟨g, es, h1, h2, h3, h4⟩ := k
      refine ⟨g, es, h1, h2, h3, fun i e he => ?_⟩
      have hi : i < n' := by rw [← h3]; exact (Array.getElem?_eq_some_iff.1 he).1
      exact ⟨by rw [hk i hi]; exact (h4 i e he).1, (h4 i e he).2.1, T.rel_ok (.inl fun qc g q _ k => h.okb qc g q k) (hw i hi _ _ _ hm.okb (h4 i e he).2.2)⟩
    | _ => exact hw.elim
  | gone v =>
    cases o' with
    | gone => trivial
    | _ => exact hw.elim

def allP {α : Type} : List α → (α → Prop) → Prop
  | [], _ => True
  | x :: l, p => p x ∧ allP l p
theorem allP_iff {α : Type} {l : List α} {p : α → Prop} : allP l p ↔ ∀ x ∈ l, p x := by
  induction l with
  | nil => simp [allP]
  | cons x l ih => simp [allP, ih]

def keptP (O O' : Ow) (id : Nat) : Prop :=
  match O id, O' id with
  | some o, some o' => o'.ver = o.ver
  | none, _ => True
  | _, _ => False
theorem lo_in : ∀ {l : List (Nat × Ob)} {k : Nat} {o : Ob}, lo l k = some o → (k, o) ∈ l
  | [], _, _, h => by cases h
  | (q, x) :: l, k, o, h => by
    simp only [lo] at h
    split at h
    · rename_i e; cases h; subst e; simp
    · exact List.mem_cons_of_mem _ (lo_in h)
theorem lk_in : ∀ {l : List (Nat × V)} {k : Nat}, lk l k = .dead ∨ (k, lk l k) ∈ l
  | [], _ => .inl rfl
  | (q, x) :: l, k => by
    simp only [lk]
    split
    · rename_i e; subst e; exact .inr (by simp)
    · rcases lk_in (l := l) (k := k) with h | h
      · exact .inl h
      · exact .inr (List.mem_cons_of_mem _ h)

end
end Go.Proofs.Ytlmnhbobgfpanaa
