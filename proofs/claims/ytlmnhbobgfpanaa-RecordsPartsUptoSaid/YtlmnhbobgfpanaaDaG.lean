/-
  What is found in slots of a shape, and what the shape is with it. General; nothing of this program.
-/
import Derived.Test.YtlmnhbobgfpanaaDaF
import Derived.Test.YtlmnhbobgfpanaaTrZ
import Derived.Test.YtlmnhbobgfpanaaDaS
namespace Go.Proofs.Ytlmnhbobgfpanaa
open Go.RowKit

theorem isNilV_eq {kd : Nat} {v : Value} (h : isNilV kd v = true) : v = nilV kd := by
  unfold isNilV at h
  split at h <;> first | rfl | cases h
theorem alt_P {P : V → Prop} (q c : Bool) (x y : DV) (hd : P .dead) (h1 : c = true → P x.toV) (h2 : c = false → P y.toV) : P (cond q (DV.alt c x y) (cond c x y)).toV := by
  cases q with
  | false =>
    cases c with
    | true => exact h1 rfl
    | false => exact h2 rfl
  | true =>
    show P (cond (x.isOne && y.isOne) (cond c x.toV y.toV) .dead)
    cases x.isOne && y.isOne with
    | false => exact hd
    | true =>
      cases c with
      | true => exact h1 rfl
      | false => exact h2 rfl
theorem closed_ok : ∀ {s : Sh}, s.closed = true → s.cnt = 0 ∧ s.ptrs = [] ∧ s.plain = true ∧ ∀ (x : den s.ty) (k : Nat), (s.mk x k).2 = ([], k) ∧
    ∀ i, (∀ rr, (dl (s.mk x k).1 i).toV.ren rr = (dl (s.mk x k).1 i).toV) ∧ (∀ d, (dl (s.mk x k).1 i).toV.sh d = (dl (s.mk x k).1 i).toV) ∧ ∀ m, (dl (s.mk x k).1 i).toV.lt m := by
  intro s
  have one : ∀ {v : DV} {i : Nat}, ((∀ rr, v.toV.ren rr = v.toV) ∧ (∀ d, v.toV.sh d = v.toV) ∧ ∀ m, v.toV.lt m) → (∀ rr, (dl [v] i).toV.ren rr = (dl [v] i).toV) ∧ (∀ d, (dl [v] i).toV.sh d = (dl [v] i).toV) ∧ ∀ m, (dl [v] i).toV.lt m := fun {v i} h => by
    cases i with
    | zero => exact h
    | succ i => exact ⟨fun _ => rfl, fun _ => rfl, fun _ => trivial⟩
  induction s with
  | look l => intro h; exact ⟨rfl, rfl, rfl, fun x k => ⟨rfl, fun i => one ⟨fun _ => rfl, fun _ => rfl, fun _ => trivial⟩⟩⟩
  | own => intro h; cases h
  | mown => intro h; cases h
  | box => intro h; cases h
  | ptr => intro h; cases h
  | agg n l ih =>
    intro h
    obtain ⟨h1, h2, h3, h4⟩ := ih h
    refine ⟨h1, h2, h3, fun x k => ⟨(h4 x k).1, fun i => one ⟨fun rr => ?_, fun d => ?_, fun m j _ => ((h4 x k).2 j).2.2 m⟩⟩⟩
    · simp only [DV.toV, V.ren]; congr 1; exact funext fun j => ((h4 x k).2 j).1 rr
    · simp only [DV.toV, V.sh]; congr 1; exact funext fun j => ((h4 x k).2 j).2.1 d
  | tup n l ih =>
    intro h
    obtain ⟨h1, h2, h3, h4⟩ := ih h
    refine ⟨h1, h2, h3, fun x k => ⟨(h4 x k).1, fun i => one ⟨fun rr => ?_, fun d => ?_, fun m j _ => ((h4 x k).2 j).2.2 m⟩⟩⟩
    · simp only [DV.toV, V.ren]; congr 1; exact funext fun j => ((h4 x k).2 j).1 rr
    · simp only [DV.toV, V.sh]; congr 1; exact funext fun j => ((h4 x k).2 j).2.1 d
  | ifc t s ih =>
    intro h
    obtain ⟨h1, h2, h3, h4⟩ := ih h
    refine ⟨h1, h2, h3, fun x k => ⟨(h4 x k).1, fun i => one ⟨fun rr => ?_, fun d => ?_, fun m => ((h4 x k).2 0).2.2 m⟩⟩⟩
    · simp only [DV.toV, V.ren]; congr 1; exact ((h4 x k).2 0).1 rr
    · simp only [DV.toV, V.sh]; congr 1; exact ((h4 x k).2 0).2.1 d
  | clo fn n l m c ih1 ih2 =>
    intro h
    simp only [Sh.closed, Bool.and_eq_true] at h
    obtain ⟨h1, h2, h3, h4⟩ := ih1 h.1
    obtain ⟨g1, g2, g3, g4⟩ := ih2 h.2
    refine ⟨by simp only [Sh.cnt, h1, g1], by simp only [Sh.ptrs, h2, g2, List.append_nil], by simp only [Sh.plain, h3, g3, Bool.and_self], fun x k => ?_⟩
    have a1 := (h4 x.1 k).1
    have e2 : (l.mk x.1 k).2.2 = k := by rw [a1]
    have a2 := (g4 x.2 k).1
    refine ⟨by simp only [Sh.mk, a1, a2, List.append_nil], fun i => one ⟨fun rr => ?_, fun d => ?_, fun m => ?_⟩⟩
    · simp only [DV.toV, V.ren, e2]; congr 1
      · exact funext fun j => ((h4 x.1 k).2 j).1 rr
      · exact funext fun j => ((g4 x.2 k).2 j).1 rr
    · simp only [DV.toV, V.sh, e2]; congr 1
      · exact funext fun j => ((h4 x.1 k).2 j).2.1 d
      · exact funext fun j => ((g4 x.2 k).2 j).2.1 d
    · simp only [e2]
      exact ⟨fun j _ => ((h4 x.1 k).2 j).2.2 m, fun j _ => ((g4 x.2 k).2 j).2.2 m⟩
  | cons a b ih1 ih2 =>
    intro h
    simp only [Sh.closed, Bool.and_eq_true] at h
    obtain ⟨h1, h2, h3, h4⟩ := ih1 h.1
    obtain ⟨g1, g2, g3, g4⟩ := ih2 h.2
    refine ⟨by simp only [Sh.cnt, h1, g1], by simp only [Sh.ptrs, h2, g2, List.append_nil], by simp only [Sh.plain, h3, g3, Bool.and_self], fun x k => ?_⟩
    have a1 := (h4 x.1 k).1
    have e2 : (a.mk x.1 k).2.2 = k := by rw [a1]
    have a2 := (g4 x.2 k).1
    refine ⟨by simp only [Sh.mk, a1, a2, List.append_nil], fun i => ?_⟩
    simp only [Sh.mk, e2]
    cases i with
    | zero => exact (h4 x.1 k).2 0
    | succ i => exact (g4 x.2 k).2 i
  | alt q a b ih1 ih2 =>
    intro h
    have h' := h
    simp only [Sh.closed, Bool.and_eq_true] at h
    obtain ⟨h1, h2, h3, h4⟩ := ih1 h.1
    obtain ⟨g1, g2, g3, g4⟩ := ih2 h.2
    refine ⟨rfl, rfl, rfl, fun x k => ⟨rfl, fun i => one ?_⟩⟩
    rw [h.1, h.2]
    obtain ⟨c, u, v⟩ := x
    exact alt_P (P := fun w => (∀ rr, w.ren rr = w) ∧ (∀ d, w.sh d = w) ∧ ∀ m, w.lt m) q c _ _ ⟨fun _ => rfl, fun _ => rfl, fun _ => trivial⟩ (fun _ => (h4 u 0).2 0) (fun _ => (g4 v 0).2 0)
  | nil => intro h; exact ⟨rfl, rfl, rfl, fun x k => ⟨rfl, fun i => ⟨fun _ => rfl, fun _ => rfl, fun _ => trivial⟩⟩⟩
  | hole τ => intro h; exact ⟨rfl, rfl, rfl, fun x k => ⟨rfl, fun i => one ⟨fun _ => rfl, fun _ => rfl, fun _ => trivial⟩⟩⟩
  | nilp => intro h; exact ⟨rfl, rfl, rfl, fun x k => ⟨rfl, fun i => one ⟨fun _ => rfl, fun _ => rfl, fun _ => trivial⟩⟩⟩
  | nils => intro h; exact ⟨rfl, rfl, rfl, fun x k => ⟨rfl, fun i => one ⟨fun _ => rfl, fun _ => rfl, fun _ => trivial⟩⟩⟩
  | nilv kd => intro h; exact ⟨rfl, rfl, rfl, fun x k => ⟨rfl, fun i => one ⟨fun _ => rfl, fun _ => rfl, fun _ => trivial⟩⟩⟩
  | cst g t => intro h; exact ⟨rfl, rfl, rfl, fun x k => ⟨rfl, fun i => one ⟨fun _ => rfl, fun _ => rfl, fun _ => trivial⟩⟩⟩
  | dead => intro h; exact ⟨rfl, rfl, rfl, fun x k => ⟨rfl, fun i => one ⟨fun _ => rfl, fun _ => rfl, fun _ => trivial⟩⟩⟩
def altV (q : Bool) (a b : Sh) (x : den (Sh.alt q a b).ty) : DV := cond (a.closed && b.closed) (cond q (.alt x.1 (dl (a.mk x.2.1 0).1 0) (dl (b.mk x.2.2 0).1 0)) (cond x.1 (dl (a.mk x.2.1 0).1 0) (dl (b.mk x.2.2 0).1 0))) .dead
theorem altV_P {P : V → Prop} {q : Bool} {a b : Sh} {x : den (Sh.alt q a b).ty} (hd : P .dead) (h1 : x.1 = true → a.closed = true → P (dl (a.mk x.2.1 0).1 0).toV) (h2 : x.1 = false → b.closed = true → P (dl (b.mk x.2.2 0).1 0).toV) : P (altV q a b x).toV := by
  unfold altV
  cases ha : a.closed with
  | false => exact hd
  | true =>
    cases hb : b.closed with
    | false => exact hd
    | true => exact alt_P q x.1 _ _ hd (fun h => h1 h ha) (fun h => h2 h hb)
theorem altV_ok (q : Bool) (a b : Sh) (x : den (Sh.alt q a b).ty) : (∀ rr, (altV q a b x).toV.ren rr = (altV q a b x).toV) ∧ (∀ d, (altV q a b x).toV.sh d = (altV q a b x).toV) ∧ ∀ m, (altV q a b x).toV.lt m :=
  altV_P (P := fun w => (∀ rr, w.ren rr = w) ∧ (∀ d, w.sh d = w) ∧ ∀ m, w.lt m) ⟨fun _ => rfl, fun _ => rfl, fun _ => trivial⟩ (fun _ ha => ((closed_ok ha).2.2.2 x.2.1 0).2 0) (fun _ hb => ((closed_ok hb).2.2.2 x.2.2 0).2 0)
abbrev Src := (Nat × DOb) × Option Nat
theorem dl_cons_zero (v : DV) (l : List DV) : dl (v :: l) 0 = v := rfl
theorem dl_cons_succ (v : DV) (l : List DV) (i : Nat) : dl (v :: l) (i + 1) = dl l i := rfl
theorem VW_dead (μ : Nat → Nat) (O O' : Ow) (u : V) : VW μ O O' u .dead := by
  cases u <;> simp [VW]
theorem VLe_dead (u : V) : VLe u .dead := fun _ _ _ _ _ _ _ => trivial
theorem VLe.tup {n : Nat} {f g : Nat → V} (h : ∀ j, j < n → VLe (f j) (g j)) : VLe (.tup n f) (.tup n g) := fun b ρ O w _ hmo ⟨cs, e, hn, hf⟩ =>
  ⟨cs, e, hn, fun j hj => h j hj b ρ O w _ hmo (hf j hj)⟩
theorem VLe.ifc {t : TypeId} {u v : V} (h : VLe u v) : VLe (.ifc t u) (.ifc t v) := fun b ρ O w _ hmo ⟨y, e, hy⟩ => ⟨y, e, h b ρ O w _ hmo hy⟩
theorem VLe.clo {fn : FuncId} {n m : Nat} {f f' g g' : Nat → V} (h : ∀ j, j < n → VLe (f j) (f' j)) (h' : ∀ j, j < m → VLe (g j) (g' j)) : VLe (.clo fn n f m g) (.clo fn n f' m g') :=
  fun b ρ O w _ hmo ⟨A, D, e, hn, hm, hf, hg⟩ => ⟨A, D, e, hn, hm, fun j hj => h j hj b ρ O w _ hmo (hf j hj), fun j hj => h' j hj b ρ O w _ hmo (hg j hj)⟩

def verD : Option DOb → Nat
  | some (.arr _ _ _ v _) => v
  | _ => 0
structure Fits (md : Md) (σ : DSt) (s : Sh) (f : Nat → DV) (x : den s.ty) (srcs : List (Option Nat)) (k : Nat) : Prop where
  len : srcs.length = (s.mk x k).2.1.length
  vw : ∀ (μ : Nat → Nat) (O' : Ow), (∀ id ∈ s.ptrs, μ id = id ∧ ∃ o o', σ.st.O id = some o ∧ O' id = some o' ∧ o.ver = 0) →
    (∀ q ∈ (s.mk x k).2.1.zip srcs, O' q.1.1 = some q.1.2.toOb ∧ match q.2 with
      | some id => μ q.1.1 = id
      | none => σ.st.O (μ q.1.1) = none) →
    (∀ i, VW μ σ.st.O O' (f i).toV (dl (s.mk x k).1 i).toV) ∧
    ∀ q ∈ (s.mk x k).2.1.zip srcs, match q.2 with
      | some id => ∃ o, σ.O id = some o ∧ OW μ σ.st.O O' o.toOb q.1.2.toOb
      | none => ∃ zz e s v f, q.1.2.toOb = .arr zz e s v 0 f
  le : md = .no → ∀ (r d : Nat → Nat), s.plain = true → (∀ q ∈ (s.mk x k).2.1.zip srcs, q.2 = some (r q.1.1) ∧ d q.1.1 = verD (σ.O (r q.1.1))) →
    (∀ i, VLe (f i).toV (((dl (s.mk x k).1 i).toV.sh d).ren r)) ∧
    ∀ q ∈ (s.mk x k).2.1.zip srcs, ∃ o, σ.O (r q.1.1) = some o ∧ OLe o.toOb ((q.1.2.toOb.sh d q.1.1).ren r)

section
variable {R : Type} {σ : DSt} {r : R}
theorem fits_one {md : Md} {s : Sh} {f : Nat → DV} {x : den s.ty} {k : Nat} {v : DV} (h1 : (s.mk x k).1 = [v]) (h2 : (s.mk x k).2.1 = [])
    (hv : ∀ (μ : Nat → Nat) (O' : Ow), (∀ id ∈ s.ptrs, μ id = id ∧ ∃ o o', σ.st.O id = some o ∧ O' id = some o' ∧ o.ver = 0) → VW μ σ.st.O O' (f 0).toV v.toV)
    (hl : md = .no → ∀ (r d : Nat → Nat), s.plain = true → VLe (f 0).toV ((v.toV.sh d).ren r)) : Fits md σ s f x [] k where
  len := by rw [h2]; rfl
  vw μ O' hp _ := by
    rw [h1, h2]
    refine ⟨fun i => ?_, fun q hq => by cases hq⟩
    cases i with
    | zero => exact hv μ O' hp
    | succ i => exact VW_dead _ _ _ _
  le hm r d hp _ := by
    rw [h1, h2]
    refine ⟨fun i => ?_, fun q hq => by cases hq⟩
    cases i with
    | zero => exact hl hm r d hp
    | succ i => exact VLe_dead _
theorem allLt_of {n : Nat} {p : Nat → Prop} (h : ∀ j, p j) : allLt n p := allLt_iff.2 fun j _ => h j

theorem get_fits : ∀ {s : Sh} {md : Md} {f : Nat → DV} {K : den s.ty → List (Option Nat) → List Nat → Option R}, md ≠ .view → s.get σ md f K = some r → ∃ x srcs, K x srcs [] = some r ∧ ∀ k, Fits md σ s f x srcs k := by
  intro s
  induction s with
  | hole τ =>
    intro md f K hmd h
    have hd : md.deep = md := by cases md <;> first | rfl | exact absurd rfl hmd
    simp only [Sh.get] at h
    split at h
    · rename_i τ' x hf
      cases hc : castLe τ' τ x with
      | none => simp [hc] at h
      | some y =>
        simp only [hc] at h
        obtain ⟨he, rfl⟩ := castLe_some hc
        refine ⟨_, [], h, fun k => fits_one rfl rfl (fun μ O' _ => ?_) fun hm r d _ => ?_⟩
        · rw [hf]; simp only [DV.toV, VW]; exact Tp.leb_cell he _ 0
        · rw [hf]; exact VLe.im (Tp.leb_cell he _ 0)
    · rename_i v hf
      have h0 := cond_some h; clear h; obtain ⟨hv, h⟩ := h0
      obtain rfl := isNil_eq hv
      cases τ with
      | sl q e =>
        refine ⟨[], [], h, fun k => fits_one rfl rfl (fun μ O' _ => ?_) fun hm r d _ => ?_⟩
        · rw [hf]; simp only [DV.toV, VW, cellT]; exact le_nil
        · rw [hf]; exact VLe.im le_nil
      | _ => cases h
    · rename_i q τ' l n hf
      cases hc : castLe (.sl q τ') τ (List.take n l) with
      | none => simp [hc] at h
      | some y =>
        simp only [hc] at h
        have h0 := cond_some h; clear h; obtain ⟨hn, h⟩ := h0
        simp only [decide_eq_true_eq] at hn
        refine ⟨_, [], h, fun k => fits_one rfl rfl (fun μ O' _ => ?_) fun hm r d _ => ?_⟩
        · rw [hf]; simp only [DV.toV, VW]; exact sd_le hc hn
        · rw [hf]; exact VLe.im (sd_le hc hn)
    · rename_i id ver off len w hf
      have h0 := cond_some h; clear h; obtain ⟨hs, h⟩ := h0
      split at h
      · rename_i z' e τ' ver' l ho
        have h0 := cond_some h; clear h; obtain ⟨hn, h⟩ := h0
        simp only [Bool.and_eq_true] at hn
        obtain rfl := nbeq hn.1
        have hmd' : md = .share := by
          cases md with
          | no => cases hs
          | view => exact absurd rfl hmd
          | share => rfl
        subst hmd'
        cases hc : castLe (.sl .new τ') τ (subl (τ := τ') l off len w) with
        | none => simp [Md.col, hc] at h
        | some y =>
          simp only [Md.col, hc] at h
          have h0 := cond_some h; clear h; obtain ⟨hw, h⟩ := h0
          obtain ⟨he, rfl⟩ := castLe_some hc
          cases z' with
          | own => cases hn.2
          | app => cases hn.2
          | sh =>
            obtain ⟨h1, h2⟩ := subl_le l off len w hw
            refine ⟨_, [], h, fun k => fits_one rfl rfl (fun μ O' _ => ?_) fun hm => by cases hm⟩
            rw [hf]
            simp only [DV.toV, VW, O_st_some ho, DOb.toOb]
            exact ⟨trivial, T.le_trans (sl_le h1 fun i j hi _ => T.le_of_eq (by simp only [rowsT]; rw [h2 i hi])) (Tp.leb_cell he _ 0)⟩
      · cases h
    · cases h
  | own zz e τ =>
    intro md f K hmd h
    have hd : md.deep = md := by cases md <;> first | rfl | exact absurd rfl hmd
    simp only [Sh.get] at h
    split at h
    · rename_i id ver off len w hf
      split at h
      · rename_i z' e' τ' ver' l ho
        have h0 := cond_some h; clear h; obtain ⟨hn, h⟩ := h0
        simp only [Bool.and_eq_true] at hn
        obtain ⟨hgz, hge⟩ := Md.fit_ok hn.1
        obtain rfl := nbeq hn.2.1
        obtain rfl := nbeq hn.2.2.1
        obtain rfl := nbeq hn.2.2.2
        cases hc : castTp (.sl .new τ') (.sl .new τ) l with
        | none => simp [hc] at h
        | some y =>
          simp only [hc] at h
          obtain ⟨he, hy⟩ := castTp_some hc
          cases he
          subst hy
          have h0 := cond_some h; clear h; obtain ⟨hl, h⟩ := h0
          simp only [decide_eq_true_eq] at hl
          subst hl
          refine ⟨l, [some id], h, fun k => ⟨rfl, fun μ O' _ hq => ?_, fun hm r d hp hq => ?_⟩⟩
          · obtain ⟨q1, q2⟩ := hq ((k, .arr zz e' τ 0 l), some id) (by simp [Sh.mk])
            simp only at q1 q2
            refine ⟨fun i => ?_, fun q hq => ?_⟩
            · cases i with
              | zero =>
                rw [hf]
                simp only [Sh.mk, dl_cons_zero, DV.toV, VW, q2, O_st_some ho, q1]
                exact ⟨trivial, trivial, trivial, Nat.le_refl _, fun _ => rfl⟩
              | succ i => exact VW_dead _ _ _ _
            · obtain rfl : q = ((k, .arr zz e' τ 0 l), some id) := by simpa [Sh.mk] using hq
              exact ⟨_, ho, hgz, rfl, rfl, rfl, fun i j _ _ => T.le_refl _⟩
          · obtain ⟨q1, q2⟩ := hq ((k, .arr zz e' τ 0 l), some id) (by simp [Sh.mk])
            simp only [Option.some.injEq] at q1 q2
            rw [← q1, ho] at q2
            have q3 : d k = ver' := q2
            refine ⟨fun i => ?_, fun q hq => ?_⟩
            · cases i with
              | zero =>
                rw [hf]
                simp only [Sh.mk, dl_cons_zero, DV.toV, V.sh, V.ren, q3, ← q1, Nat.zero_add]
                exact VLe.refl _
              | succ i => exact VLe_dead _
            · obtain rfl : q = ((k, .arr zz e' τ 0 l), some id) := by simpa [Sh.mk] using hq
              refine ⟨.arr z' e' τ ver' l, by simp only [← q1]; exact ho, ?_⟩
              simp only [DOb.toOb, Ob.sh, Ob.ren, q3, Nat.zero_add]
              exact ⟨(hge (by rw [hm]; nofun)).symm, rfl, rfl, rfl, rfl, fun i j _ _ => T.le_refl _⟩
      · cases h
    · rename_i v hf
      have h0 := cond_some h; clear h; obtain ⟨hv, h⟩ := h0
      obtain rfl := isNil_eq hv
      refine ⟨[], [none], h, fun k => ⟨rfl, fun μ O' _ hq => ?_, fun hm r d _ hq => ?_⟩⟩
      · obtain ⟨q1, q2⟩ := hq ((k, .arr zz e τ 0 []), none) (by simp [Sh.mk])
        simp only at q1 q2
        refine ⟨fun i => ?_, fun q hq => ?_⟩
        · cases i with
          | zero =>
            rw [hf]
            simp only [Sh.mk, dl_cons_zero, DV.toV, VW, q2, q1]
            exact ⟨trivial, rfl, rfl, rfl⟩
          | succ i => exact VW_dead _ _ _ _
        · obtain rfl : q = ((k, .arr zz e τ 0 []), none) := by simpa [Sh.mk] using hq
          exact ⟨zz, e, τ.size, 0, _, rfl⟩
      · have q1 := hq ((k, .arr zz e τ 0 []), none) (by simp [Sh.mk])
        cases q1.1
    · cases h
  | mown ag κ τ =>
    intro md f K hmd h
    simp only [Sh.get] at h
    split at h
    · rename_i id hf
      split at h
      · rename_i ag' κ' τ' l ho
        have h0 := cond_some h; clear h; obtain ⟨hn, h⟩ := h0
        obtain rfl : ag' = ag := by simpa using hn
        cases hc : castTp (.sl .new (.pair κ' τ')) (.sl .new (.pair κ τ)) l with
        | none => simp [hc] at h
        | some y =>
          simp only [hc] at h
          obtain ⟨he, hy⟩ := castTp_some hc
          cases he
          subst hy
          refine ⟨l, [some id], h, fun k => ⟨rfl, fun μ O' _ hq => ?_, fun hm r d hp hq => ?_⟩⟩
          · obtain ⟨q1, q2⟩ := hq ((k, .map ag' κ τ l), some id) (by simp [Sh.mk])
            simp only at q1 q2
            refine ⟨fun i => ?_, fun q hq => ?_⟩
            · cases i with
              | zero =>
                rw [hf]
                simp only [Sh.mk, dl_cons_zero, DV.toV, VW, q2, O_st_some ho, q1]
                exact ⟨trivial, trivial⟩
              | succ i => exact VW_dead _ _ _ _
            · obtain rfl : q = ((k, .map ag' κ τ l), some id) := by simpa [Sh.mk] using hq
              exact ⟨_, ho, rfl, fun _ _ => rfl, fun _ _ => T.le_refl _⟩
          · obtain ⟨q1, q2⟩ := hq ((k, .map ag' κ τ l), some id) (by simp [Sh.mk])
            simp only [Option.some.injEq] at q1 q2
            refine ⟨fun i => ?_, fun q hq => ?_⟩
            · cases i with
              | zero =>
                rw [hf]
                simp only [Sh.mk, dl_cons_zero, DV.toV, V.sh, V.ren, ← q1]
                exact VLe.refl _
              | succ i => exact VLe_dead _
            · obtain rfl : q = ((k, .map ag' κ τ l), some id) := by simpa [Sh.mk] using hq
              refine ⟨.map ag' κ τ l, by simp only [← q1]; exact ho, ?_⟩
              exact OLe.refl _
      · cases h
    · cases h
  | box e n l ih =>
    intro md f K hmd h
    have hd : md.deep = md := by cases md <;> first | rfl | exact absurd rfl hmd
    simp only [Sh.get, hd] at h
    split at h
    · rename_i id hf
      split at h
      · rename_i e' n' g ho
        have h0 := cond_some h; clear h; obtain ⟨hn, h⟩ := h0
        simp only [Bool.and_eq_true] at hn
        obtain rfl := nbeq hn.1
        obtain rfl := nbeq hn.2
        obtain ⟨x, srcs, h, hx⟩ := ih hmd h
        refine ⟨x, some id :: srcs, h, fun k => ⟨by simp [Sh.mk, (hx (k + 1)).len], fun μ O' hp hq => ?_, fun hm r d hp hq => ?_⟩⟩
        · obtain ⟨q1, q2⟩ := hq ((k, .var e' n' (dl (l.mk x (k + 1)).1)), some id) (by simp [Sh.mk])
          simp only at q1 q2
          obtain ⟨c1, c2⟩ := (hx (k + 1)).vw μ O' hp fun q hq' => hq q (by simp only [Sh.mk, List.zip_cons_cons]; exact List.mem_cons_of_mem _ hq')
          refine ⟨fun i => ?_, fun q hq' => ?_⟩
          · cases i with
            | zero =>
              rw [hf]
              simp only [Sh.mk, dl_cons_zero, DV.toV, VW, q2, O_st_some ho, q1]
              exact ⟨trivial, trivial, trivial, Nat.zero_le _, fun _ => rfl⟩
            | succ i => exact VW_dead _ _ _ _
          · simp only [Sh.mk, List.zip_cons_cons] at hq'
            rcases List.mem_cons.1 hq' with rfl | hq'
            · exact ⟨_, ho, rfl, rfl, allLt_of c1⟩
            · exact c2 q hq'
        · obtain ⟨q1, q2⟩ := hq ((k, .var e' n' (dl (l.mk x (k + 1)).1)), some id) (by simp [Sh.mk])
          simp only [Option.some.injEq] at q1 q2
          subst q1
          rw [ho] at q2
          have q3 : d k = 0 := q2
          obtain ⟨c1, c2⟩ := (hx (k + 1)).le hm r d hp fun q hq' => hq q (by simp only [Sh.mk, List.zip_cons_cons]; exact List.mem_cons_of_mem _ hq')
          refine ⟨fun i => ?_, fun q hq' => ?_⟩
          · cases i with
            | zero =>
              rw [hf]
              simp only [Sh.mk, dl_cons_zero, DV.toV, V.sh, V.ren, q3]
              exact VLe.refl _
            | succ i => exact VLe_dead _
          · simp only [Sh.mk, List.zip_cons_cons] at hq'
            rcases List.mem_cons.1 hq' with rfl | hq'
            · exact ⟨_, ho, rfl, rfl, fun j _ => c1 j⟩
            · exact c2 q hq'
      · cases h
    · cases h
  | ptr id' =>
    intro md f K hmd h
    have hd : md.deep = md := by cases md <;> first | rfl | exact absurd rfl hmd
    simp only [Sh.get] at h
    split at h
    · rename_i id hf
      have h0 := cond_some h; clear h; obtain ⟨hn, h⟩ := h0
      obtain rfl := nbeq hn
      refine ⟨(), [], h, fun k => fits_one rfl rfl (fun μ O' hp => ?_) fun hm r d hp => by cases hp⟩
      obtain ⟨p1, o, o', p2, p3, p4⟩ := hp id (by simp [Sh.ptrs])
      rw [hf]
      simp only [DV.toV, VW, p1, p2, p3]
      exact ⟨trivial, trivial, trivial, Nat.zero_le _, fun _ => p4⟩
    · cases h
  | nilp =>
    intro md f K hmd h
    have hd : md.deep = md := by cases md <;> first | rfl | exact absurd rfl hmd
    simp only [Sh.get] at h
    split at h
    · rename_i v hf
      have h0 := cond_some h; clear h; obtain ⟨hv, h⟩ := h0
      obtain rfl := isNilP_eq hv
      refine ⟨(), [], h, fun k => fits_one rfl rfl (fun μ O' _ => ?_) fun hm r d _ => ?_⟩
      · rw [hf]; simp only [DV.toV, VW]; exact T.le_refl _
      · rw [hf]; exact VLe.refl _
    · cases h
  | nils =>
    intro md f K hmd h
    have hd : md.deep = md := by cases md <;> first | rfl | exact absurd rfl hmd
    simp only [Sh.get] at h
    split at h
    · rename_i v hf
      have h0 := cond_some h; clear h; obtain ⟨hv, h⟩ := h0
      obtain rfl := isNil_eq hv
      refine ⟨(), [], h, fun k => fits_one rfl rfl (fun μ O' _ => ?_) fun hm r d _ => ?_⟩
      · rw [hf]; simp only [DV.toV, VW]; exact T.le_refl _
      · rw [hf]; exact VLe.refl _
    · cases h
  | nilv kd =>
    intro md f K hmd h
    simp only [Sh.get] at h
    split at h
    · rename_i v hf
      have h0 := cond_some h; clear h; obtain ⟨hv, h⟩ := h0
      obtain rfl := isNilV_eq hv
      refine ⟨(), [], h, fun k => fits_one rfl rfl (fun μ O' _ => ?_) fun hm r d _ => ?_⟩
      · rw [hf]; simp only [DV.toV, VW]; exact T.le_refl _
      · rw [hf]; exact VLe.refl _
    · cases h
  | cst g t =>
    intro md f K hmd h
    simp only [Sh.get] at h
    split at h
    · rename_i g' t' hf
      have h0 := cond_some h; clear h; obtain ⟨hv, h⟩ := h0
      simp only [Bool.and_eq_true] at hv
      obtain rfl := nbeq hv.1
      obtain rfl := nbeq hv.2
      refine ⟨(), [], h, fun k => fits_one rfl rfl (fun μ O' _ => ?_) fun hm r d _ => ?_⟩
      · rw [hf]; simp only [DV.toV, VW]; exact T.le_refl _
      · rw [hf]; exact VLe.refl _
    · cases h
  | look l ih =>
    intro md f K hmd h
    have hl : md.looks = false := by cases md <;> first | rfl | exact absurd rfl hmd
    simp only [Sh.get, hl, Bool.false_and, cond_false] at h
    split at h
    · rename_i id hf
      have h0 := cond_some h; clear h; obtain ⟨_, h⟩ := h0
      split at h
      · cases h
      · rename_i z e τ' ver l' ho
        have h0 := cond_some h; clear h; obtain ⟨hn, h⟩ := h0
        simp only [Bool.and_eq_true] at hn
        obtain rfl := Zz.eqb_eq hn.2.1
        obtain rfl := nbeq hn.2.2
        have hs : md = .share := by cases md <;> first | rfl | cases hn.1
        cases hc : castTp (.sl .new τ') (.sl .new l.ty) l' with
        | none => simp [hc] at h
        | some y =>
          simp only [hc] at h
          obtain ⟨he, hy⟩ := castTp_some hc
          cases he
          subst hy
          match l', h, ho with
          | [y], h, ho =>
            refine ⟨y, [], h, fun k => fits_one rfl rfl (fun μ O' _ => ?_) fun hm r d _ => by rw [hs] at hm; cases hm⟩
            rw [hf]
            simp only [DV.toV, VW, O_st_some ho, DOb.toOb]
            exact ⟨rfl, trivial, trivial, trivial, trivial, trivial, Nat.zero_lt_one, fun a c _ _ => T.le_refl _⟩
      · cases h
    · rename_i q τ' l' hf
      cases hc : castTp (.sl .new τ') (.sl .new l.ty) l' with
      | none => simp [hc] at h
      | some y =>
        simp only [hc] at h
        obtain ⟨he, hy⟩ := castTp_some hc
        cases he
        subst hy
        match l', h, hf with
        | [y], h, hf =>
          refine ⟨y, [], h, fun k => fits_one rfl rfl (fun μ O' _ => ?_) fun hm r d _ => ?_⟩
          · rw [hf]; simp only [DV.toV, VW]; exact .inr trivial
          · rw [hf]; exact VLe.elem
    · cases h
  | alt q a b ih1 ih2 =>
    intro md f K hmd h
    have hd : md.deep = md := by cases md <;> first | rfl | exact absurd rfl hmd
    simp only [Sh.get, hd] at h
    have h0 := cond_some h; clear h; obtain ⟨hc, h⟩ := h0
    simp only [Bool.and_eq_true] at hc
    obtain ⟨a1, a2, a3, a4⟩ := closed_ok hc.1
    obtain ⟨b1, b2, b3, b4⟩ := closed_ok hc.2
    split at h
    · rename_i c x0 y0 hf
      have h0 := cond_some h; clear h; obtain ⟨hone, h⟩ := h0
      obtain ⟨x, srcs, h, hx⟩ := ih1 (md := .no) (by intro h; cases h) h
      obtain ⟨y, srcs', h, hy⟩ := ih2 (md := .no) (by intro h; cases h) h
      have e0 : (f 0).toV = cond c x0.toV y0.toV := by rw [hf]; simp only [DV.toV, hone, cond_true]
      refine ⟨(c, x, y), [], h, fun k => fits_one (v := altV q a b (c, x, y)) rfl rfl (fun μ O' _ => ?_) fun hm r d _ => ?_⟩
      · refine altV_P (P := fun w => VW _ _ _ _ w) (VW_dead _ _ _ _) (fun h1 _ => ?_) (fun h1 _ => ?_)
        · rw [e0, show c = true from h1]; exact ((hx 0).vw μ O' (fun id hid => by rw [a2] at hid; cases hid) (fun q hq => by rw [(a4 x 0).1] at hq; cases hq)).1 0
        · rw [e0, show c = false from h1]; exact ((hy 0).vw μ O' (fun id hid => by rw [b2] at hid; cases hid) (fun q hq => by rw [(b4 y 0).1] at hq; cases hq)).1 0
      · refine altV_P (P := fun w => VLe (f 0).toV (V.ren r (V.sh d w))) (VLe_dead _) (fun h1 _ => ?_) (fun h1 _ => ?_)
        · rw [e0, show c = true from h1]; exact ((hx 0).le rfl r d a3 (fun q hq => by rw [(a4 x 0).1] at hq; cases hq)).1 0
        · rw [e0, show c = false from h1]; exact ((hy 0).le rfl r d b3 (fun q hq => by rw [(b4 y 0).1] at hq; cases hq)).1 0
    cases ht : a.takes (f 0) with
    | true =>
      rw [ht] at h
      obtain ⟨x, srcs, h, hx⟩ := ih1 hmd h
      have hl := (hx 0).len
      rw [(a4 x 0).1] at hl
      obtain rfl := List.length_eq_zero_iff.1 hl
      refine ⟨(true, x, dflt b.ty), [], h, fun k => fits_one (v := altV q a b (true, x, dflt b.ty)) rfl rfl (fun μ O' _ => ?_) fun hm r d _ => ?_⟩
      · exact altV_P (P := fun w => VW _ _ _ _ w) (VW_dead _ _ _ _) (fun _ _ => ((hx 0).vw μ O' (fun id hid => by rw [a2] at hid; cases hid) (fun q hq => by rw [(a4 x 0).1] at hq; cases hq)).1 0) (fun h _ => by cases h)
      · exact altV_P (P := fun w => VLe (f 0).toV (V.ren r (V.sh d w))) (VLe_dead _) (fun _ _ => ((hx 0).le hm r d a3 (fun q hq => by rw [(a4 x 0).1] at hq; cases hq)).1 0) (fun h _ => by cases h)
    | false =>
      rw [ht] at h
      obtain ⟨x, srcs, h, hx⟩ := ih2 hmd h
      have hl := (hx 0).len
      rw [(b4 x 0).1] at hl
      obtain rfl := List.length_eq_zero_iff.1 hl
      refine ⟨(false, dflt a.ty, x), [], h, fun k => fits_one (v := altV q a b (false, dflt a.ty, x)) rfl rfl (fun μ O' _ => ?_) fun hm r d _ => ?_⟩
      · exact altV_P (P := fun w => VW _ _ _ _ w) (VW_dead _ _ _ _) (fun h _ => by cases h) (fun _ _ => ((hx 0).vw μ O' (fun id hid => by rw [b2] at hid; cases hid) (fun q hq => by rw [(b4 x 0).1] at hq; cases hq)).1 0)
      · exact altV_P (P := fun w => VLe (f 0).toV (V.ren r (V.sh d w))) (VLe_dead _) (fun h _ => by cases h) (fun _ _ => ((hx 0).le hm r d b3 (fun q hq => by rw [(b4 x 0).1] at hq; cases hq)).1 0)
  | agg n l ih =>
    intro md f K hmd h
    have hd : md.deep = md := by cases md <;> first | rfl | exact absurd rfl hmd
    simp only [Sh.get] at h
    split at h
    · rename_i n' g hf
      have h0 := cond_some h; clear h; obtain ⟨hn, h⟩ := h0
      obtain rfl := nbeq hn
      obtain ⟨x, srcs, h, hx⟩ := ih hmd h
      refine ⟨x, srcs, h, fun k => ⟨(hx k).len, fun μ O' hp hq => ?_, fun hm r d hp hq => ?_⟩⟩
      · obtain ⟨c1, c2⟩ := (hx k).vw μ O' hp hq
        refine ⟨fun i => ?_, c2⟩
        cases i with
        | zero => rw [hf]; simp only [Sh.mk, dl_cons_zero, DV.toV, VW]; exact ⟨trivial, allLt_of c1⟩
        | succ i => exact VW_dead _ _ _ _
      · obtain ⟨c1, c2⟩ := (hx k).le hm r d hp hq
        refine ⟨fun i => ?_, c2⟩
        cases i with
        | zero => rw [hf]; exact VLe.agg fun j _ => c1 j
        | succ i => exact VLe_dead _
    · cases h
  | tup n l ih =>
    intro md f K hmd h
    have hd : md.deep = md := by cases md <;> first | rfl | exact absurd rfl hmd
    simp only [Sh.get, hd] at h
    split at h
    · rename_i n' g hf
      have h0 := cond_some h; clear h; obtain ⟨hn, h⟩ := h0
      obtain rfl := nbeq hn
      obtain ⟨x, srcs, h, hx⟩ := ih hmd h
      refine ⟨x, srcs, h, fun k => ⟨(hx k).len, fun μ O' hp hq => ?_, fun hm r d hp hq => ?_⟩⟩
      · obtain ⟨c1, c2⟩ := (hx k).vw μ O' hp hq
        refine ⟨fun i => ?_, c2⟩
        cases i with
        | zero => rw [hf]; simp only [Sh.mk, dl_cons_zero, DV.toV, VW]; exact ⟨trivial, allLt_of c1⟩
        | succ i => exact VW_dead _ _ _ _
      · obtain ⟨c1, c2⟩ := (hx k).le hm r d hp hq
        refine ⟨fun i => ?_, c2⟩
        cases i with
        | zero => rw [hf]; exact VLe.tup fun j _ => c1 j
        | succ i => exact VLe_dead _
    · cases h
  | clo fn n l m c ih1 ih2 =>
    intro md f K hmd h
    have hd : md.deep = md := by cases md <;> first | rfl | exact absurd rfl hmd
    simp only [Sh.get, hd] at h
    split at h
    · rename_i fn' n' g m' g' hf
      have h0 := cond_some h; clear h; obtain ⟨hn, h⟩ := h0
      simp only [Bool.and_eq_true] at hn
      obtain rfl := nbeq hn.1
      obtain rfl := nbeq hn.2.1
      obtain rfl := nbeq hn.2.2
      obtain ⟨x, srcs, h, hx⟩ := ih1 hmd h
      obtain ⟨y, srcs', h, hy⟩ := ih2 hmd h
      refine ⟨(x, y), srcs ++ srcs', h, fun k => ?_⟩
      have hx := hx k
      have hy := hy (l.mk x k).2.2
      have hz : (Sh.mk (.clo fn' n' l m' c) (x, y) k).2.1.zip (srcs ++ srcs') = (l.mk x k).2.1.zip srcs ++ (c.mk y (l.mk x k).2.2).2.1.zip srcs' := by
        simp only [Sh.mk]
        exact List.zip_append hx.len.symm
      refine ⟨by simp [Sh.mk, hx.len, hy.len], fun μ O' hp hq => ?_, fun hm r d hp hq => ?_⟩
      · rw [hz] at hq ⊢
        obtain ⟨c1, c2⟩ := hx.vw μ O' (fun id hid => hp id (by simp [Sh.ptrs, hid])) fun q hq' => hq q (List.mem_append_left _ hq')
        obtain ⟨d1, d2⟩ := hy.vw μ O' (fun id hid => hp id (by simp [Sh.ptrs, hid])) fun q hq' => hq q (List.mem_append_right _ hq')
        refine ⟨fun i => ?_, fun q hq' => ?_⟩
        · cases i with
          | zero => rw [hf]; simp only [Sh.mk, dl_cons_zero, DV.toV, VW]; exact ⟨trivial, trivial, trivial, allLt_of c1, allLt_of d1⟩
          | succ i => exact VW_dead _ _ _ _
        · rcases List.mem_append.1 hq' with hq' | hq'
          · exact c2 q hq'
          · exact d2 q hq'
      · rw [hz] at hq ⊢
        simp only [Sh.plain, Bool.and_eq_true] at hp
        obtain ⟨c1, c2⟩ := hx.le hm r d hp.1 fun q hq' => hq q (List.mem_append_left _ hq')
        obtain ⟨d1, d2⟩ := hy.le hm r d hp.2 fun q hq' => hq q (List.mem_append_right _ hq')
        refine ⟨fun i => ?_, fun q hq' => ?_⟩
        · cases i with
          | zero => rw [hf]; exact VLe.clo (fun j _ => c1 j) fun j _ => d1 j
          | succ i => exact VLe_dead _
        · rcases List.mem_append.1 hq' with hq' | hq'
          · exact c2 q hq'
          · exact d2 q hq'
    · cases h
  | ifc t s ih =>
    intro md f K hmd h
    have hd : md.deep = md := by cases md <;> first | rfl | exact absurd rfl hmd
    simp only [Sh.get, hd] at h
    split at h
    · rename_i t' v hf
      have h0 := cond_some h; clear h; obtain ⟨hn, h⟩ := h0
      obtain rfl := nbeq hn
      obtain ⟨x, srcs, h, hx⟩ := ih hmd h
      refine ⟨x, srcs, h, fun k => ⟨(hx k).len, fun μ O' hp hq => ?_, fun hm r d hp hq => ?_⟩⟩
      · obtain ⟨c1, c2⟩ := (hx k).vw μ O' hp hq
        refine ⟨fun i => ?_, c2⟩
        cases i with
        | zero => rw [hf]; simp only [Sh.mk, dl_cons_zero, DV.toV, VW]; exact ⟨trivial, c1 0⟩
        | succ i => exact VW_dead _ _ _ _
      · obtain ⟨c1, c2⟩ := (hx k).le hm r d hp hq
        refine ⟨fun i => ?_, c2⟩
        cases i with
        | zero => rw [hf]; exact VLe.ifc (c1 0)
        | succ i => exact VLe_dead _
    · cases h
  | dead =>
    intro md f K hmd h
    exact ⟨(), [], h, fun k => fits_one rfl rfl (fun μ O' _ => VW_dead _ _ _ _) fun hm r d _ => VLe_dead _⟩
  | nil =>
    intro md f K hmd h
    exact ⟨(), [], h, fun k => ⟨rfl, fun μ O' _ _ => ⟨fun i => VW_dead _ _ _ _, fun q hq => by cases hq⟩, fun hm r d _ _ => ⟨fun i => VLe_dead _, fun q hq => by cases hq⟩⟩⟩
  | cons a b ih1 ih2 =>
    intro md f K hmd h
    have hd : md.deep = md := by cases md <;> first | rfl | exact absurd rfl hmd
    simp only [Sh.get] at h
    obtain ⟨x, srcs, h, hx⟩ := ih1 hmd h
    obtain ⟨y, srcs', h, hy⟩ := ih2 hmd h
    refine ⟨(x, y), srcs ++ srcs', h, fun k => ?_⟩
    have hx := hx k
    have hy := hy (a.mk x k).2.2
    have hz : (Sh.mk (.cons a b) (x, y) k).2.1.zip (srcs ++ srcs') = (a.mk x k).2.1.zip srcs ++ (b.mk y (a.mk x k).2.2).2.1.zip srcs' := by
      simp only [Sh.mk]
      exact List.zip_append hx.len.symm
    refine ⟨by simp [Sh.mk, hx.len, hy.len], fun μ O' hp hq => ?_, fun hm r d hp hq => ?_⟩
    · rw [hz] at hq ⊢
      obtain ⟨c1, c2⟩ := hx.vw μ O' (fun id hid => hp id (by simp [Sh.ptrs, hid])) fun q hq' => hq q (List.mem_append_left _ hq')
      obtain ⟨d1, d2⟩ := hy.vw μ O' (fun id hid => hp id (by simp [Sh.ptrs, hid])) fun q hq' => hq q (List.mem_append_right _ hq')
      refine ⟨fun i => ?_, fun q hq' => ?_⟩
      · cases i with
        | zero => simp only [Sh.mk, dl_cons_zero]; exact c1 0
        | succ i => simp only [Sh.mk, dl_cons_succ]; exact d1 i
      · rcases List.mem_append.1 hq' with hq' | hq'
        · exact c2 q hq'
        · exact d2 q hq'
    · rw [hz] at hq ⊢
      simp only [Sh.plain, Bool.and_eq_true] at hp
      obtain ⟨c1, c2⟩ := hx.le hm r d hp.1 fun q hq' => hq q (List.mem_append_left _ hq')
      obtain ⟨d1, d2⟩ := hy.le hm r d hp.2 fun q hq' => hq q (List.mem_append_right _ hq')
      refine ⟨fun i => ?_, fun q hq' => ?_⟩
      · cases i with
        | zero => simp only [Sh.mk, dl_cons_zero]; exact c1 0
        | succ i => simp only [Sh.mk, dl_cons_succ]; exact d1 i
      · rcases List.mem_append.1 hq' with hq' | hq'
        · exact c2 q hq'
        · exact d2 q hq'
end
end Go.Proofs.Ytlmnhbobgfpanaa
