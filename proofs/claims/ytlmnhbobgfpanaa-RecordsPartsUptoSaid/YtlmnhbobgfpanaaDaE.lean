/-
  That typed operations do what the untyped ones do (1): slots, what is read, what is given away. General; nothing of this program.
-/
import Derived.Test.YtlmnhbobgfpanaaDaD
namespace Go.Proofs.Ytlmnhbobgfpanaa
open Go.RowKit

abbrev dups (us : List (Nat × DOb)) : List (Nat × Ob) := us.map fun p => (p.1, p.2.toOb)
theorem nbeq {a b : Nat} (h : Nat.beq a b = true) : a = b := Nat.eq_of_beq_eq_true h
theorem nbeq_ne {a b : Nat} (h : Nat.beq a b = false) : a ≠ b := Nat.ne_of_beq_eq_false h
theorem nbeq_iff {a b : Nat} : Nat.beq a b = decide (a = b) := by
  cases h : Nat.beq a b with
  | true => simp [nbeq h]
  | false => simp [nbeq_ne h]
theorem nble {a b : Nat} (h : Nat.ble a b = true) : a ≤ b := Nat.le_of_ble_eq_true h
theorem nblt {a b : Nat} (h : Nat.blt a b = true) : a < b := Nat.le_of_ble_eq_true h
theorem nble_iff {a b : Nat} : Nat.ble a b = decide (a ≤ b) := by
  cases h : Nat.ble a b with
  | true => simp [nble h]
  | false =>
    have : ¬ a ≤ b := fun k => by rw [Nat.ble_eq_true_of_le k] at h; cases h
    simp [this]
theorem nblt_iff {a b : Nat} : Nat.blt a b = decide (a < b) := nble_iff
theorem cond_some {α : Type} {b : Bool} {x : Option α} {r : α} (h : cond b x none = some r) : b = true ∧ x = some r := by
  cases b with
  | true => exact ⟨rfl, h⟩
  | false => cases h
theorem isNil_eq {v : Value} (h : isNil v = true) : v = .slice none 0 0 := by
  unfold isNil at h
  split at h
  · rfl
  · cases h
theorem isNilP_eq {v : Value} (h : isNilP v = true) : v = .pointer none := by
  unfold isNilP at h
  split at h
  · rfl
  · cases h
theorem isTup_eq {v : Value} (h : isTup v = true) : ∃ a, v = .tuple a := by
  unfold isTup at h
  split at h
  · exact ⟨_, rfl⟩
  · cases h
theorem castTp_some {a b : Tp} {x : den a} {y : den b} (h : castTp a b x = some y) : ∃ e : a = b, e ▸ x = y := by
  unfold castTp at h
  split at h
  · rename_i hb
    simp only [Option.some.injEq] at h
    exact ⟨Tp.beq_eq hb, h⟩
  · cases h

theorem T.le_trans {a b c : T} (h : T.le a b) (k : T.le b c) : T.le a c := fun ok w x hm hx => k ok w x hm (h ok w x hm hx)
theorem cast_list {α β : Type} (h : α = β) (h' : List α = List β) (l : List α) (i : Nat) (d : α) : (cast h' l).getD i (cast h d) = cast h (l.getD i d) := by subst h; rfl
theorem cast_len {α β : Type} (h : α = β) (h' : List α = List β) (l : List α) : (cast h' l).length = l.length := by subst h; rfl
theorem cast_pair {α α' β β' : Type} (h1 : α = α') (h2 : β = β') (h : (α × β) = (α' × β')) (x : α × β) : cast h x = (cast h1 x.1, cast h2 x.2) := by subst h1; subst h2; rfl
theorem Tp.leb_size {a b : Tp} (h : a.leb b = true) : a.size = b.size := by
  induction a generalizing b with
  | pair a b ih1 ih2 =>
    cases b with
    | pair a' b' =>
      simp only [Tp.leb, Bool.and_eq_true] at h
      simp only [Tp.size, ih1 h.1, ih2 h.2]
    | _ => cases h
  | _ => cases b <;> first | rfl | cases h
theorem Tp.leb_dflt {a b : Tp} (h : a.leb b = true) : cast (Tp.leb_den h) (dflt a) = dflt b := by
  induction a generalizing b with
  | bool => cases b <;> first | rfl | cases h
  | str =>
    cases b with
    | str => rfl
    | hv κ => cases κ <;> first | rfl | cases h
    | _ => cases h
  | unit => cases b <;> first | rfl | cases h
  | int k =>
    cases b with
    | int k' => rfl
    | hv κ => cases κ <;> first | rfl | cases h
    | _ => cases h
  | hv κ =>
    cases b with
    | hv κ' => obtain rfl := nkEq_eq h; rfl
    | _ => cases h
  | op e ih =>
    cases b with
    | op e' => obtain rfl := Tp.beq_eq (a := e) (b := e') h; rfl
    | _ => cases h
  | sl q e ih =>
    cases b with
    | sl q' e' =>
      have h1 := h
      simp only [Tp.leb, Bool.and_eq_true] at h1
      have key : ∀ {α β : Type} (h : α = β) (h' : List α = List β), cast h' ([] : List α) = [] := by intro α β h h'; subst h; rfl
      exact key (Tp.leb_den h1.2) _
    | _ => cases h
  | pair a b ih1 ih2 =>
    cases b with
    | pair a' b' =>
      have h1 := h
      simp only [Tp.leb, Bool.and_eq_true] at h1
      refine (cast_pair (Tp.leb_den h1.1) (Tp.leb_den h1.2) _ _).trans ?_
      show (cast _ (dflt a), cast _ (dflt b)) = (dflt a', dflt b')
      rw [ih1 h1.1, ih2 h1.2]
    | _ => cases h
theorem Tp.leb_cell {a b : Tp} (h : a.leb b = true) (x : den a) (j : Nat) : T.le (cellT a x j) (cellT b (cast (Tp.leb_den h) x) j) := by
  induction a generalizing b j with
  | bool => cases b <;> first | exact T.le_refl _ | cases h
  | str =>
    cases b with
    | str => exact T.le_refl _
    | hv κ =>
      cases κ with
      | str => cases j with
        | zero => exact fun ok w u _ hu => ⟨x, hu⟩
        | succ j => exact T.le_refl _
      | int k => cases h
    | _ => cases h
  | unit => cases b <;> first | exact T.le_refl _ | cases h
  | int k =>
    cases b with
    | int k' => obtain rfl := ikEq_eq h; exact T.le_refl _
    | hv κ =>
      cases κ with
      | int k' =>
        obtain rfl := ikEq_eq h
        cases j with
        | zero => exact fun ok w u _ hu => ⟨x, hu⟩
        | succ j => exact T.le_refl _
      | str => cases h
    | _ => cases h
  | hv κ =>
    cases b with
    | hv κ' => obtain rfl := nkEq_eq h; exact T.le_refl _
    | _ => cases h
  | op e ih =>
    cases b with
    | op e' => obtain rfl := Tp.beq_eq (a := e) (b := e') h; exact T.le_refl _
    | _ => cases h
  | sl q e ih =>
    cases b with
    | sl q' e' =>
      have h1 := h
      simp only [Tp.leb, Bool.and_eq_true] at h1
      cases j with
      | succ j => exact T.le_refl _
      | zero =>
        simp only [cellT]
        rw [cast_len (Tp.leb_den h1.2), ← Tp.leb_size h1.2]
        refine T.le_sl (Qc.leb_le h1.1) fun i k _ _ => ?_
        rw [← Tp.leb_dflt h1.2, cast_list (Tp.leb_den h1.2)]
        exact ih h1.2 _ _
    | _ => cases h
  | pair a b ih1 ih2 =>
    cases b with
    | pair a' b' =>
      have h1 := h
      simp only [Tp.leb, Bool.and_eq_true] at h1
      rw [cast_pair (Tp.leb_den h1.1) (Tp.leb_den h1.2)]
      simp only [cellT, Tp.leb_size h1.1]
      split
      · exact ih1 h1.1 _ _
      · exact ih2 h1.2 _ _
    | _ => cases h
theorem castLe_some {a b : Tp} {x : den a} {y : den b} (h : castLe a b x = some y) : ∃ e : a.leb b = true, cast (Tp.leb_den e) x = y := by
  unfold castLe at h
  split at h
  · rename_i hb
    simp only [Option.some.injEq] at h
    exact ⟨hb, h⟩
  · cases h
theorem lk_map (l : List (Nat × DV)) (t : Nat) : lk (l.map fun p => (p.1, p.2.toV)) t = (dlk l t).toV := by
  induction l with
  | nil => rfl
  | cons p l ih =>
    obtain ⟨k, v⟩ := p
    simp only [List.map_cons, lk, dlk, nbeq_iff]
    by_cases h : k = t
    · simp [h]
    · simp [h, ih]
theorem lo_map (l : List (Nat × DOb)) (t : Nat) : lo (l.map fun p => (p.1, p.2.toOb)) t = (dlo l t).map DOb.toOb := by
  induction l with
  | nil => rfl
  | cons p l ih =>
    obtain ⟨k, v⟩ := p
    simp only [List.map_cons, lo, dlo, nbeq_iff]
    by_cases h : k = t
    · simp [h]
    · simp [h, ih]
theorem get_st (σ : DSt) (t : Nat) : σ.st.get t = (σ.get t).toV := lk_map _ _
theorem O_st (σ : DSt) (id : Nat) : σ.st.O id = (σ.O id).map DOb.toOb := lo_map _ _
theorem O_st_some {σ : DSt} {id : Nat} {o : DOb} (h : σ.O id = some o) : σ.st.O id = some o.toOb := by rw [O_st, h]; rfl
theorem dval_toV (v : Value) : (dval v).toV = .im (.val v) := by
  unfold dval
  split <;> rfl
theorem aev_st (σ : DSt) (x : Operand) : aev σ.st x = (daev σ x).toV := by
  cases x with
  | tmp t => exact get_st σ t
  | const v => exact (dval_toV v).symm
  | global g => rfl
  | func f => rfl
theorem cellT_agg (τ : Tp) (x : den τ) (j : Nat) : ∀ n f, cellT τ x j ≠ .agg n f := by
  induction τ generalizing j with
  | pair a b ih1 ih2 =>
    intro n f
    simp only [cellT]
    split
    · exact ih1 _ _ n f
    · exact ih2 _ _ n f
  | bool => cases j <;> intro n f h <;> cases h
  | str => cases j <;> intro n f h <;> cases h
  | int k => cases j <;> intro n f h <;> cases h
  | hv κ => cases j <;> intro n f h <;> cases h
  | op e => cases j <;> intro n f h <;> cases h
  | sl e => cases j <;> intro n f h <;> cases h
  | unit => cases j <;> intro n f h <;> cases h
theorem one_cell {x : DV} {j : Nat} (h : x.isOne = true) : x.toV.cell j = x.toV ∧ x.toV.ncell = 1 := by
  cases x with
  | raw v => exact ⟨rfl, by simp only [DV.isOne] at h; simp only [DV.toV, V.ncell, h, if_true]⟩
  | ifc t v => exact ⟨rfl, rfl⟩
  | glo g t => exact ⟨rfl, rfl⟩
  | elem τ l a b => exact ⟨rfl, rfl⟩
  | _ => cases h
theorem cell_toV (v : DV) (j : Nat) : v.toV.cell j = (v.cell j).toV := by
  cases v with
  | agg n f => rfl
  | im τ x =>
    simp only [DV.toV, DV.cell]
    unfold V.cell
    split
    · rename_i h; cases h
    · rename_i h
      cases h' : cellT τ x 0 with
      | agg n f => exact absurd h' (cellT_agg τ x 0 n f)
      | _ => rw [h'] at h; cases h
    · rfl
  | raw v => rfl
  | alt c x y =>
    simp only [DV.toV, DV.cell]
    cases hx : x.isOne with
    | false => rfl
    | true =>
      cases hy : y.isOne with
      | false => rfl
      | true => cases c <;> first | exact (one_cell hx).1 | exact (one_cell hy).1
  | _ => rfl
theorem ncell_im (τ : Tp) (x : den τ) : (V.im (cellT τ x 0)).ncell = τ.nc := by
  induction τ with
  | pair a b ih1 ih2 =>
    simp only [cellT, Tp.nc, nblt_iff]
    by_cases h : 0 < a.size
    · simp only [h, if_true, decide_true, cond_true]; exact ih1 _
    · simp only [h, if_false, decide_false, cond_false, Nat.zero_sub]; exact ih2 _
  | unit => rfl
  | bool => rfl
  | str => rfl
  | int k => rfl
  | hv κ => rfl
  | op e => rfl
  | sl e => rfl
theorem ncell_toV (v : DV) : v.toV.ncell = v.ncell := by
  cases v with
  | im τ x => exact ncell_im τ x
  | alt c x y =>
    simp only [DV.toV, DV.ncell]
    cases hx : x.isOne with
    | false => rfl
    | true =>
      cases hy : y.isOne with
      | false => rfl
      | true => cases c <;> first | exact (one_cell (j := 0) hx).2 | exact (one_cell (j := 0) hy).2
  | _ => rfl
theorem rowC_toV (τ : Tp) (x : den τ) (j : Nat) (hj : j < τ.size) : (rowC τ x j).toV = .im (cellT τ x j) := by
  induction τ generalizing j with
  | pair a b ih1 ih2 =>
    simp only [rowC, cellT, nblt_iff]
    simp only [Tp.size] at hj
    by_cases h : j < a.size
    · simp only [h, decide_true, cond_true, if_true]; exact ih1 _ _ h
    · simp only [h, decide_false, cond_false, if_false]; exact ih2 _ _ (by omega)
  | unit => simp [Tp.size] at hj
  | bool => obtain rfl : j = 0 := by simp [Tp.size] at hj; exact hj
            rfl
  | str => obtain rfl : j = 0 := by simp [Tp.size] at hj; exact hj
           rfl
  | int k => obtain rfl : j = 0 := by simp [Tp.size] at hj; exact hj
             rfl
  | hv κ => obtain rfl : j = 0 := by simp [Tp.size] at hj; exact hj
            rfl
  | op e => obtain rfl : j = 0 := by simp [Tp.size] at hj; exact hj
            rfl
  | sl q e => obtain rfl : j = 0 := by simp [Tp.size] at hj; exact hj
              rfl

theorem getD_subl {α : Type} (l : List α) (off len i : Nat) (d : α) (_ : off + len ≤ l.length) (hi : i < len) : ((l.drop off).take len).getD i d = l.getD (off + i) d := by
  simp only [List.getD_eq_getElem?_getD, List.getElem?_take, hi, if_true, List.getElem?_drop]
theorem subl_le {τ : Tp} (l : List (den τ)) (off len : Nat) (w : Bool) (h : wholeB off len l.length w = true) :
    (subl l off len w).length = len ∧ ∀ i, i < len → (subl l off len w).getD i (dflt τ) = l.getD (off + i) (dflt τ) := by
  unfold wholeB at h
  cases w with
  | true =>
    simp only [cond_true, Bool.and_eq_true, decide_eq_true_eq] at h
    obtain ⟨h1, rfl⟩ := h
    obtain rfl := nbeq h1
    exact ⟨rfl, fun i _ => by rw [Nat.zero_add]; rfl⟩
  | false =>
    simp only [cond_false, decide_eq_true_eq] at h
    cases off with
    | zero =>
      refine ⟨by simp only [subl, cond_false, List.length_take]; omega, fun i hi => ?_⟩
      have := getD_subl l 0 len i (dflt τ) h hi
      rw [List.drop_zero] at this
      exact this
    | succ off => exact ⟨by simp only [subl, cond_false, List.length_take, List.length_drop]; omega, fun i hi => getD_subl l (off + 1) len i (dflt τ) h hi⟩
theorem sl_le {q : Qc} {τ : Tp} {n : Nat} {f : Nat → Nat → T} {l : List (den τ)} (hn : l.length = n) (h : ∀ i j, i < n → j < τ.size → T.le (f i j) (rowsT τ l i j)) : T.le (.sl q τ.size n f) (cellT (.sl q τ) l 0) := by
  subst hn
  exact T.le_sl (Qc.le_refl q) h

section
variable {R : Type} {P : Program} {σ : DSt} {fr : Nat} {r : R}
theorem frzL_append : ∀ (xs ys : List V) (kk : List T → List (Nat × Ob) → AM), frzL (xs ++ ys) kk = frzL xs fun ts us => frzL ys fun ts' us' => kk (ts ++ ts') (us ++ us')
  | [], ys, kk => by simp [frzL]
  | v :: vs, ys, kk => by
    simp only [List.cons_append, frzL]
    congr 1
    funext t u
    rw [frzL_append]
    simp [List.append_assoc]
theorem le_nil {q : Qc} {size : Nat} {f : Nat → Nat → T} : T.le (.val (.slice none 0 0)) (.sl q size 0 f) := fun ok w x _ hx => by
  cases hx
  exact ⟨none, 0, rfl, Nat.le_refl _, fun i j hi => absurd hi (Nat.not_lt_zero _)⟩
theorem sd_le {q : Qc} {τ' τ : Tp} {l : List (den τ')} {n : Nat} {y : den τ} (hc : castLe (.sl q τ') τ (List.take n l) = some y) (hn : n ≤ l.length) : T.le (.slr q τ'.size n l.length (rowsT τ' l)) (cellT τ y 0) := by
  obtain ⟨he, rfl⟩ := castLe_some hc
  have hl : (List.take n l).length = n := by simp; omega
  refine T.le_trans (b := cellT (.sl q τ') (List.take n l) 0) ?_ (Tp.leb_cell he _ 0)
  rintro ok w x hm ⟨A, c, e1, e2, e3⟩
  refine ⟨A, c, by rw [hl]; exact e1, by rw [hl]; omega, fun i j hi hj => ?_⟩
  rw [hl] at hi
  obtain ⟨ad, u, g1, g2, g3, g4, g5⟩ := e3 i j (by omega) hj
  refine ⟨ad, u, g1, g2, g3, g4, ?_⟩
  have : (List.take n l).getD i (dflt τ') = l.getD i (dflt τ') := by rw [List.getD_eq_getElem?_getD, List.getD_eq_getElem?_getD, List.getElem?_take, if_pos hi]
  show (cellT τ' ((List.take n l).getD i (dflt τ')) j).rel ok w u
  rw [this]
  exact g5
theorem dconv_ok {τ : Tp} {v : DV} {k : den τ → List (Nat × DOb) → Option R} (h : dconv σ τ v k = some r) : ∃ x us t, k x us = some r ∧ T.le t (cellT τ x 0) ∧ (us = [] → t = v.toV.asT) ∧
    ∀ (kk : T → List (Nat × Ob) → AM) (Kp : List Nat → V → List (Nat × Ob) → Prop), (kk t (dups us)).wp P σ.st.O fr (fun a b c => Kp (us.map (·.1) ++ a) b c) → (frz v.toV kk).wp P σ.st.O fr Kp := by
  have buf : ∀ {id ver off len : Nat} {w : Bool}, v = .buf id ver off len w → ∃ x us t, k x us = some r ∧ T.le t (cellT τ x 0) ∧ (us = [] → t = v.toV.asT) ∧
      ∀ (kk : T → List (Nat × Ob) → AM) (Kp : List Nat → V → List (Nat × Ob) → Prop), (kk t (dups us)).wp P σ.st.O fr (fun a b c => Kp (us.map (·.1) ++ a) b c) → (frz v.toV kk).wp P σ.st.O fr Kp := by
    rintro id ver off len w rfl
    simp only [dconv] at h
    cases ho : σ.O id with
    | none => simp [ho] at h
    | some o =>
      simp only [ho] at h
      cases o with
      | arr zz e τ' ver' l =>
        have h0 := cond_some h; clear h; obtain ⟨hv, h⟩ := h0
        obtain rfl := nbeq hv
        cases hc : castLe (.sl .new τ') τ (subl (τ := τ') l off len w) with
        | none => simp [hc] at h
        | some y =>
          simp only [hc] at h
          have h0 := cond_some h; clear h; obtain ⟨hw, h⟩ := h0
          obtain ⟨he, rfl⟩ := castLe_some hc
          obtain ⟨h1, h2⟩ := subl_le l off len w hw
          refine ⟨_, _, .sl .new τ'.size len (fun i j => rowsT τ' l (off + i) j), h, T.le_trans (sl_le h1 fun i j hi _ => T.le_of_eq (by simp only [rowsT]; rw [h2 i hi])) (Tp.leb_cell he _ 0), (fun hh => by cases hh), fun kk Kp hk => ?_⟩
          exact ⟨_, O_st_some ho, rfl, hk⟩
      | _ => cases h
  cases v with
  | sd q τ' l n =>
    simp only [dconv] at h
    cases hc : castLe (.sl q τ') τ (List.take n l) with
    | none => simp [hc] at h
    | some y =>
      simp only [hc] at h
      have h0 := cond_some h; clear h; obtain ⟨hn, h⟩ := h0
      simp only [decide_eq_true_eq] at hn
      exact ⟨_, [], _, h, sd_le hc hn, fun _ => rfl, fun kk Kp hk => ⟨rfl, hk⟩⟩
  | im τ' x =>
    simp only [dconv] at h
    cases hc : castLe τ' τ x with
    | none => simp [hc] at h
    | some y =>
      simp only [hc] at h
      obtain ⟨he, rfl⟩ := castLe_some hc
      exact ⟨_, [], _, h, Tp.leb_cell he _ 0, fun _ => rfl, fun kk Kp hk => ⟨rfl, hk⟩⟩
  | raw v =>
    simp only [dconv] at h
    have h0 := cond_some h; clear h; obtain ⟨hv, h⟩ := h0
    obtain rfl := isNil_eq hv
    cases τ with
    | sl q e => exact ⟨[], [], .val (.slice none 0 0), h, le_nil, fun _ => rfl, fun kk Kp hk => ⟨rfl, hk⟩⟩
    | _ => cases h
  | buf id ver off len w => exact buf rfl
  | _ => cases h
theorem range_map_add {α : Type} (a b : Nat) (f : Nat → α) : (List.range (a + b)).map f = (List.range a).map f ++ (List.range b).map fun j => f (j + a) := by
  rw [List.range_add, List.map_append, List.map_map]
  congr 1
  exact List.map_congr_left fun j _ => by simp [Nat.add_comm]
theorem drow_ok : ∀ {τ : Tp} {f : Nat → DV} {k : den τ → List (Nat × DOb) → Option R}, drow σ τ f k = some r → ∃ x us ts, k x us = some r ∧ ts.length = τ.size ∧ (∀ j, j < τ.size → T.le (ts.getD j (.val undef)) (cellT τ x j)) ∧ (us = [] → ∀ j, j < τ.size → ts.getD j (.val undef) = (f j).toV.asT) ∧
    ∀ (kk : List T → List (Nat × Ob) → AM) (Kp : List Nat → V → List (Nat × Ob) → Prop), (kk ts (dups us)).wp P σ.st.O fr (fun a b c => Kp (us.map (·.1) ++ a) b c) → (frzL ((List.range τ.size).map fun j => (f j).toV) kk).wp P σ.st.O fr Kp := by
  have one : ∀ {τ : Tp} {f : Nat → DV} {k : den τ → List (Nat × DOb) → Option R}, τ.size = 1 → dconv σ τ (f 0) k = some r → ∃ x us ts, k x us = some r ∧ ts.length = τ.size ∧ (∀ j, j < τ.size → T.le (ts.getD j (.val undef)) (cellT τ x j)) ∧ (us = [] → ∀ j, j < τ.size → ts.getD j (.val undef) = (f j).toV.asT) ∧
      ∀ (kk : List T → List (Nat × Ob) → AM) (Kp : List Nat → V → List (Nat × Ob) → Prop), (kk ts (dups us)).wp P σ.st.O fr (fun a b c => Kp (us.map (·.1) ++ a) b c) → (frzL ((List.range τ.size).map fun j => (f j).toV) kk).wp P σ.st.O fr Kp := by
    intro τ f k h1 h
    obtain ⟨x, us, t, e1, e2, e4, e3⟩ := dconv_ok (P := P) (fr := fr) h
    refine ⟨x, us, [t], e1, h1.symm, fun j hj => ?_, fun hu j hj => ?_, fun kk Kp hk => ?_⟩
    · obtain rfl : j = 0 := by omega
      exact e2
    · obtain rfl : j = 0 := by omega
      exact e4 hu
    · rw [h1]
      simp only [List.range_succ, List.range_zero, List.nil_append, List.map_cons, List.map_nil, frzL]
      exact e3 _ _ (by simpa using hk)
  intro τ
  induction τ with
  | pair a b ih1 ih2 =>
    intro f k h
    simp only [drow] at h
    obtain ⟨x, us, ts, h, e1, e2, e4, e3⟩ := ih1 h
    obtain ⟨y, us', ts', h, f1, f2, f4, f3⟩ := ih2 h
    refine ⟨(x, y), us ++ us', ts ++ ts', h, by simp [e1, f1, Tp.size], fun j hj => ?_, fun hu j hj => ?_, fun kk Kp hk => ?_⟩
    · simp only [cellT]
      simp only [Tp.size] at hj
      rw [List.getD_eq_getElem?_getD]
      by_cases hja : j < a.size
      · rw [if_pos hja, List.getElem?_append_left (by omega), ← List.getD_eq_getElem?_getD]
        exact e2 j hja
      · rw [if_neg hja, List.getElem?_append_right (by omega), ← List.getD_eq_getElem?_getD, e1]
        exact f2 _ (by omega)
    · simp only [List.append_eq_nil_iff] at hu
      simp only [Tp.size] at hj
      rw [List.getD_eq_getElem?_getD]
      by_cases hja : j < a.size
      · rw [List.getElem?_append_left (by omega), ← List.getD_eq_getElem?_getD]
        exact e4 hu.1 j hja
      · rw [List.getElem?_append_right (by omega), ← List.getD_eq_getElem?_getD, e1]
        have := f4 hu.2 (j - a.size) (by omega)
        rw [show j - a.size + a.size = j by omega] at this
        exact this
    · simp only [Tp.size, range_map_add, frzL_append]
      refine e3 _ _ (f3 _ _ ?_)
      simpa [dups, List.append_assoc] using hk
  | unit =>
    intro f k h
    exact ⟨(), [], [], h, rfl, fun j hj => absurd hj (by simp [Tp.size]), fun _ j hj => absurd hj (by simp [Tp.size]), fun kk Kp hk => by simpa [frzL, Tp.size] using hk⟩
  | bool => intro f k h; exact one rfl h
  | str => intro f k h; exact one rfl h
  | int q => intro f k h; exact one rfl h
  | hv κ => intro f k h; exact one rfl h
  | op e => intro f k h; exact one rfl h
  | sl e => intro f k h; exact one rfl h
theorem dset1_ok : ∀ {τ : Tp} {x : den τ} {j : Nat} {v : DV} {k : den τ → List (Nat × DOb) → Option R}, dset1 σ τ x j v k = some r → j < τ.size → ∃ y us t, k y us = some r ∧ T.le t (cellT τ y j) ∧ (∀ j', j' ≠ j → cellT τ y j' = cellT τ x j') ∧
    ∀ (kk : T → List (Nat × Ob) → AM) (Kp : List Nat → V → List (Nat × Ob) → Prop), (kk t (dups us)).wp P σ.st.O fr (fun a b c => Kp (us.map (·.1) ++ a) b c) → (frz v.toV kk).wp P σ.st.O fr Kp := by
  intro τ
  induction τ with
  | pair a b ih1 ih2 =>
    intro x j v k h hj
    simp only [dset1] at h
    simp only [Tp.size] at hj
    by_cases hja : j < a.size
    · simp only [nblt_iff, hja, decide_true, cond_true] at h
      obtain ⟨y, us, t, e1, e2, e3, e4⟩ := ih1 h hja
      refine ⟨(y, x.2), us, t, e1, by simpa only [cellT, hja, if_true] using e2, fun j' hj' => ?_, e4⟩
      simp only [cellT]
      split
      · exact e3 j' hj'
      · rfl
    · simp only [nblt_iff, hja, decide_false, cond_false] at h
      obtain ⟨y, us, t, e1, e2, e3, e4⟩ := ih2 h (by omega)
      refine ⟨(x.1, y), us, t, e1, by simpa only [cellT, hja, if_false] using e2, fun j' hj' => ?_, e4⟩
      simp only [cellT]
      split
      · rfl
      · exact e3 _ (by omega)
  | unit => intro x j v k h hj; cases h
  | bool =>
    intro x j v k h hj
    obtain rfl : j = 0 := by simp [Tp.size] at hj; exact hj
    obtain ⟨y, us, t, e1, e2, -, e3⟩ := dconv_ok (P := P) (fr := fr) h
    exact ⟨y, us, t, e1, e2, fun j' hj' => (by cases j' with | zero => exact absurd rfl hj' | succ j' => rfl), e3⟩
  | str =>
    intro x j v k h hj
    obtain rfl : j = 0 := by simp [Tp.size] at hj; exact hj
    obtain ⟨y, us, t, e1, e2, -, e3⟩ := dconv_ok (P := P) (fr := fr) h
    exact ⟨y, us, t, e1, e2, fun j' hj' => (by cases j' with | zero => exact absurd rfl hj' | succ j' => rfl), e3⟩
  | int q =>
    intro x j v k h hj
    obtain rfl : j = 0 := by simp [Tp.size] at hj; exact hj
    obtain ⟨y, us, t, e1, e2, -, e3⟩ := dconv_ok (P := P) (fr := fr) h
    exact ⟨y, us, t, e1, e2, fun j' hj' => (by cases j' with | zero => exact absurd rfl hj' | succ j' => rfl), e3⟩
  | hv κ =>
    intro x j v k h hj
    obtain rfl : j = 0 := by simp [Tp.size] at hj; exact hj
    obtain ⟨y, us, t, e1, e2, -, e3⟩ := dconv_ok (P := P) (fr := fr) h
    exact ⟨y, us, t, e1, e2, fun j' hj' => (by cases j' with | zero => exact absurd rfl hj' | succ j' => rfl), e3⟩
  | op e =>
    intro x j v k h hj
    obtain rfl : j = 0 := by simp [Tp.size] at hj; exact hj
    obtain ⟨y, us, t, e1, e2, -, e3⟩ := dconv_ok (P := P) (fr := fr) h
    exact ⟨y, us, t, e1, e2, fun j' hj' => (by cases j' with | zero => exact absurd rfl hj' | succ j' => rfl), e3⟩
  | sl e =>
    intro x j v k h hj
    obtain rfl : j = 0 := by simp [Tp.size] at hj; exact hj
    obtain ⟨y, us, t, e1, e2, -, e3⟩ := dconv_ok (P := P) (fr := fr) h
    exact ⟨y, us, t, e1, e2, fun j' hj' => (by cases j' with | zero => exact absurd rfl hj' | succ j' => rfl), e3⟩
theorem drows_ok {τ : Tp} : ∀ {vs : List DV} {k : List (den τ) → List (Nat × DOb) → Option R}, drows σ τ vs k = some r → ∃ l us ts, k l us = some r ∧ l.length = vs.length ∧ (∀ i j, i < l.length → j < τ.size → T.le (ts.getD (i * τ.size + j) (.val undef)) (rowsT τ l i j)) ∧ ts.length = l.length * τ.size ∧
    ∀ (kk : List T → List (Nat × Ob) → AM) (Kp : List Nat → V → List (Nat × Ob) → Prop), (kk ts (dups us)).wp P σ.st.O fr (fun a b c => Kp (us.map (·.1) ++ a) b c) → (frzL (vs.flatMap fun v => cellsOf τ.size v.toV) kk).wp P σ.st.O fr Kp
  | [], k, h => ⟨[], [], [], h, rfl, fun i j hi => absurd hi (by simp), by simp, fun kk Kp hk => by simpa [frzL] using hk⟩
  | v :: vs, k, h => by
    simp only [drows] at h
    obtain ⟨x, us, ts, h, e1, e2, -, e3⟩ := drow_ok (P := P) (fr := fr) h
    obtain ⟨l, us', ts', h, f1, f2, f4, f3⟩ := drows_ok h
    refine ⟨x :: l, us ++ us', ts ++ ts', h, by simp [f1], fun i j hi hj => ?_, by simp [e1, f4, Nat.add_mul, Nat.add_comm], fun kk Kp hk => ?_⟩
    · rw [List.getD_eq_getElem?_getD]
      cases i with
      | zero =>
        rw [List.getElem?_append_left (by omega), ← List.getD_eq_getElem?_getD, Nat.zero_mul, Nat.zero_add]
        exact e2 j hj
      | succ i =>
        have hge : ts.length ≤ (i + 1) * τ.size + j := by rw [e1, Nat.add_mul]; omega
        rw [List.getElem?_append_right hge, ← List.getD_eq_getElem?_getD]
        have := f2 i j (by simpa using hi) hj
        rw [show (i + 1) * τ.size + j - ts.length = i * τ.size + j by rw [e1, Nat.add_mul]; omega]
        exact this
    · have e : cellsOf τ.size v.toV = (List.range τ.size).map fun j => (v.cell j).toV := by
        unfold cellsOf
        exact List.map_congr_left fun j _ => cell_toV v j
      simp only [List.flatMap_cons, frzL_append, e]
      refine e3 _ _ (f3 _ _ ?_)
      simpa [dups, List.append_assoc] using hk
theorem dsrc_ok {τ : Tp} {v : DV} {k : List Nat → List (den τ) → Option R} (h : dsrc σ τ v k = some r) : ∃ rd l g, k rd l = some r ∧ (∀ i j, i < l.length → j < τ.size → g i j = rowsT τ l i j) ∧
    ∀ (kk : Nat → (Nat → Nat → T) → AM) (Kp : List Nat → V → List (Nat × Ob) → Prop), (kk l.length g).wp P σ.st.O fr (fun a b c => Kp (rd ++ a) b c) → (srcOf τ.size v.toV kk).wp P σ.st.O fr Kp := by
  cases v with
  | sd q τ' l n =>
    simp only [dsrc] at h
    cases hc : castTp (.sl .new τ') (.sl .new τ) (List.take n l) with
    | none => simp [hc] at h
    | some y =>
      simp only [hc] at h
      have h0 := cond_some h; clear h; obtain ⟨hn, h⟩ := h0
      simp only [decide_eq_true_eq] at hn
      obtain ⟨he, hy⟩ := castTp_some hc
      cases he
      subst hy
      have hl : (List.take n l).length = n := by simp; omega
      refine ⟨[], List.take n l, rowsT _ l, h, fun i j hi _ => ?_, fun kk Kp hk => ⟨rfl, by rw [hl] at hk; exact hk⟩⟩
      rw [hl] at hi
      simp only [rowsT]
      rw [List.getD_eq_getElem?_getD, List.getD_eq_getElem?_getD, List.getElem?_take, if_pos hi]
  | im τ0 x =>
    cases τ0 with
    | sl q τ' =>
      simp only [dsrc] at h
      cases hc : castTp (.sl .new τ') (.sl .new τ) x with
      | none => simp [hc] at h
      | some y =>
        simp only [hc] at h
        obtain ⟨he, hy⟩ := castTp_some hc
        cases he
        subst hy
        exact ⟨[], x, _, h, fun i j _ _ => rfl, fun kk Kp hk => ⟨rfl, hk⟩⟩
    | _ => cases h
  | raw v =>
    simp only [dsrc] at h
    have h0 := cond_some h; clear h; obtain ⟨hv, h⟩ := h0
    obtain rfl := isNil_eq hv
    exact ⟨[], [], fun _ _ => .val undef, h, fun i j hi => absurd hi (by simp), fun kk Kp hk => hk⟩
  | buf id ver off len w =>
    simp only [dsrc] at h
    cases ho : σ.O id with
    | none => simp [ho] at h
    | some o =>
      simp only [ho] at h
      cases o with
      | arr zz e τ' ver' l =>
        have h0 := cond_some h; clear h; obtain ⟨hv, h⟩ := h0
        obtain rfl := nbeq hv
        cases hc : castTp (.sl .new τ') (.sl .new τ) (subl (τ := τ') l off len w) with
        | none => simp [hc] at h
        | some y =>
          simp only [hc] at h
          have h0 := cond_some h; clear h; obtain ⟨hw, h⟩ := h0
          obtain ⟨he, hy⟩ := castTp_some hc
          cases he
          subst hy
          obtain ⟨h1, h2⟩ := subl_le l off len w hw
          refine ⟨_, _, fun i j => rowsT τ l (off + i) j, h, fun i j hi _ => ?_, fun kk Kp hk => ?_⟩
          · simp only [rowsT]
            exact congrArg (fun z => cellT τ z j) (h2 i (by rw [← h1]; exact hi)).symm
          · refine ⟨_, O_st_some ho, ⟨rfl, rfl⟩, ?_⟩
            have h1' : (subl l off len w).length = len := h1
            simp only [h1'] at hk
            exact hk
      | _ => cases h
  | _ => cases h
theorem dbnd_ok {d : Nat} {x : Option Operand} {k : Nat → Option R} (h : dbnd σ d x k = some r) : ∃ n, k n = some r ∧
    ∀ (kk : Nat → AM) (Kp : List Nat → V → List (Nat × Ob) → Prop), (kk n).wp P σ.st.O fr Kp → (bnd σ.st d x kk).wp P σ.st.O fr Kp := by
  unfold dbnd at h
  split at h
  · exact ⟨d, h, fun kk Kp hk => hk⟩
  · rename_i x
    split at h
    · rename_i q n hx
      have h0 := cond_some h; clear h; obtain ⟨hn, h⟩ := h0
      refine ⟨_, h, fun kk Kp hk => ?_⟩
      simp only [bnd, aev_st, hx]
      exact ⟨by simpa using hn, hk⟩
    · cases h
end
end Go.Proofs.Ytlmnhbobgfpanaa
