/-
  That typed operations do what the untyped ones do (2): operations. General; nothing of this program.
-/
import Derived.Test.YtlmnhbobgfpanaaDaE
namespace Go.Proofs.Ytlmnhbobgfpanaa
open Go.RowKit

def OpW (P : Program) (σ : St) (fr : Nat) (o : AOp) (rd : List Nat) (v : V) (ups : List (Nat × Ob)) : Prop :=
  ∃ v1 us1, (asem σ fr o).wp P σ.O fr (fun a b c => a = rd ∧ b = v1 ∧ c = us1) ∧ VLe v1 v ∧ ULe us1 ups
section
variable {R : Type} {P : Program} {σ : DSt} {fr : Nat} {r : R} {K : List Nat → DV → List (Nat × DOb) → Option R}
abbrev Okay (P : Program) (σ : DSt) (fr : Nat) (o : AOp) (K : List Nat → DV → List (Nat × DOb) → Option R) (r : R) : Prop :=
  ∃ rd v ups, K rd v ups = some r ∧ OpW P σ.st fr o rd v.toV (dups ups)
theorem okay {o : AOp} {rd : List Nat} {v : DV} {ups : List (Nat × DOb)} {v1 : V} {us1 : List (Nat × Ob)} (e : K rd v ups = some r) (h : (asem σ.st fr o).wp P σ.st.O fr (fun a b c => a = rd ∧ b = v1 ∧ c = us1)) (hv : VLe v1 v.toV) (hu : ULe us1 (dups ups)) : Okay P σ fr o K r :=
  ⟨rd, v, ups, e, v1, us1, h, hv, hu⟩
theorem okay0 {o : AOp} {v : DV} {v1 : V} (e : K [] v [] = some r) (h : (asem σ.st fr o).wp P σ.st.O fr (fun a b c => a = [] ∧ b = v1 ∧ c = [])) (hv : VLe v1 v.toV) : Okay P σ fr o K r :=
  okay e h hv (ULe.refl _)

theorem okay_mov {x : Operand} {h : Hint} (e : dsem σ fr (.mov x) h K = some r) : Okay P σ fr (.mov x) K r :=
  okay0 e (v1 := aev σ.st x) ⟨rfl, rfl, rfl⟩ (VLe.of_eq (aev_st σ x))
theorem dpick_ok {b : Bool} {x y : DV} {k : DV → Option R} (e : dpick b x y k = some r) : ∃ v, k v = some r ∧ (b = true → VLe x.toV v.toV) ∧ (b = false → VLe y.toV v.toV) := by
  have cnd : ∀ {x y : DV}, cond b (k x) (k y) = some r → ∃ v, k v = some r ∧ (b = true → VLe x.toV v.toV) ∧ (b = false → VLe y.toV v.toV) := fun {x y} e => by
    cases b with
    | true => exact ⟨x, e, fun _ => VLe.refl _, fun h => by cases h⟩
    | false => exact ⟨y, e, (fun h => by cases h), fun _ => VLe.refl _⟩
  unfold dpick at e
  split at e
  · rename_i τ u τ' v
    cases hc : castTp τ' τ v with
    | none => simp only [hc] at e; exact cnd e
    | some w =>
      simp only [hc] at e
      obtain ⟨he, hw⟩ := castTp_some hc
      subst he
      subst hw
      exact ⟨_, e, fun h => by subst h; exact VLe.refl _, fun h => by subst h; exact VLe.refl _⟩
  · exact cnd e
theorem okay_pick {c x y : Operand} {h : Hint} (e : dsem σ fr (.pick c x y) h K = some r) : Okay P σ fr (.pick c x y) K r := by
  simp only [dsem] at e
  split at e
  · rename_i b hc
    obtain ⟨v, e, h1, h2⟩ := dpick_ok e
    refine okay0 e (v1 := if b = true then (daev σ x).toV else (daev σ y).toV) ?_ ?_
    · simp only [asem, aev_st, hc, DV.toV, cellT, AM.wp]
      exact ⟨fun hb => by simp [hb], fun hb => by simp [hb]⟩
    · cases b with
      | true => exact h1 rfl
      | false => exact h2 rfl
  · cases e
theorem okay_alloc {e' sz : Nat} {z : List Value} {h : Hint} (e : dsem σ fr (.alloc e' sz z) h K = some r) : Okay P σ fr (.alloc e' sz z) K r :=
  okay e (v1 := .ptr fr 0 0 0) (us1 := [(fr, .var e' sz fun j => .im (.val (z.getD j undef)))]) ⟨rfl, rfl, rfl⟩ (VLe.refl _) ⟨rfl, ⟨rfl, rfl, fun _ _ => VLe.of_eq (dval_toV _).symm⟩, trivial⟩
theorem okay_box {e' sz : Nat} {x : Operand} {h : Hint} (e : dsem σ fr (.box e' sz x) h K = some r) : Okay P σ fr (.box e' sz x) K r := by
  simp only [dsem] at e
  have e0 := cond_some e; clear e; obtain ⟨hn, e⟩ := e0
  refine okay e (v1 := .ptr fr 0 0 0) (us1 := [(fr, .var e' sz (aev σ.st x).cell)]) ?_ (VLe.refl _) ⟨rfl, ⟨rfl, rfl, fun j _ => VLe.of_eq ?_⟩, trivial⟩
  · simp only [asem, AM.wp]
    exact ⟨by rw [aev_st, ncell_toV]; exact nbeq hn, by simp []⟩
  · rw [aev_st, cell_toV]
theorem dover_toV : ∀ (ps : List (Nat × Nat × DV)) (g : Nat → DV) (j : Nat), (dover ps g j).toV = overlay (ps.map fun p => (p.1, p.2.1, p.2.2.toV)) (fun j => (g j).toV) j
  | [], g, j => rfl
  | (off, sz, v) :: ps, g, j => by
    simp only [dover, List.map_cons, overlay]
    rw [dover_toV ps]
    congr 1
    funext k
    simp only [nble_iff, nblt_iff]
    by_cases h : off ≤ k ∧ k < off + sz
    · simp [h, cell_toV]
    · rw [if_neg h]
      have : (decide (off ≤ k) && decide (k < off + sz)) = false := by
        rw [← Bool.not_eq_true, Bool.and_eq_true, decide_eq_true_eq, decide_eq_true_eq]; exact h
      simp [this]
theorem okay_build {sz : Nat} {z : List Value} {parts : List (Nat × Nat × Operand)} {h : Hint} (e : dsem σ fr (.build sz z parts) h K = some r) : Okay P σ fr (.build sz z parts) K r := by
  simp only [dsem] at e
  have e0 := cond_some e; clear e; obtain ⟨hn, e⟩ := e0
  refine okay0 e (v1 := .agg sz (overlay (parts.map fun p => (p.1, p.2.1, aev σ.st p.2.2)) fun j => .im (.val (z.getD j undef)))) ?_ (VLe.agg fun j _ => VLe.of_eq ?_)
  · simp only [asem, AM.wp]
    refine ⟨fun p hp => ?_, by simp []⟩
    rw [aev_st, ncell_toV]
    exact nbeq (List.all_eq_true.1 hn p hp)
  · rw [dover_toV]
    simp only [List.map_map, aev_st, dval_toV]
    rfl
theorem okay_bslice {e' sz len : Nat} {z : List Value} {parts : List (Nat × Operand)} {h : Hint} (e : dsem σ fr (.bslice e' sz len z parts) h K = some r) : Okay P σ fr (.bslice e' sz len z parts) K r := by
  simp only [dsem] at e
  split at e
  · rename_i τ
    have e0 := cond_some e; clear e; obtain ⟨hn, e⟩ := e0
    simp only [Bool.and_eq_true] at hn
    obtain ⟨h1, h2, h3⟩ := hn
    obtain rfl := nbeq h1
    obtain ⟨l, us, ts, e, f1, f2, f4, f3⟩ := drows_ok (P := P) (fr := fr) e
    have hl : l.length = len := by rw [f1, List.length_map]; exact nbeq h2
    refine okay e (v1 := .buf fr 0 0 len) (us1 := (fr, .arr (.own none) e' τ.size 0 len fun i j => ts.getD (i * τ.size + j) (.val undef)) :: dups us) ?_ (VLe.refl _) ⟨rfl, ⟨rfl, rfl, rfl, rfl, hl, fun i j hi hj => f2 i j (by omega) hj⟩, ULe.refl _⟩
    simp only [asem, AM.wp]
    refine ⟨fun p hp => ?_, ?_⟩
    · rw [aev_st, ncell_toV]
      exact nbeq (List.all_eq_true.1 h3 p hp)
    · have : (parts.flatMap fun p => cellsOf τ.size (aev σ.st p.2)) = (parts.map fun p => daev σ p.2).flatMap fun v => cellsOf τ.size v.toV := by
        rw [List.flatMap_map]
        simp only [aev_st]
      rw [this]
      refine f3 _ _ ?_
      simp only [AM.wp, List.append_nil, and_self]
  · cases e
theorem okay_cslice {e' len : Nat} {parts : List (Nat × Operand)} {h : Hint} (e : dsem σ fr (.cslice e' len parts) h K = some r) : Okay P σ fr (.cslice e' len parts) K r := by
  simp only [dsem] at e
  have e0 := cond_some e; clear e; obtain ⟨hn, e⟩ := e0
  refine okay e (v1 := .vsl fr len) (us1 := [(fr, .var e' len fun j => (aev σ.st (parts.getD j (0, .const undef)).2).cell 0)]) ?_ (VLe.refl _) ⟨rfl, ⟨rfl, rfl, fun j _ => VLe.of_eq ?_⟩, trivial⟩
  · simp only [asem, AM.wp, and_self, and_true]
    intro p hp
    rw [aev_st, ncell_toV]
    exact nbeq (List.all_eq_true.1 hn p hp)
  · dsimp only
    rw [aev_st, cell_toV]
theorem row_load {τ : Tp} (x : den τ) {g : Bool} {sz j : Nat} (h : j + sz ≤ τ.size) (h0 : 0 < sz) {f : Nat → T} (hf : ∀ k, f k = cellT τ x k) :
    VLe (if g = true then .agg sz fun k => .im (f (j + k)) else .im (f j)) (cond g (DV.agg sz fun k => rowC τ x (j + k)) (rowC τ x j)).toV := by
  cases g with
  | true => exact VLe.agg fun k hk => VLe.of_eq (by rw [hf, rowC_toV _ _ _ (by omega)])
  | false => exact VLe.of_eq (by rw [cond_false, rowC_toV _ _ _ (by omega), hf]; rfl)
theorem okay_load {agg : Bool} {sz : Nat} {x : Operand} {h : Hint} (e : dsem σ fr (.load agg sz x) h K = some r) : Okay P σ fr (.load agg sz x) K r := by
  simp only [dsem] at e
  split at e
  · rename_i id ver i j hx
    split at e
    · rename_i t size f ho
      have e0 := cond_some e; clear e; obtain ⟨hn, e⟩ := e0
      simp only [Bool.and_eq_true] at hn
      obtain ⟨h1, h2, h3⟩ := hn
      refine okay e (v1 := if agg = true then .agg sz fun k => (f (j + k)).toV else (f j).toV) (us1 := []) ?_ ?_ (ULe.refl _)
      · simp only [asem, aev_st, hx, DV.toV, AM.wp]
        exact ⟨_, O_st_some ho, ⟨nbeq h1, nbeq h2, nble h3⟩, by simp [AM.wp]⟩
      · cases agg <;> exact VLe.refl _
    · rename_i t τ ver' l ho
      have e0 := cond_some e; clear e; obtain ⟨hn, e⟩ := e0
      simp only [Bool.and_eq_true] at hn
      obtain ⟨⟨h1, h2⟩, h3⟩ := hn
      have e0 := cond_some e; clear e; obtain ⟨h4, e⟩ := e0
      refine okay e (v1 := if agg = true then .agg sz fun k => .im (rowsT τ l i (j + k)) else .im (rowsT τ l i j)) (us1 := []) ?_ (row_load _ (nble h2) (nblt h3) (f := rowsT τ l i) fun k => rfl) (ULe.refl _)
      simp only [asem, aev_st, hx, DV.toV, AM.wp]
      exact ⟨_, O_st_some ho, ⟨nbeq h1, by simpa using h4, nble h2⟩, by simp [AM.wp]⟩
    · cases e
  · rename_i τ l i j hx
    have e0 := cond_some e; clear e; obtain ⟨hn, e⟩ := e0
    simp only [Bool.and_eq_true] at hn
    obtain ⟨h2, h3⟩ := hn
    have e0 := cond_some e; clear e; obtain ⟨h4, e⟩ := e0
    refine okay0 e (v1 := if agg = true then .agg sz fun k => .im (rowsT τ l i (j + k)) else .im (rowsT τ l i j)) ?_ (row_load _ (nble h2) (nblt h3) (f := rowsT τ l i) fun k => rfl)
    simp only [asem, aev_st, hx, DV.toV, AM.wp]
    exact ⟨⟨by simpa using h4, nble h2⟩, by simp []⟩
  · rename_i g hx
    cases agg with
    | true => cases e
    | false =>
      simp only [cond_false] at e
      split at e
      · rename_i t hg
        refine okay0 e (v1 := .im (.glo g t)) ?_ (VLe.refl _)
        simp only [asem, aev_st, hx, DV.toV, AM.wp, hg, and_self]
      · cases e
  · cases e
theorem okay_faddr {off : Nat} {x : Operand} {h : Hint} (e : dsem σ fr (.faddr off x) h K = some r) : Okay P σ fr (.faddr off x) K r := by
  simp only [dsem] at e
  split at e
  · rename_i id ver i j hx
    refine okay0 e (v1 := .ptr id ver i (j + off)) ?_ (VLe.refl _)
    simp only [asem, aev_st, hx, DV.toV, AM.wp, and_self]
  · rename_i τ l i j hx
    refine okay0 e (v1 := .elem _ τ.size l.length (rowsT τ l) i (j + off)) ?_ (VLe.refl _)
    simp only [asem, aev_st, hx, DV.toV, AM.wp, and_self]
  · cases e
theorem nadd_eq (a b : Nat) : nadd a b = a + b := by
  cases a with
  | zero => simp [nadd]
  | succ k => rfl
theorem dsel_ok {k' : Nat → Option R} : ∀ {n j : Nat} {i : Int}, dsel n j i k' = some r → ∃ q : Nat, j ≤ q ∧ q < j + n ∧ i = (q : Int) ∧ k' q = some r
  | 0, _, _, e => by cases e
  | n + 1, j, i, e => by
    simp only [dsel] at e
    cases hb : (i == (j : Int)) with
    | true => rw [hb] at e; exact ⟨j, Nat.le_refl _, by omega, by simpa using hb, e⟩
    | false =>
      rw [hb] at e
      obtain ⟨q, h1, h2, h3, h4⟩ := dsel_ok e
      exact ⟨q, by omega, by omega, h3, h4⟩
theorem okay_iaddr {sz : Nat} {x i : Operand} {h : Hint} (e : dsem σ fr (.iaddr sz x i) h K = some r) : Okay P σ fr (.iaddr sz x i) K r := by
  simp only [dsem] at e
  split at e
  · rename_i k q hi
    split at e
    · rename_i id ver off len w hx
      split at e
      · rename_i t τ ver' l ho
        have e0 := cond_some e; clear e; obtain ⟨hn, e⟩ := e0
        simp only [Bool.and_eq_true] at hn
        have e0 := cond_some e; clear e; obtain ⟨h4, e⟩ := e0
        simp only [decide_eq_true_eq] at h4
        refine okay e (v1 := .ptr id ver (off + q.toNat) 0) (us1 := []) ?_ (VLe.of_eq (by rw [nadd_eq]; rfl)) (ULe.refl _)
        simp only [asem, aev_st, hi, hx, DV.toV, cellT, AM.wp]
        exact ⟨_, O_st_some ho, ⟨nbeq hn.1, nbeq hn.2, h4⟩, by simp [AM.wp]⟩
      · cases e
    · rename_i τ l hx
      have e0 := cond_some e; clear e; obtain ⟨hn, e⟩ := e0
      have e0 := cond_some e; clear e; obtain ⟨h4, e⟩ := e0
      simp only [decide_eq_true_eq] at h4
      refine okay0 e (v1 := .elem _ τ.size l.length (rowsT τ l) q.toNat 0) ?_ (VLe.refl _)
      simp only [asem, aev_st, hi, hx, DV.toV, cellT, AM.wp]
      exact ⟨⟨nbeq hn, h4⟩, by simp []⟩
    · rename_i id len hx
      split at e
      · rename_i t size f ho
        have e0 := cond_some e; clear e; obtain ⟨hn, e⟩ := e0
        simp only [Bool.and_eq_true] at hn
        have e0 := cond_some e; clear e; obtain ⟨h4, e⟩ := e0
        simp only [decide_eq_true_eq] at h4
        obtain ⟨j, h5, h6, h7, e2⟩ := dsel_ok e
        clear e
        subst h7
        refine okay e2 (v1 := .ptr id 0 0 j) (us1 := []) ?_ (VLe.refl _) (ULe.refl _)
        simp only [asem, aev_st, hi, hx, DV.toV, cellT, AM.wp]
        exact ⟨_, O_st_some ho, ⟨nbeq hn.1, nble hn.2, h4⟩, by simp [AM.wp]⟩
      · cases e
    · cases e
  · cases e
theorem okay_beq {neg : Bool} {x y : Operand} {h : Hint} (e : dsem σ fr (.beq neg x y) h K = some r) : Okay P σ fr (.beq neg x y) K r := by
  simp only [dsem] at e
  split at e
  · rename_i a b hx hy
    refine okay0 e (v1 := .im (.val (.bool (if neg then !((a : Bool) == b) else (a : Bool) == b)))) ?_ (VLe.of_eq (by cases neg <;> rfl))
    simp only [asem, aev_st, hx, hy, DV.toV, cellT, AM.wp, and_self]
  · cases e
theorem dkd_kd {k : Kd} {u v : DV} {r : Bool} (h : dkdEq k u v = some r) : ∃ a b, u.toV = .im (.val a) ∧ v.toV = .im (.val b) ∧ kdEq k a b = some r := by
  unfold dkdEq at h
  split at h
  · rename_i q a q' b
    have e0 := cond_some h; obtain ⟨hq, e⟩ := e0
    have hq := ikEq_eq hq
    subst hq
    exact ⟨_, _, rfl, rfl, by simp only [kdEq, if_true]; exact e⟩
  · exact ⟨_, _, rfl, rfl, h⟩
  · exact ⟨_, _, rfl, rfl, h⟩
  · cases h
theorem dcells_cells {f g : Nat → DV} : ∀ {ks : List Kd} {j : Nat} {r : Bool}, dcells f g ks j = some r → cellsEq (vval fun j => (f j).toV) (vval fun j => (g j).toV) ks j = some r
  | [], _, _, h => h
  | k :: ks, j, r, h => by
    simp only [dcells] at h
    split at h
    · rename_i u v e1 e2
      obtain ⟨a, b, h1, h2, h3⟩ := dkd_kd e1
      simp only [cellsEq, vval, h1, h2, h3]
      rw [dcells_cells e2]
      exact h
    · cases h
theorem okay_seq {neg : Bool} {ks : List Kd} {x y : Operand} {h : Hint} (e : dsem σ fr (.seq neg ks x y) h K = some r) : Okay P σ fr (.seq neg ks x y) K r := by
  simp only [dsem] at e
  split at e
  · rename_i n f m g hx hy
    have e0 := cond_some e; clear e; obtain ⟨hn, e⟩ := e0
    simp only [Bool.and_eq_true] at hn
    split at e
    · rename_i q hq
      refine okay0 e (v1 := .im (.val (.bool (if neg then !q else q)))) ?_ (VLe.of_eq (by cases neg <;> rfl))
      simp only [asem, aev_st, hx, hy, DV.toV, V.sub, dcells_cells hq, AM.wp, nbeq hn.1, nbeq hn.2, and_self]
    · cases e
  · cases e
theorem okay_not {x : Operand} {h : Hint} (e : dsem σ fr (.not x) h K = some r) : Okay P σ fr (.not x) K r := by
  simp only [dsem] at e
  split at e
  · rename_i a hx
    refine okay0 e (v1 := .im (.val (.bool (!a)))) ?_ (VLe.refl _)
    simp only [asem, aev_st, hx, DV.toV, cellT, AM.wp, and_self]
  · cases e
theorem okay_conv {k : IntKind} {x : Operand} {h : Hint} (e : dsem σ fr (.conv k x) h K = some r) : Okay P σ fr (.conv k x) K r := by
  simp only [dsem] at e
  split at e
  · rename_i q a hx
    refine okay0 e (v1 := .im (.val (.int k (k.wrap a)))) ?_ (VLe.refl _)
    simp only [asem, aev_st, hx, DV.toV, cellT, AM.wp, and_self]
  · cases e
theorem okay_fld {agg : Bool} {off sz : Nat} {x : Operand} {h : Hint} (e : dsem σ fr (.fld agg off sz x) h K = some r) : Okay P σ fr (.fld agg off sz x) K r := by
  simp only [dsem] at e
  split at e
  · rename_i n f hx
    have e0 := cond_some e; clear e; obtain ⟨hn, e⟩ := e0
    refine okay0 e (v1 := if agg = true then .agg sz fun k => (f (off + k)).toV else (f off).toV) ?_ (by cases agg <;> exact VLe.refl _)
    simp only [asem, aev_st, hx, DV.toV, AM.wp]
    exact ⟨nble hn, by simp []⟩
  · cases e
theorem okay_len {str : Bool} {x : Operand} {h : Hint} (e : dsem σ fr (.len str x) h K = some r) : Okay P σ fr (.len str x) K r := by
  simp only [dsem] at e
  split at e
  · rename_i s hx
    have e0 := cond_some e; clear e; obtain ⟨hn, e⟩ := e0
    refine okay0 e (v1 := .im (.val (.int .i64 (ByteArray.size s)))) ?_ (VLe.refl _)
    simp only [asem, aev_st, hx, DV.toV, cellT, AM.wp, hn, and_self]
  · rename_i τ l hx
    cases str with
    | true => cases e
    | false =>
      refine okay0 e (v1 := .im (.val (.int .i64 (List.length l : Nat)))) ?_ (VLe.refl _)
      simp only [asem, aev_st, hx, DV.toV, cellT, AM.wp, and_self]
  · rename_i q τ l n hx
    cases str with
    | true => cases e
    | false =>
      refine okay0 e (v1 := .im (.val (.int .i64 (n : Nat)))) ?_ (VLe.refl _)
      simp only [asem, aev_st, hx, DV.toV, AM.wp, and_self]
  · rename_i v hx
    have e0 := cond_some e; clear e; obtain ⟨hn, e⟩ := e0
    simp only [Bool.and_eq_true, Bool.not_eq_true'] at hn
    obtain rfl := isNil_eq hn.1
    obtain rfl := hn.2
    refine okay0 e (v1 := .im (.val (.int .i64 (0 : Nat)))) ?_ (VLe.refl _)
    simp only [asem, aev_st, hx, DV.toV, AM.wp, and_self]
  · rename_i id ver off len w hx
    cases str with
    | true => cases e
    | false =>
      refine okay0 e (v1 := .im (.val (.int .i64 (len : Nat)))) ?_ (VLe.refl _)
      simp only [asem, aev_st, hx, DV.toV, AM.wp, and_self]
  · rename_i id len hx
    cases str with
    | true => cases e
    | false =>
      refine okay0 e (v1 := .im (.val (.int .i64 (len : Nat)))) ?_ (VLe.refl _)
      simp only [asem, aev_st, hx, DV.toV, AM.wp, and_self]
  · cases e
theorem okay_ext {x : Operand} {i : Nat} {h : Hint} (e : dsem σ fr (.ext x i) h K = some r) : Okay P σ fr (.ext x i) K r := by
  simp only [dsem] at e
  split at e
  · rename_i n f hx
    have e0 := cond_some e; clear e; obtain ⟨hn, e⟩ := e0
    refine okay0 e (v1 := (f i).toV) ?_ (VLe.refl _)
    simp only [asem, aev_st, hx, DV.toV, AM.wp]
    exact ⟨nblt hn, by simp []⟩
  · cases e
theorem okay_ifc {t : Nat} {x : Operand} {h : Hint} (e : dsem σ fr (.ifc t x) h K = some r) : Okay P σ fr (.ifc t x) K r := by
  refine okay0 e (v1 := .ifc t (daev σ x).toV) ?_ (VLe.refl _)
  simp only [asem, aev_st, AM.wp, and_self]
theorem lf_toV (l : List DV) (j : Nat) : lf (l.map DV.toV) j = (dl l j).toV := by
  unfold lf dl
  rw [List.getD_eq_getElem?_getD, List.getD_eq_getElem?_getD, List.getElem?_map]
  cases l[j]? <;> rfl
theorem okay_fn {f : FuncId} {fi ca : List Operand} {h : Hint} (e : dsem σ fr (.fn f fi ca) h K = some r) : Okay P σ fr (.fn f fi ca) K r := by
  refine okay0 e (v1 := .clo f fi.length (fun j => (dl (fi.map (daev σ)) j).toV) ca.length fun j => (dl (ca.map (daev σ)) j).toV) ?_ (VLe.refl _)
  have e1 : ∀ l : List Operand, lf (l.map (aev σ.st)) = fun j => (dl (l.map (daev σ)) j).toV := fun l => by
    funext j
    rw [← lf_toV, List.map_map]
    congr 1
    exact List.map_congr_left fun x _ => aev_st σ x
  simp only [asem, AM.wp, e1, and_self]
theorem okay_mm {big : Bool} {x y : Operand} {h : Hint} (e : dsem σ fr (.mm big x y) h K = some r) : Okay P σ fr (.mm big x y) K r := by
  simp only [dsem] at e
  split at e
  · rename_i k a q b hx hy
    refine okay0 e (v1 := .im (.val (.int k (if big then (if (b : Int) > a then b else a) else if (b : Int) < a then b else a)))) ?_ (VLe.of_eq (by cases big <;> rfl))
    simp only [asem, aev_st, hx, hy, DV.toV, cellT, AM.wp, and_self]
  · rename_i a b hx hy
    refine okay0 e (v1 := .im (.val (.string (smm big a b)))) ?_ (VLe.refl _)
    simp only [asem, aev_st, hx, hy, DV.toV, cellT, AM.wp, and_self]
  · cases e
theorem dint_ok {op : BinOp} {k : IntKind} {x y : Int} {k' : DV → Option R} (e : dint op k x y k' = some r) (h1 : op ≠ .shl) (h2 : op ≠ .shr) : ∃ v, k' v = some r ∧ (abin op (.int k x) (.int k y)).1 ∧ v.toV = .im (.val (abin op (.int k x) (.int k y)).2) := by
  cases op <;> first
    | exact absurd rfl h1
    | exact absurd rfl h2
    | (simp only [dint] at e
       simp only [abin, aint, if_true]
       first
         | exact ⟨_, e, trivial, rfl⟩
         | (have e0 := cond_some e; clear e; obtain ⟨hn, e⟩ := e0
            exact ⟨_, e, by simpa using hn, rfl⟩)
         | cases e)
theorem dstr_ok {op : BinOp} {x y : ByteArray} {k' : DV → Option R} (e : dstr op x y k' = some r) : ∃ v, k' v = some r ∧ (abin op (.string x) (.string y)).1 ∧ v.toV = .im (.val (abin op (.string x) (.string y)).2) := by
  cases op <;>
    (simp only [dstr] at e
     simp only [abin, astr]
     first
       | exact ⟨_, e, trivial, rfl⟩
       | (have e0 := cond_some e; clear e; obtain ⟨hn, e⟩ := e0
          exact ⟨_, e, by simpa using hn, rfl⟩)
       | cases e)
theorem dbin_ok {op : BinOp} {a b : DV} {k' : DV → Option R} (e : dbin op a b k' = some r) : ∃ v x y, a.toV = .im (.val x) ∧ b.toV = .im (.val y) ∧ k' v = some r ∧ (abin op x y).1 ∧ v.toV = .im (.val (abin op x y).2) := by
  unfold dbin at e
  split at e
  · rename_i k x q y
    split at e
    · have e0 := cond_some e; clear e; obtain ⟨hn, e⟩ := e0
      exact ⟨_, _, _, rfl, rfl, e, by simpa [abin] using hn, rfl⟩
    · have e0 := cond_some e; clear e; obtain ⟨hn, e⟩ := e0
      exact ⟨_, _, _, rfl, rfl, e, by simpa [abin] using hn, rfl⟩
    · rename_i n1 n2
      have e0 := cond_some e; clear e; obtain ⟨hn, e⟩ := e0
      obtain rfl := ikEq_eq hn
      obtain ⟨v, e1, e2, e3⟩ := dint_ok e n1 n2
      exact ⟨v, _, _, rfl, rfl, e1, e2, e3⟩
  · obtain ⟨v, e1, e2, e3⟩ := dstr_ok e
    exact ⟨v, _, _, rfl, rfl, e1, e2, e3⟩
  · cases e
theorem okay_bin {op : BinOp} {x y : Operand} {h : Hint} (e : dsem σ fr (.bin op x y) h K = some r) : Okay P σ fr (.bin op x y) K r := by
  simp only [dsem] at e
  unfold dbinH at e
  split at e
  · rename_i κ n hx
    cases κ with
    | str => cases e
    | int k =>
      simp only [dhv] at e
      split at e
      · rename_i k' m hy
        have e0 := cond_some e; clear e; obtain ⟨hk, e⟩ := e0
        obtain rfl := ikEq_eq hk
        refine okay0 e (v1 := .im (.anyn (.int k))) ?_ (VLe.refl _)
        simp only [asem, aev_st, hx, hy, DV.toV, cellT, AM.wp]
        simp
      · cases e
  obtain ⟨v, a, b, h1, h2, e, h3, h4⟩ := dbin_ok e
  refine okay0 e (v1 := .im (.val (abin op a b).2)) ?_ (VLe.of_eq h4.symm)
  simp only [asem, aev_st, h1, h2, AM.wp]
  exact ⟨h3, by simp []⟩
theorem okay_b2s {x : Operand} {h : Hint} (e : dsem σ fr (.b2s x) h K = some r) : Okay P σ fr (.b2s x) K r := by
  simp only [dsem] at e
  obtain ⟨rd, l, g, e, h1, h2⟩ := dsrc_ok (P := P) (fr := fr) e
  have hg : ∀ i, i < l.length → g i 0 = .val (.int .u8 (l.getD i 0)) := fun i hi => h1 i 0 hi (by simp [Tp.size])
  refine okay e (v1 := .im (.val (.string (strOfNums l)))) (us1 := []) ?_ (VLe.refl _) (ULe.refl _)
  simp only [asem, aev_st]
  refine h2 _ _ ?_
  simp only [AM.wp]
  refine ⟨fun i hi => by rw [hg i hi]; trivial, ?_⟩
  have e2 : ((List.range l.length).map fun i => (g i 0).num) = l := by
    apply List.ext_getElem
    · simp
    · intro i h3 h4
      simp only [List.getElem_map, List.getElem_range]
      rw [hg i h4]
      simp [T.num, h4]
  simp [e2]
theorem okay_b2b {x : Operand} {h : Hint} (e : dsem σ fr (.b2b x) h K = some r) : Okay P σ fr (.b2b x) K r := by
  simp only [dsem] at e
  split at e
  · rename_i id ver off len w hx
    split at e
    · rename_i t ver' l ho
      have e0 := cond_some e; clear e; obtain ⟨hn, e⟩ := e0
      simp only [Bool.and_eq_true] at hn
      obtain rfl := nbeq hn.1
      obtain rfl := nbeq hn.2
      have e0 := cond_some e; clear e; obtain ⟨hl, e⟩ := e0
      simp only [decide_eq_true_eq] at hl
      obtain ⟨rfl, hlen⟩ := hl
      refine okay e (v1 := .im (.sl _ 1 (List.length l) (rowsT (.int .u8) l))) (us1 := [(id, .gone (ver' + 1))]) ?_ (VLe.refl _) (ULe.refl _)
      simp only [asem, aev_st, hx, DV.toV]
      exact ⟨_, O_st_some ho, by first | exact ⟨rfl, ⟨rfl, rfl⟩, rfl, hlen⟩ | exact ⟨rfl, trivial, rfl, hlen⟩ | simpa [Tp.size] using hlen, by simp [AM.wp]⟩
    · cases e
  · cases e
theorem okay_store {sz : Nat} {a x : Operand} {h : Hint} (e : dsem σ fr (.store sz a x) h K = some r) : Okay P σ fr (.store sz a x) K r := by
  simp only [dsem] at e
  have e0 := cond_some e; clear e; obtain ⟨hz, e⟩ := e0
  split at e
  · rename_i id ver i j hx
    split at e
    · rename_i t size f ho
      have e0 := cond_some e; clear e; obtain ⟨hn, e⟩ := e0
      simp only [Bool.and_eq_true] at hn
      obtain ⟨h1, h2, h3⟩ := hn
      refine okay e (v1 := .im (.val undef)) (us1 := [(id, .var t size fun t => if j ≤ t ∧ t < j + sz then (daev σ x).toV.cell (t - j) else (f t).toV)]) ?_ (VLe.refl _) ⟨rfl, ⟨rfl, rfl, fun t _ => VLe.of_eq ?_⟩, trivial⟩
      · simp only [asem, aev_st, hx, DV.toV, AM.wp]
        exact ⟨by rw [ncell_toV]; exact nbeq hz, _, O_st_some ho, ⟨nbeq h1, nbeq h2, nble h3⟩, by simp [AM.wp]⟩
      · simp only [nble_iff, nblt_iff]
        by_cases hh : j ≤ t ∧ t < j + sz
        · simp [hh, cell_toV]
        · rw [if_neg hh]
          have : (decide (j ≤ t) && decide (t < j + sz)) = false := by
            rw [← Bool.not_eq_true, Bool.and_eq_true, decide_eq_true_eq, decide_eq_true_eq]; exact hh
          simp [this]
    · rename_i rm t τ ver' l ho
      have e0 := cond_some e; clear e; obtain ⟨hn, e⟩ := e0
      obtain rfl := nbeq hn
      have e0 := cond_some e; clear e; obtain ⟨h4, e⟩ := e0
      simp only [decide_eq_true_eq] at h4
      have fin : ∀ {row : den τ} {us : List (Nat × DOb)} {ts : List T}, (cond (us.all fun u => !(Nat.beq u.1 id)) (K (id :: us.map (·.1)) (.raw undef) ((id, .arr (.own rm) t τ ver' (l.set i row)) :: us)) none) = some r →
          (∀ (kk : List T → List (Nat × Ob) → AM) (Kp : List Nat → V → List (Nat × Ob) → Prop), (kk ts (dups us)).wp P σ.st.O fr (fun a b c => Kp (us.map (·.1) ++ a) b c) → (frzL (cellsOf sz (aev σ.st x)) kk).wp P σ.st.O fr Kp) →
          j + sz ≤ τ.size → (∀ j', j' < τ.size → T.le (if j ≤ j' ∧ j' < j + sz then ts.getD (j' - j) (.val undef) else rowsT τ l i j') (cellT τ row j')) → Okay P σ fr (.store sz a x) K r := by
        intro row us ts e hk hb hle
        have e0 := cond_some e; clear e; obtain ⟨h5, e⟩ := e0
        refine okay e (v1 := .im (.val undef)) (us1 := (id, .arr (.own rm) t τ.size ver' l.length fun i' j' => if i' = i ∧ j ≤ j' ∧ j' < j + sz then ts.getD (j' - j) (.val undef) else rowsT τ l i' j') :: dups us) ?_ (VLe.refl _) ⟨rfl, ⟨rfl, rfl, rfl, rfl, by simp, fun i' j' hi' hj' => ?_⟩, ULe.refl _⟩
        · simp only [asem, aev_st, hx, DV.toV, ncell_toV]
          refine ⟨nbeq hz, _, O_st_some ho, ⟨rfl, h4, hb⟩, ?_⟩
          simp only [← aev_st]
          refine hk _ _ ⟨?_, ?_⟩
          · simp only [List.all_map, List.all_eq_true, Function.comp] at h5 ⊢
            intro u hu
            have := h5 u hu
            simp only [nbeq_iff] at this
            simpa using this
          · simp [AM.wp]
        · by_cases hii : i' = i
          · subst hii
            have : rowsT τ (l.set i' row) i' j' = cellT τ row j' := by
              simp only [rowsT, List.getD_eq_getElem?_getD, List.getElem?_set_self h4, Option.getD_some]
            rw [this]
            have := hle j' hj'
            simpa only [true_and] using this
          · have : rowsT τ (l.set i row) i' j' = rowsT τ l i' j' := by
              simp only [rowsT, List.getD_eq_getElem?_getD, List.getElem?_set_ne (Ne.symm hii)]
            rw [this]
            simp only [hii, false_and, if_false]
            exact T.le_refl _
      cases hw : (Nat.beq j 0 && Nat.beq sz τ.size) with
      | true =>
        simp only [hw, cond_true] at e
        simp only [Bool.and_eq_true] at hw
        obtain rfl := nbeq hw.1
        obtain rfl := nbeq hw.2
        obtain ⟨row, us, ts, e, g1, g2, -, g3⟩ := drow_ok (P := P) (fr := fr) e
        refine fin e (ts := ts) (fun kk Kp hk => ?_) (by omega) (fun j' hj' => ?_)
        · have : cellsOf τ.size (aev σ.st x) = (List.range τ.size).map fun j => ((daev σ x).cell j).toV := by
            unfold cellsOf
            rw [aev_st]
            exact List.map_congr_left fun j _ => cell_toV _ j
          rw [this]
          exact g3 _ _ hk
        · rw [if_pos ⟨Nat.zero_le _, by omega⟩, Nat.sub_zero]
          exact g2 j' hj'
      | false =>
        simp only [hw, cond_false] at e
        have e0 := cond_some e; clear e; obtain ⟨hw, e⟩ := e0
        simp only [Bool.and_eq_true] at hw
        obtain rfl := nbeq hw.1
        have hj := nblt hw.2
        obtain ⟨row, us, t', e, g1, g2, g3⟩ := dset1_ok (P := P) (fr := fr) e hj
        refine fin e (ts := [t']) (fun kk Kp hk => ?_) (by omega) (fun j' hj' => ?_)
        · have : cellsOf 1 (aev σ.st x) = [((daev σ x).cell 0).toV] := by
            rw [aev_st, ← cell_toV]; rfl
          rw [this]
          simp only [frzL]
          exact g3 _ _ (by simpa using hk)
        · by_cases hjj : j' = j
          · subst hjj
            rw [if_pos ⟨Nat.le_refl _, by omega⟩, Nat.sub_self]
            exact g1
          · rw [if_neg (by omega)]
            exact T.le_of_eq (g2 j' hjj).symm
    · cases e
  · cases e
theorem slice'_len {α : Type} (l : List α) (lo : Nat) (hi : Option Nat) (n : Nat) (hn : hi.getD l.length = n) (h : lo ≤ n) (h2 : n ≤ l.length) : (slice' l lo hi).length = n - lo ∧ ∀ i d, i < n - lo → (slice' l lo hi).getD i d = l.getD (lo + i) d := by
  subst hn
  cases hi with
  | none =>
    cases lo with
    | zero => exact ⟨by simp [slice'], fun i d _ => by simp [slice']⟩
    | succ lo => exact ⟨by simp [slice'], fun i d _ => by simp [slice', List.getD_eq_getElem?_getD, List.getElem?_drop]⟩
  | some n =>
    simp only [Option.getD_some] at h h2 ⊢
    cases lo with
    | zero =>
      refine ⟨by simp only [slice', List.length_take]; omega, fun i d hi => ?_⟩
      simp only [slice', List.getD_eq_getElem?_getD, List.getElem?_take]
      rw [if_pos (by omega), Nat.zero_add]
    | succ lo =>
      refine ⟨by simp only [slice', List.length_take, List.length_drop]; omega, fun i d hi => ?_⟩
      simp only [slice', List.getD_eq_getElem?_getD, List.getElem?_take, List.getElem?_drop]
      rw [if_pos hi]
theorem okay_slc {sz : Nat} {x : Operand} {lo hi : Option Operand} {h : Hint} (e : dsem σ fr (.slc sz x lo hi) h K = some r) : Okay P σ fr (.slc sz x lo hi) K r := by
  simp only [dsem] at e
  split at e
  · rename_i s hx
    have e0 := cond_some e; clear e; obtain ⟨hn, e⟩ := e0
    obtain rfl := nbeq hn
    obtain ⟨l, e, k1⟩ := dbnd_ok (P := P) (fr := fr) e
    obtain ⟨m, e, k2⟩ := dbnd_ok (P := P) (fr := fr) e
    have e0 := cond_some e; clear e; obtain ⟨hn, e⟩ := e0
    simp only [decide_eq_true_eq] at hn
    refine okay0 e (v1 := .im (.val (.string (ByteArray.extract s l m)))) ?_ (VLe.refl _)
    simp only [asem, aev_st, hx, DV.toV, cellT]
    refine k1 _ _ (k2 _ _ ?_)
    exact ⟨⟨by first | rfl | trivial, hn⟩, by simp [AM.wp]⟩
  · rename_i τ l hx
    have e0 := cond_some e; clear e; obtain ⟨hn, e⟩ := e0
    simp only [Bool.and_eq_true] at hn
    obtain ⟨hs, hs0⟩ := hn
    obtain rfl := nbeq hs
    have hs0 := nblt hs0
    obtain ⟨a, e, k1⟩ := dbnd_ok (P := P) (fr := fr) e
    cases hi with
    | none =>
      have e0 := cond_some e; clear e; obtain ⟨hn, e⟩ := e0
      simp only [decide_eq_true_eq] at hn
      obtain ⟨g1, g2⟩ := slice'_len l a none l.length rfl hn (Nat.le_refl _)
      refine okay0 e (v1 := .im (.sl _ τ.size (List.length l - a) fun i j => rowsT τ l (a + i) j)) ?_ (VLe.im (sl_le g1 fun i j hi _ => T.le_of_eq ?_))
      · simp only [asem, aev_st, hx, DV.toV, cellT]
        refine k1 _ _ ?_
        exact ⟨⟨hs0, by first | rfl | trivial, hn, Nat.le_refl _⟩, by first | exact ⟨rfl, rfl, rfl⟩ | simp [AM.wp]⟩
      · simp only [rowsT]
        exact congrArg (fun z => cellT τ z j) (g2 i (dflt τ) hi).symm
    | some hi =>
      obtain ⟨b, e, k2⟩ := dbnd_ok (P := P) (fr := fr) e
      have e0 := cond_some e; clear e; obtain ⟨hn, e⟩ := e0
      simp only [decide_eq_true_eq] at hn
      obtain ⟨g1, g2⟩ := slice'_len l a (some b) b rfl hn.1 hn.2
      refine okay0 e (v1 := .im (.sl _ τ.size (b - a) fun i j => rowsT τ l (a + i) j)) ?_ (VLe.im (sl_le g1 fun i j hi _ => T.le_of_eq ?_))
      · simp only [asem, aev_st, hx, DV.toV, cellT]
        refine k1 _ _ ?_
        have hd : ∀ d, bnd σ.st d (some hi) = bnd σ.st 0 (some hi) := fun d => rfl
        rw [hd]
        refine k2 _ _ ?_
        exact ⟨⟨hs0, by first | rfl | trivial, hn⟩, by first | exact ⟨rfl, rfl, rfl⟩ | simp [AM.wp]⟩
      · simp only [rowsT]
        exact congrArg (fun z => cellT τ z j) (g2 i (dflt τ) hi).symm
  · rename_i q τ l n0 hx
    have e0 := cond_some e; clear e; obtain ⟨hn, e⟩ := e0
    simp only [Bool.and_eq_true] at hn
    obtain ⟨hs, hs0⟩ := hn
    obtain rfl := nbeq hs
    have hs0 := nblt hs0
    obtain ⟨a, e, k1⟩ := dbnd_ok (P := P) (fr := fr) e
    cases hi with
    | none => cases e
    | some hi =>
      obtain ⟨b, e, k2⟩ := dbnd_ok (P := P) (fr := fr) e
      have e0 := cond_some e; clear e; obtain ⟨hn, e⟩ := e0
      simp only [decide_eq_true_eq] at hn
      obtain ⟨g1, g2⟩ := slice'_len l a (some b) b rfl hn.1 hn.2
      refine okay0 e (v1 := .im (.sl _ τ.size (b - a) fun i j => rowsT τ l (a + i) j)) ?_ (VLe.im (sl_le g1 fun i j hi _ => T.le_of_eq ?_))
      · simp only [asem, aev_st, hx, DV.toV]
        refine k1 _ _ ?_
        have hd : ∀ d, bnd σ.st d (some hi) = bnd σ.st 0 (some hi) := fun d => rfl
        rw [hd]
        refine k2 _ _ ?_
        exact ⟨⟨hs0, by first | rfl | trivial, hn⟩, by first | exact ⟨rfl, rfl, rfl⟩ | simp [AM.wp]⟩
      · simp only [rowsT]
        exact congrArg (fun z => cellT τ z j) (g2 i (dflt τ) hi).symm
  · rename_i v hx
    have e0 := cond_some e; clear e; obtain ⟨hn, e⟩ := e0
    obtain rfl := isNil_eq hn
    obtain ⟨a, e, k1⟩ := dbnd_ok (P := P) (fr := fr) e
    obtain ⟨b, e, k2⟩ := dbnd_ok (P := P) (fr := fr) e
    have e0 := cond_some e; clear e; obtain ⟨hn, e⟩ := e0
    simp only [Bool.and_eq_true] at hn
    refine okay0 e (v1 := .im (.val (.slice none 0 0))) ?_ (VLe.refl _)
    simp only [asem, aev_st, hx, DV.toV]
    refine k1 _ _ (k2 _ _ ?_)
    exact ⟨⟨nblt hn.1, nbeq hn.2.1, nbeq hn.2.2⟩, by simp [AM.wp]⟩
  · rename_i id ver off len w hx
    split at e
    · rename_i t τ ver' o ho
      have e0 := cond_some e; clear e; obtain ⟨hn, e⟩ := e0
      simp only [Bool.and_eq_true] at hn
      obtain ⟨a, e, k1⟩ := dbnd_ok (P := P) (fr := fr) e
      obtain ⟨b, e, k2⟩ := dbnd_ok (P := P) (fr := fr) e
      have e0 := cond_some e; clear e; obtain ⟨h4, e⟩ := e0
      simp only [decide_eq_true_eq] at h4
      refine okay e (v1 := .buf id ver (off + a) (b - a)) (us1 := []) ?_ (VLe.of_eq (by rw [nadd_eq]; rfl)) (ULe.refl _)
      simp only [asem, aev_st, hx, DV.toV]
      refine ⟨_, O_st_some ho, ?_⟩
      refine k1 _ _ ?_
      refine k2 _ _ ?_
      exact ⟨⟨nblt hn.2.2, nbeq hn.1, nbeq hn.2.1, h4⟩, by simp [AM.wp]⟩
    · cases e
  · cases e
theorem okay_make {rm : Bool} {e' sz : Nat} {z : List Value} {bytes : Nat} {len cap : Operand} {h : Hint} (e : dsem σ fr (.make rm e' sz z bytes len cap) h K = some r) : Okay P σ fr (.make rm e' sz z bytes len cap) K r := by
  simp only [dsem] at e
  split at e
  · rename_i τ
    split at e
    · rename_i k n q c hl hc
      have e0 := cond_some e; clear e; obtain ⟨hs, e⟩ := e0
      obtain rfl := nbeq hs
      have e0 := cond_some e; clear e; obtain ⟨h4, e⟩ := e0
      simp only [decide_eq_true_eq] at h4
      obtain ⟨row, us, ts, e, g1, g2, g4, g3⟩ := drow_ok (P := P) (fr := fr) e
      have e0 := cond_some e; clear e; obtain ⟨hu, e⟩ := e0
      obtain rfl : us = [] := by simpa using hu
      -- what the zero's cells are
      have ht : ∀ j, j < τ.size → T.le (.val (z.getD j undef)) (cellT τ row j) := fun j hj => by
        have := g4 rfl j hj
        rw [dval_toV] at this
        have h2 := g2 j hj
        rw [this] at h2
        exact h2
      refine okay e (v1 := .buf fr 0 0 (Int.toNat n)) (us1 := [(fr, .arr (if rm = true then .app else .own (rmOf z)) e' τ.size 0 (Int.toNat n) fun _ j => .val (z.getD j undef))]) ?_ (VLe.refl _) ⟨rfl, ⟨by cases rm <;> rfl, rfl, rfl, rfl, by simp, fun i j hi hj => ?_⟩, trivial⟩
      · simp only [asem, aev_st, hl, hc, DV.toV, cellT]
        exact ⟨h4, by simp [AM.wp]⟩
      · have : rowsT τ (List.replicate (Int.toNat n) row) i j = cellT τ row j := by
          simp only [rowsT, List.getD_eq_getElem?_getD, List.getElem?_replicate, hi, if_true, Option.getD_some]
        rw [this]
        exact ht j hj
    · cases e
  · cases e
theorem okay_app {e' sz : Nat} {z : List Value} {bytes : Nat} {s x : Operand} {h : Hint} (e : dsem σ fr (.app e' sz z bytes s x) h K = some r) : Okay P σ fr (.app e' sz z bytes s x) K r := by
  simp only [dsem] at e
  split at e
  · rename_i id ver off len w hs
    split at e
    · rename_i zz t τ ver' l ho
      have e0 := cond_some e; clear e; obtain ⟨hn, e⟩ := e0
      simp only [Bool.and_eq_true] at hn
      obtain ⟨⟨hza, h1, h2, h3⟩, h40, hwo⟩ := hn
      obtain rfl := nbeq h2
      obtain rfl := nbeq h40
      have e0 := cond_some e; clear e; obtain ⟨h4, e⟩ := e0
      obtain ⟨hq1, hq2⟩ := subl_le l 0 len w h4
      have hln : len = l.length ∨ (zz = .own none ∧ len ≤ l.length) := by
        unfold wholeB at h4
        cases w with
        | true =>
          simp only [cond_true, Bool.and_eq_true, decide_eq_true_eq] at h4
          exact .inl h4.2
        | false =>
          simp only [cond_false, decide_eq_true_eq, Nat.zero_add] at h4
          exact .inr ⟨Zz.eqb_eq (by simpa using hwo), h4⟩
      obtain ⟨rd, m, g, e, g1, g2⟩ := dsrc_ok (P := P) (fr := fr) e
      have e0 := cond_some e; clear e; obtain ⟨h5, e⟩ := e0
      simp only [decide_eq_true_eq] at h5
      rw [hq1] at h5
      obtain rfl := nbeq h1
      obtain rfl := nbeq h3
      refine okay e (v1 := .buf id (ver' + 1) 0 (len + m.length)) (us1 := [(id, .arr (zz.gr (rmOf z)) t τ.size (ver' + 1) (len + m.length) fun i j => if i < len then rowsT τ l i j else g (i - len) j)]) ?_
        (VLe.of_eq (by simp [DV.toV, hq1])) ⟨rfl, ⟨rfl, rfl, rfl, rfl, by simp [hq1], fun i j hi hj => T.le_of_eq ?_⟩, trivial⟩
      · simp only [asem, aev_st, hs, DV.toV]
        refine ⟨_, O_st_some ho, ⟨Zz.alive_ne hza, rfl, by trivial, hln, rfl, rfl⟩, ?_⟩
        refine g2 _ _ ?_
        exact ⟨h5, by simp [AM.wp]⟩
      · simp only [rowsT]
        by_cases hi' : i < len
        · have := hq2 i hi'
          rw [Nat.zero_add] at this
          rw [if_pos hi', ← this, List.getD_eq_getElem?_getD, List.getD_eq_getElem?_getD, List.getElem?_append_left (by omega)]
        · rw [if_neg hi', g1 _ _ (by omega) hj, List.getD_eq_getElem?_getD, List.getElem?_append_right (by omega), hq1, ← List.getD_eq_getElem?_getD]
    · cases e
  · rename_i v hs
    split at e
    · rename_i τ
      have e0 := cond_some e; clear e; obtain ⟨hn, e⟩ := e0
      simp only [Bool.and_eq_true] at hn
      obtain rfl := isNil_eq hn.1
      obtain rfl := nbeq hn.2
      obtain ⟨rd, m, g, e, g1, g2⟩ := dsrc_ok (P := P) (fr := fr) e
      have e0 := cond_some e; clear e; obtain ⟨h5, e⟩ := e0
      simp only [decide_eq_true_eq] at h5
      refine okay e (v1 := .buf fr 0 0 m.length) (us1 := [(fr, .arr (.own (rmOf z)) e' τ.size 0 m.length g)]) ?_ (VLe.refl _) ⟨rfl, ⟨rfl, rfl, rfl, rfl, rfl, fun i j hi hj => T.le_of_eq (g1 i j hi hj)⟩, trivial⟩
      simp only [asem, aev_st, hs, DV.toV]
      refine g2 _ _ ?_
      exact ⟨h5, by simp [AM.wp]⟩
    · cases e
  · cases e
theorem numsOf_length (s : ByteArray) : (numsOf s).length = s.size := by
  unfold numsOf
  rw [List.length_map, Array.length_toList]
  rfl
theorem numsOf_row (s : ByteArray) {i j : Nat} (hi : i < s.size) (hj : j < 1) : rowsT (.int .u8) (numsOf s) i j = .val (.int .u8 (bAt s i)) := by
  obtain rfl : j = 0 := by omega
  show T.val (.int .u8 ((numsOf s).getD i 0)) = _
  have hk : i < s.data.toList.length := by rw [Array.length_toList]; exact hi
  unfold numsOf bAt
  rw [List.getD_eq_getElem?_getD, List.getElem?_map, List.getElem?_eq_getElem hk, List.getD_eq_getElem?_getD, List.getElem?_eq_getElem hk]
  rfl
theorem okay_apps {e' : Nat} {s x : Operand} {h : Hint} (e : dsem σ fr (.apps e' s x) h K = some r) : Okay P σ fr (.apps e' s x) K r := by
  simp only [dsem] at e
  split at e
  · rename_i q hx
    split at e
    · rename_i id ver off len w hs
      split at e
      · rename_i zz t ver' l ho
        have e0 := cond_some e; clear e; obtain ⟨hn, e⟩ := e0
        simp only [Bool.and_eq_true] at hn
        obtain ⟨hza, h1, h3⟩ := hn
        have e0 := cond_some e; clear e; obtain ⟨h4, e⟩ := e0
        simp only [Bool.and_eq_true, decide_eq_true_eq] at h4
        have e0 := cond_some e; clear e; obtain ⟨h5, e⟩ := e0
        simp only [decide_eq_true_eq] at h5
        obtain rfl := nbeq h1
        obtain rfl := nbeq h3
        refine okay e (v1 := .buf id (ver' + 1) 0 (List.length l + q.size)) (us1 := [(id, .arr zz.nr t 1 (ver' + 1) (List.length l + q.size) fun i j => if i < List.length l then rowsT (.int .u8) l i j else .val (.int .u8 (bAt q (i - List.length l))))]) ?_
          (VLe.of_eq (by simp [DV.toV, numsOf_length])) ⟨rfl, ⟨rfl, rfl, rfl, rfl, by simp [numsOf_length], fun i j hi hj => T.le_of_eq ?_⟩, trivial⟩
        · simp only [asem, aev_st, hs, hx, DV.toV]
          exact ⟨_, O_st_some ho, ⟨Zz.alive_ne hza, rfl, nbeq h4.1, h4.2, rfl, rfl⟩, h5, rfl, rfl, rfl⟩
        · by_cases hi' : i < List.length l
          · simp only [if_pos hi', rowsT]
            rw [List.getD_eq_getElem?_getD, List.getD_eq_getElem?_getD, List.getElem?_append_left hi']
          · simp only [if_neg hi']
            rw [← numsOf_row q (show i - List.length l < ByteArray.size q by omega) hj]
            simp only [rowsT]
            rw [List.getD_eq_getElem?_getD, List.getD_eq_getElem?_getD, List.getElem?_append_right (by omega)]
      · cases e
    · rename_i v hs
      have e0 := cond_some e; clear e; obtain ⟨hn, e⟩ := e0
      obtain rfl := isNil_eq hn
      have e0 := cond_some e; clear e; obtain ⟨h5, e⟩ := e0
      simp only [decide_eq_true_eq] at h5
      refine okay e (v1 := .buf fr 0 0 q.size) (us1 := [(fr, .arr (.own none) e' 1 0 q.size fun i _ => .val (.int .u8 (bAt q i)))]) ?_ (VLe.of_eq (by simp [DV.toV, numsOf_length])) ⟨rfl, ⟨rfl, rfl, rfl, rfl, by simp [numsOf_length], fun i j hi hj => T.le_of_eq (numsOf_row q (by simpa [numsOf_length] using hi) hj).symm⟩, trivial⟩
      simp only [asem, aev_st, hs, hx, DV.toV]
      exact ⟨h5, rfl, rfl, rfl⟩
    · cases e
  · cases e
theorem dpure_ok {p : PO} {vs : List DV} {k' : DV → Option R} (e : dpure p vs k' = some r) : ∃ v c v1, k' v = some r ∧ p.ev (vs.map DV.toV) = some (c, v1) ∧ c ∧ VLe v1 v.toV := by
  unfold dpure at e
  split at e
  · rename_i v
    unfold dnilc at e
    split at e
    · exact ⟨_, _, _, e, rfl, trivial, VLe.refl _⟩
    · exact ⟨_, _, _, e, rfl, trivial, VLe.refl _⟩
    · exact ⟨_, _, _, e, rfl, trivial, VLe.refl _⟩
    · cases e
  · split at e
    · have e0 := cond_some e; clear e; obtain ⟨hn, e⟩ := e0
      obtain rfl := isNil_eq hn
      exact ⟨_, _, _, e, rfl, trivial, VLe.refl _⟩
    · cases e
  · split at e
    · have e0 := cond_some e; clear e; obtain ⟨hn, e⟩ := e0
      simp only [decide_eq_true_eq] at hn
      exact ⟨_, _, _, e, rfl, hn, VLe.refl _⟩
    · cases e
  · split at e
    · exact ⟨_, _, _, e, rfl, trivial, VLe.refl _⟩
    · cases e
  · split at e
    · obtain ⟨v, h1, h2, h3⟩ := dint_ok e (by simp) (by simp)
      simp only [abin, if_true] at h2 h3
      exact ⟨v, _, _, h1, rfl, h2, VLe.of_eq h3.symm⟩
    · cases e
  · unfold dnilq at e
    split at e
    · have e0 := cond_some e; clear e; obtain ⟨hn, e⟩ := e0
      obtain rfl := nbeq hn
      exact ⟨_, _, _, e, rfl, trivial, VLe.refl _⟩
    · have e0 := cond_some e; clear e; obtain ⟨hn, e⟩ := e0
      obtain rfl := nbeq hn
      exact ⟨_, _, _, e, rfl, trivial, VLe.refl _⟩
    · have e0 := cond_some e; clear e; obtain ⟨hn, e⟩ := e0
      obtain rfl := nbeq hn
      exact ⟨_, _, _, e, rfl, trivial, VLe.refl _⟩
    · have e0 := cond_some e; clear e; obtain ⟨hn, e⟩ := e0
      obtain rfl := nbeq hn
      exact ⟨_, _, _, e, rfl, trivial, VLe.refl _⟩
    · have e0 := cond_some e; clear e; obtain ⟨hn, e⟩ := e0
      obtain rfl := nbeq hn
      exact ⟨_, _, _, e, rfl, trivial, VLe.refl _⟩
    · have e0 := cond_some e; clear e; obtain ⟨hn, e⟩ := e0
      unfold nilKd at hn
      split at hn
      · exact ⟨_, _, _, e, rfl, trivial, VLe.refl _⟩
      · exact ⟨_, _, _, e, rfl, trivial, VLe.refl _⟩
      · exact ⟨_, _, _, e, rfl, trivial, VLe.refl _⟩
      · exact ⟨_, _, _, e, rfl, trivial, VLe.refl _⟩
      · cases hn
    · have e0 := cond_some e; clear e; obtain ⟨hn, e⟩ := e0
      obtain rfl := nbeq hn
      exact ⟨_, _, _, e, rfl, trivial, VLe.refl _⟩
    · rename_i τ l
      have e0 := cond_some e; clear e; obtain ⟨hn, e⟩ := e0
      obtain rfl := nbeq hn
      cases hb : (Nat.blt 0 τ.size && decide (0 < List.length l)) with
      | true =>
        rw [hb] at e
        simp only [Bool.and_eq_true, decide_eq_true_eq] at hb
        refine ⟨_, _, _, e, rfl, trivial, VLe.of_eq ?_⟩
        exact if_pos ⟨hb.2, nblt hb.1⟩
      | false =>
        rw [hb] at e
        refine ⟨_, _, _, e, rfl, trivial, VLe.of_eq ?_⟩
        refine if_neg fun hh => ?_
        rw [Bool.and_eq_false_iff] at hb
        rcases hb with hb | hb
        · rw [show Nat.blt 0 τ.size = true from by rw [nblt_iff]; exact decide_eq_true hh.2] at hb; cases hb
        · simp at hb; have := hh.1; simp only [hb, List.length_nil] at this; omega
    · cases e
  · split at e
    · rename_i ag sz len n f q i
      have e0 := cond_some e; clear e; obtain ⟨hn, e⟩ := e0
      obtain rfl := nbeq hn
      have e0 := cond_some e; clear e; obtain ⟨hn, e⟩ := e0
      simp only [decide_eq_true_eq] at hn
      obtain ⟨q', h4, h5, h6, e⟩ := dsel_ok e
      refine ⟨_, _, _, e, rfl, ⟨hn.1, hn.2, rfl⟩, VLe.of_eq ?_⟩
      subst h6
      simp only [Int.toNat_natCast]
      split <;> rename_i hh <;> simp [hh, DV.toV]
    · cases e
  · split at e
    · split at e
      · rename_i kd cs hg
        have e0 := cond_some e; clear e; obtain ⟨hn, e⟩ := e0
        simp only [decide_eq_true_eq] at hn
        rename_i len x1 i1 g q i x2
        refine ⟨_, (0 ≤ i ∧ i < (len : Int) ∧ cs.length = len), .elem .old 1 len (fun a _ => .val (.int kd (cs.getD a 0))) (Int.toNat i) 0, e, ?_, hn, ?_⟩
        · show gidxV len (.im (.val (.pointer (some ⟨g, 0, none⟩)))) (.im (.val (.int q i))) = _
          simp only [gidxV, hg]
        · rintro b ρ O w x hmo ⟨ad, h1, h2, h3, h4⟩
          refine ⟨ad, h1, by rw [hn.2.2]; exact h2, h3, fun m hm => ?_⟩
          have hm0 : m < 1 := hm
          obtain rfl : m = 0 := by omega
          exact h4 0 (Nat.lt_succ_self 0)
      · cases e
    · cases e
  · split at e
    · refine ⟨_, _, _, e, rfl, trivial, VLe.of_eq ?_⟩
      rename_i big _ _ _ _ _ _ _ _ _
      cases big <;> rfl
    · cases e
  · cases e
theorem okay_pure {p : PO} {xs : List Operand} {h : Hint} (e : dsem σ fr (.pure p xs) h K = some r) : Okay P σ fr (.pure p xs) K r := by
  simp only [dsem] at e
  obtain ⟨v, c, v1, e, h1, h2, h3⟩ := dpure_ok e
  refine okay0 e (v1 := v1) ?_ h3
  have e1 : xs.map (aev σ.st) = (xs.map (daev σ)).map DV.toV := by rw [List.map_map]; exact List.map_congr_left fun x _ => aev_st σ x
  simp only [asem, e1, h1]
  exact ⟨h2, rfl, rfl, rfl⟩
theorem okay_s2b {e' : Nat} {x : Operand} {h : Hint} (e : dsem σ fr (.s2b e' x) h K = some r) : Okay P σ fr (.s2b e' x) K r := by
  simp only [dsem] at e
  split at e
  · rename_i s hx
    have hl : (numsOf s).length = s.size := by unfold numsOf; rw [List.length_map]; rfl
    refine okay0 e (v1 := .im (.sl _ 1 (ByteArray.size s) fun i _ => .val (.int .u8 (bAt s i)))) ?_ (VLe.im (sl_le (τ := .int .u8) hl fun i j hi hj => T.le_of_eq ?_))
    · simp only [asem, aev_st, hx, DV.toV, cellT, AM.wp, and_self]
    · obtain rfl : j = 0 := by simp [Tp.size] at hj; exact hj
      simp only [rowsT, cellT, bAt, numsOf]
      congr 2
      have hi' : i < s.data.toList.length := hi
      rw [List.getD_eq_getElem?_getD, List.getD_eq_getElem?_getD, List.getElem?_map, List.getElem?_eq_getElem hi']
      rfl
  · cases e
theorem copyL_len {α : Type} (l : List α) (off n : Nat) (m : List α) (h : off + n ≤ l.length) : (copyL l off n m).length = l.length ∧ ∀ i d, (copyL l off n m).getD i d = if off ≤ i ∧ i < off + min m.length n then m.getD (i - off) d else l.getD i d := by
  have e : copyL l off n m = l.take off ++ (m.take n ++ l.drop (off + min m.length n)) := by
    cases off with
    | zero => simp [copyL]
    | succ o => rfl
  rw [e]
  refine ⟨by simp; omega, fun i d => ?_⟩
  simp only [List.getD_eq_getElem?_getD]
  by_cases c1 : i < off
  · rw [if_neg (by omega), List.getElem?_append_left (by simp; omega), List.getElem?_take, if_pos c1]
  · rw [List.getElem?_append_right (by simp; omega)]
    have e1 : (l.take off).length = off := by simp; omega
    rw [e1]
    by_cases c2 : i < off + min m.length n
    · rw [if_pos ⟨by omega, c2⟩, List.getElem?_append_left (by simp; omega), List.getElem?_take, if_pos (by omega)]
    · rw [if_neg (by omega), List.getElem?_append_right (by simp; omega), List.getElem?_drop]
      congr 2
      simp
      omega
theorem okay_copy {sz : Nat} {d s : Operand} {h : Hint} (e : dsem σ fr (.copy sz d s) h K = some r) : Okay P σ fr (.copy sz d s) K r := by
  simp only [dsem] at e
  split at e
  · rename_i id ver off len w hs
    split at e
    · rename_i rm t τ ver' l ho
      have e0 := cond_some e; clear e; obtain ⟨hn, e⟩ := e0
      simp only [Bool.and_eq_true] at hn
      obtain ⟨h1, h2⟩ := hn
      obtain rfl := nbeq h1
      obtain rfl := nbeq h2
      have e0 := cond_some e; clear e; obtain ⟨hw, e⟩ := e0
      have hfit : off + len ≤ l.length := by
        unfold wholeB at hw
        cases w with
        | true =>
          simp only [cond_true, Bool.and_eq_true, decide_eq_true_eq] at hw
          have := nbeq hw.1
          omega
        | false => simpa using hw
      obtain ⟨rd, m, g, e, g1, g2⟩ := dsrc_ok (P := P) (fr := fr) e
      obtain ⟨c1, c2⟩ := copyL_len l off len m hfit
      refine okay e (v1 := .im (.val (.int .i64 (min m.length len : Nat)))) (us1 := [(id, .arr (.own rm) t τ.size ver' l.length fun i j => if off ≤ i ∧ i < off + min m.length len then g (i - off) j else rowsT τ l i j)]) ?_
        (VLe.refl _) ⟨rfl, ⟨rfl, rfl, rfl, rfl, c1, fun i j hi hj => T.le_of_eq ?_⟩, trivial⟩
      · simp only [asem, aev_st, hs, DV.toV]
        refine ⟨_, O_st_some ho, ⟨rfl, rfl⟩, ?_⟩
        refine g2 _ _ ?_
        simp [AM.wp]
      · simp only [rowsT]
        rw [c2 i (dflt τ)]
        by_cases hi' : off ≤ i ∧ i < off + min m.length len
        · rw [if_pos hi', if_pos hi', g1 _ _ (by omega) hj]
        · rw [if_neg hi', if_neg hi']
    · cases e
  · cases e
theorem okay_appz {e' sz : Nat} {z : List Value} {bytes : Nat} {s n : Operand} {h : Hint} (e : dsem σ fr (.appz e' sz z bytes s n) h K = some r) : Okay P σ fr (.appz e' sz z bytes s n) K r := by
  simp only [dsem] at e
  split at e
  · rename_i τ
    split at e
    · rename_i v k m hs hx
      have e0 := cond_some e; clear e; obtain ⟨hn, e⟩ := e0
      simp only [Bool.and_eq_true] at hn
      obtain rfl := isNil_eq hn.1
      obtain rfl := nbeq hn.2
      have e0 := cond_some e; clear e; obtain ⟨h4, e⟩ := e0
      simp only [decide_eq_true_eq] at h4
      obtain ⟨row, us, ts, e, g1, g2, g4, g3⟩ := drow_ok (P := P) (fr := fr) e
      have e0 := cond_some e; clear e; obtain ⟨hu, e⟩ := e0
      obtain rfl : us = [] := by simpa using hu
      have ht : ∀ j, j < τ.size → T.le (.val (z.getD j undef)) (cellT τ row j) := fun j hj => by
        have := g4 rfl j hj
        rw [dval_toV] at this
        have h2 := g2 j hj
        rw [this] at h2
        exact h2
      refine okay e (v1 := .buf fr 0 0 (Int.toNat m)) (us1 := [(fr, .arr (.own none) e' τ.size 0 (Int.toNat m) fun _ j => .val (z.getD j undef))]) ?_ (VLe.refl _) ⟨rfl, ⟨rfl, rfl, rfl, rfl, by simp, fun i j hi hj => ?_⟩, trivial⟩
      · simp only [asem, aev_st, hs, hx, DV.toV, cellT]
        exact ⟨h4, by simp [AM.wp]⟩
      · have : rowsT τ (List.replicate (Int.toNat m) row) i j = cellT τ row j := by
          simp only [rowsT, List.getD_eq_getElem?_getD, List.getElem?_replicate, hi, if_true, Option.getD_some]
        rw [this]
        exact ht j hj
    · cases e
  · cases e
theorem okay_clr {sz : Nat} {z : List Value} {x : Operand} {h : Hint} (e : dsem σ fr (.clr sz z x) h K = some r) : Okay P σ fr (.clr sz z x) K r := by
  simp only [dsem] at e
  split at e
  · rename_i id ver off len w hs
    split at e
    · rename_i rm t τ ver' l ho
      have e0 := cond_some e; clear e; obtain ⟨hn, e⟩ := e0
      simp only [Bool.and_eq_true] at hn
      obtain ⟨h1, h2⟩ := hn
      obtain rfl := nbeq h1
      obtain rfl := nbeq h2
      have e0 := cond_some e; clear e; obtain ⟨hw, e⟩ := e0
      have hfit : off + len ≤ l.length := by
        unfold wholeB at hw
        cases w with
        | true =>
          simp only [cond_true, Bool.and_eq_true, decide_eq_true_eq] at hw
          have := nbeq hw.1
          omega
        | false => simpa using hw
      obtain ⟨row, us, ts, e, g1, g2, g4, g3⟩ := drow_ok (P := P) (fr := fr) e
      have e0 := cond_some e; clear e; obtain ⟨hu, e⟩ := e0
      obtain rfl : us = [] := by simpa using hu
      have ht : ∀ j, j < τ.size → T.le (.val (z.getD j undef)) (cellT τ row j) := fun j hj => by
        have := g4 rfl j hj
        rw [dval_toV] at this
        have h2 := g2 j hj
        rw [this] at h2
        exact h2
      obtain ⟨c1, c2⟩ := copyL_len l off len (List.replicate len row) hfit
      simp only [List.length_replicate, Nat.min_self] at c2
      refine okay e (v1 := .im (.val (.tuple #[]))) (us1 := [(id, .arr (.own rm) t τ.size ver' l.length fun i j => if off ≤ i ∧ i < off + len then .val (z.getD j undef) else rowsT τ l i j)]) ?_
        (VLe.refl _) ⟨rfl, ⟨rfl, rfl, rfl, rfl, c1, fun i j hi hj => ?_⟩, trivial⟩
      · simp only [asem, aev_st, hs, DV.toV]
        exact ⟨_, O_st_some ho, ⟨rfl, rfl⟩, by simp [AM.wp]⟩
      · simp only [rowsT]
        rw [c2 i (dflt τ)]
        by_cases hi' : off ≤ i ∧ i < off + len
        · have hrw : (List.replicate len row).getD (i - off) (dflt τ) = row := by
            rw [List.getD_eq_getElem?_getD, List.getElem?_replicate, if_pos (by omega)]; rfl
          rw [if_pos hi', if_pos hi', hrw]
          exact ht j hj
        · rw [if_neg hi', if_neg hi']
          exact T.le_refl _
    · cases e
  · cases e
theorem okay_slc3 {sz : Nat} {x : Operand} {lo hi mx : Option Operand} {h : Hint} (e : dsem σ fr (.slc3 sz x lo hi mx) h K = some r) : Okay P σ fr (.slc3 sz x lo hi mx) K r := by
  simp only [dsem] at e
  split at e
  · rename_i τ l hi mx hx
    have e0 := cond_some e; clear e; obtain ⟨hn, e⟩ := e0
    simp only [Bool.and_eq_true] at hn
    obtain ⟨hs, hs0⟩ := hn
    obtain rfl := nbeq hs
    have hs0 := nblt hs0
    obtain ⟨c, e, k1⟩ := dbnd_ok (P := P) (fr := fr) e
    obtain ⟨b, e, k2⟩ := dbnd_ok (P := P) (fr := fr) e
    obtain ⟨a, e, k3⟩ := dbnd_ok (P := P) (fr := fr) e
    have e0 := cond_some e; clear e; obtain ⟨hn, e⟩ := e0
    simp only [decide_eq_true_eq] at hn
    obtain ⟨g1, g2⟩ := slice'_len l a (some b) b rfl hn.1 (by omega)
    refine okay0 e (v1 := .im (.sl _ τ.size (b - a) fun i j => rowsT τ l (a + i) j)) ?_ (VLe.im (sl_le g1 fun i j hi _ => T.le_of_eq ?_))
    · simp only [asem, aev_st, hx, DV.toV, cellT]
      have hd : ∀ d y, bnd σ.st d (some y) = bnd σ.st 0 (some y) := fun d y => rfl
      rw [hd _ mx]
      refine k1 _ _ ?_
      rw [hd _ hi]
      refine k2 _ _ (k3 _ _ ?_)
      exact ⟨⟨hs0, by first | rfl | trivial, hn.1, hn.2.1, hn.2.2, rfl, rfl⟩, by first | exact ⟨rfl, rfl, rfl⟩ | simp [AM.wp]⟩
    · simp only [rowsT]
      exact congrArg (fun z => cellT τ z j) (g2 i (dflt τ) hi).symm
  · rename_i id ver off len w hi mx hx
    split at e
    · rename_i t τ ver' o ho
      have e0 := cond_some e; clear e; obtain ⟨hn, e⟩ := e0
      simp only [Bool.and_eq_true] at hn
      obtain ⟨hv, hs, hs0⟩ := hn
      obtain rfl := nbeq hs
      have hs0 := nblt hs0
      obtain rfl := nbeq hv
      obtain ⟨c, e, k1⟩ := dbnd_ok (P := P) (fr := fr) e
      obtain ⟨b, e, k2⟩ := dbnd_ok (P := P) (fr := fr) e
      obtain ⟨a, e, k3⟩ := dbnd_ok (P := P) (fr := fr) e
      have e0 := cond_some e; clear e; obtain ⟨hn, e⟩ := e0
      simp only [decide_eq_true_eq] at hn
      rw [nadd_eq, nadd_eq] at e
      obtain ⟨g1, g2⟩ := slice'_len o (off + a) (some (off + b)) (off + b) rfl (by omega) (by omega)
      have g3 : off + b - (off + a) = b - a := by omega
      rw [g3] at g1 g2
      refine okay e (v1 := .im (.sl _ τ.size (b - a) fun i j => rowsT τ o (off + a + i) j)) (us1 := []) ?_ (VLe.im (sl_le g1 fun i j hi _ => T.le_of_eq ?_)) (ULe.refl _)
      · simp only [asem, aev_st, hx, DV.toV]
        have hd : ∀ d y, bnd σ.st d (some y) = bnd σ.st 0 (some y) := fun d y => rfl
        refine ⟨_, O_st_some ho, ?_⟩
        simp only [DOb.toOb]
        rw [hd _ mx]
        refine k1 _ _ ?_
        rw [hd _ hi]
        refine k2 _ _ (k3 _ _ ?_)
        exact ⟨⟨hs0, by first | rfl | trivial, by first | rfl | trivial, hn.1, hn.2.1, hn.2.2.1, hn.2.2.2, rfl, rfl⟩, by first | exact ⟨rfl, rfl, rfl⟩ | simp [AM.wp]⟩
      · simp only [rowsT]
        exact congrArg (fun z => cellT τ z j) (g2 i (dflt τ) hi).symm
    · cases e
  · cases e
end
end Go.Proofs.Ytlmnhbobgfpanaa
