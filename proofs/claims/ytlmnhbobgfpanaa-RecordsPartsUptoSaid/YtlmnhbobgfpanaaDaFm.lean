/-
  Operations on maps, typed, do what the states say. General; nothing of this program.
-/
import Derived.Test.YtlmnhbobgfpanaaDaF
namespace Go.Proofs.Ytlmnhbobgfpanaa
open Go.RowKit

section
variable {R : Type} {P : Program} {σ : DSt} {fr : Nat} {r : R} {K : List Nat → DV → List (Nat × DOb) → Option R}
theorem kkOk_cases {kc : KK} {κ : Tp} (h : kkOk kc κ = true) : (∃ k, kc = .int k ∧ κ = .int k) ∨ (kc = .str ∧ κ = .str) ∨ (kc = .bool ∧ κ = .bool) := by
  cases kc <;> cases κ <;> simp only [kkOk, reduceCtorEq] at h
  · exact .inl ⟨_, rfl, by rw [ikEq_eq h]⟩
  · exact .inr (.inl ⟨rfl, rfl⟩)
  · exact .inr (.inr ⟨rfl, rfl⟩)
theorem key_cell {kc : KK} {κ : Tp} (h : kkOk kc κ = true) (x : den κ) : cellT κ x 0 = .val (keyV κ x) := by
  rcases kkOk_cases h with ⟨k, rfl, rfl⟩ | ⟨rfl, rfl⟩ | ⟨rfl, rfl⟩ <;> rfl
theorem key_is {kc : KK} {κ : Tp} (h : kkOk kc κ = true) (x : den κ) : IsKk kc (keyV κ x) := by
  rcases kkOk_cases h with ⟨k, rfl, rfl⟩ | ⟨rfl, rfl⟩ | ⟨rfl, rfl⟩ <;> simp [IsKk, KK.desc, MapKept.IsKey, keyV]
theorem key_eq {kc : KK} {κ : Tp} (h : kkOk kc κ = true) (x y : den κ) : keyEq (keyV κ x) (keyV κ y) = eqK κ x y := by
  rcases kkOk_cases h with ⟨k, rfl, rfl⟩ | ⟨rfl, rfl⟩ | ⟨rfl, rfl⟩ <;> rfl
theorem mfind_is {kc : KK} {κ : Tp} (h : kkOk kc κ = true) {α : Type} (k : den κ) (key : Nat → Value) : ∀ (l : List (den κ × α)) (s : Nat), (∀ i p, l[i]? = some p → key (s + i) = keyV κ p.1) →
    mfind (keyV κ k) key l.length s = if hasM κ l k = true then some (s + idxM κ l k) else none
  | [], s, _ => rfl
  | p :: l, s, hk => by
    have h0 := hk 0 p rfl
    rw [Nat.add_zero] at h0
    simp only [List.length_cons, mfind, h0, key_eq h, hasM, idxM]
    rcases Bool.eq_false_or_eq_true (eqK κ k p.1) with he | he
    · simp only [he, Bool.true_or, cond_true, if_true, Nat.add_zero]
    · simp only [he, cond_false, Bool.false_or]
      rw [mfind_is h k key l (s + 1) (fun i q hq => by rw [show s + 1 + i = s + (i + 1) by omega]; exact hk (i + 1) q (by simpa using hq))]
      split
      · congr 1; omega
      · rfl
theorem idxM_none {κ : Tp} {α : Type} {k : den κ} : ∀ {l : List (den κ × α)}, hasM κ l k = false → idxM κ l k = l.length ∧ lookM κ l k = none
  | [], _ => ⟨rfl, rfl⟩
  | p :: l, h => by
    simp only [hasM, Bool.or_eq_false_iff] at h
    obtain ⟨h1, h2⟩ := idxM_none h.2
    simp only [idxM, lookM, h.1, cond_false, h1, h2, List.length_cons, and_self]
theorem lookM_some {κ : Tp} {α : Type} {k : den κ} (d : den κ × α) : ∀ {l : List (den κ × α)}, hasM κ l k = true → lookM κ l k = some (l.getD (idxM κ l k) d).2
  | p :: l, h => by
    simp only [hasM, Bool.or_eq_true] at h
    simp only [idxM, lookM]
    rcases Bool.eq_false_or_eq_true (eqK κ k p.1) with he | he
    · simp only [he, cond_true]; rfl
    · rw [he] at h
      simp only [he, cond_false]
      rw [lookM_some d (h.resolve_left (by simp))]
      rfl
theorem setM_len {κ : Tp} {α : Type} {k : den κ} {v : α} : ∀ {l : List (den κ × α)}, (setM κ l k v).length = if hasM κ l k = true then l.length else l.length + 1
  | [] => rfl
  | p :: l => by
    simp only [setM, hasM]
    rcases Bool.eq_false_or_eq_true (eqK κ k p.1) with he | he
    · simp only [he, cond_true, Bool.true_or, if_true, List.length_cons]
    · simp only [he, cond_false, List.length_cons, Bool.false_or, setM_len (l := l)]
      split <;> rfl
theorem setM_at {κ : Tp} {α : Type} {k : den κ} {v : α} (d : den κ × α) : ∀ {l : List (den κ × α)} (i : Nat), (setM κ l k v).getD i d =
    if hasM κ l k = true then (if i = idxM κ l k then ((l.getD i d).1, v) else l.getD i d) else if i < l.length then l.getD i d else if i = l.length then (k, v) else d
  | [], 0 => by simp [setM, hasM]
  | [], i + 1 => by simp [setM, hasM]
  | p :: l, i => by
    simp only [setM, hasM, idxM]
    rcases Bool.eq_false_or_eq_true (eqK κ k p.1) with he | he
    · simp only [he, cond_true, Bool.true_or, if_true]
      cases i with
      | zero => rfl
      | succ i => simp only [List.getD_cons_succ, Nat.succ_ne_zero, if_false]
    · simp only [he, cond_false, Bool.false_or]
      cases i with
      | zero => simp
      | succ i =>
        have := setM_at (v := v) d (l := l) (k := k) i
        simp only [List.getD_cons_succ, this, List.length_cons, Nat.add_lt_add_iff_right, Nat.add_right_cancel_iff]
theorem putM_len {β α : Type} : ∀ (l : List (β × α)) (n : Nat) (v : α), (putM l n v).length = l.length
  | [], _, _ => rfl
  | _ :: _, 0, _ => rfl
  | p :: l, n + 1, v => by simp only [putM, List.length_cons, putM_len l n v]
theorem putM_at {β α : Type} (d : β × α) : ∀ (l : List (β × α)) (n i : Nat) (v : α), n < l.length → (putM l n v).getD i d = if i = n then ((l.getD i d).1, v) else l.getD i d
  | [], n, i, v, h => absurd h (Nat.not_lt_zero n)
  | p :: l, 0, 0, v, _ => by simp [putM]
  | p :: l, 0, i + 1, v, _ => by simp [putM]
  | p :: l, n + 1, 0, v, _ => by simp [putM]
  | p :: l, n + 1, i + 1, v, h => by
    have := putM_at d l n i v (by simpa using h)
    simp only [putM, List.getD_cons_succ, this, Nat.add_right_cancel_iff]
theorem mapT_le {agg : Bool} {sz : Nat} {f f' : Nat → T} (hs : agg = true ∨ sz = 1) (h : ∀ j, j < sz → T.le (f j) (f' j)) : T.le (mapT agg sz f) (mapT agg sz f') := by
  cases agg with
  | true => exact fun ok w x hmo ⟨cs, e, hn, hf⟩ => ⟨cs, e, hn, fun j hj => ⟨(hf j hj).1, h j hj ok w _ hmo (hf j hj).2⟩⟩
  | false =>
    rcases hs with hs | hs
    · cases hs
    · exact h 0 (by omega)
theorem at_le {τ : Tp} (x : den τ) {agg : Bool} (hs : agg = true ∨ τ.size = 1) {f : Nat → T} (hf : ∀ k, k < τ.size → T.le (f k) (cellT τ x k)) : VLe (atKey agg τ.size f) (atD agg τ.size τ x).toV := by
  cases agg with
  | true => exact VLe.agg fun k hk => by rw [rowC_toV _ _ _ hk]; exact VLe.im (hf k hk)
  | false =>
    rcases hs with hs | hs
    · cases hs
    · show VLe (.im (f 0)) (rowC τ x 0).toV
      rw [rowC_toV _ _ _ (by omega)]
      exact VLe.im (hf 0 (by omega))
theorem look_le {cok ok : Bool} {v : V} {d : DV} (h : VLe v d.toV) : VLe (lookV cok v ok) (lookD cok d ok).toV := by
  cases cok with
  | false => exact h
  | true =>
    show VLe (.tup 2 _) (.tup 2 _)
    intro b ρ O w x hmo ⟨cs, e, hn, hf⟩
    refine ⟨cs, e, hn, fun j hj => ?_⟩
    match j, hj with
    | 0, _ => exact h _ _ _ _ _ hmo (hf 0 (by omega))
    | 1, _ => exact hf 1 (by omega)
theorem beq_b {a b : Bool} (h : (a == b) = true) : a = b := by simpa using h
theorem okay_mkmap {t : TypeId} {agg : Bool} {sz : Nat} {x : Option Operand} {h : Hint} (e : dsem σ fr (.mkmap t agg sz x) h K = some r) : Okay P σ fr (.mkmap t agg sz x) K r := by
  simp only [dsem] at e
  split at e
  · rename_i κ τ
    have e0 := cond_some e; clear e; obtain ⟨hn, e⟩ := e0
    simp only [Bool.and_eq_true] at hn
    obtain ⟨h1, h2, h3⟩ := hn
    obtain rfl := nbeq h1
    refine okay e (v1 := .mp fr) (us1 := [(fr, .map agg τ.size 0 (fun _ => undef) fun _ _ => .val undef)]) ?_ (VLe.refl _) ⟨rfl, ⟨rfl, fun i hi => absurd hi (Nat.not_lt_zero i), fun i hi => absurd hi (Nat.not_lt_zero i)⟩, trivial⟩
    simp only [asem]
    refine ⟨fun y hy => ?_, by simp [AM.wp]⟩
    subst hy
    simp only [dintO] at h3
    split at h3
    · rename_i k n hx
      exact ⟨k, n, by rw [aev_st, hx]; rfl⟩
    · cases h3
  · cases e
theorem find_is {kc : KK} {κ τ : Tp} (h2 : kkOk kc κ = true) (k : den κ) (l : List (den κ × den τ)) :
    mfind (keyV κ k) (fun i => keyV κ (l.getD i (dflt κ, dflt τ)).1) l.length 0 = if hasM κ l k = true then some (idxM κ l k) else none := by
  have := mfind_is h2 k (fun i => keyV κ (l.getD i (dflt κ, dflt τ)).1) l 0 (fun i p hp => by
    rw [Nat.zero_add, List.getD_eq_getElem?_getD, hp]; rfl)
  rw [this, Nat.zero_add]
theorem okay_mlook {kc : KK} {cok agg : Bool} {sz : Nat} {z : List Value} {x i : Operand} {h : Hint} (e : dsem σ fr (.mlook kc cok agg sz z x i) h K = some r) : Okay P σ fr (.mlook kc cok agg sz z x i) K r := by
  simp only [dsem] at e
  split at e
  · rename_i id κ' k hx hi
    split at e
    · rename_i agg' κ τ l ho
      have e0 := cond_some e; clear e; obtain ⟨hn, e⟩ := e0
      simp only [Bool.and_eq_true, Bool.or_eq_true] at hn
      obtain ⟨h1, h2, h3, h4⟩ := hn
      obtain rfl := beq_b h1
      obtain rfl := nbeq h3
      have hs : agg' = true ∨ τ.size = 1 := h4.imp (fun h => h) nbeq
      cases hc : castTp κ' κ k with
      | none => simp only [hc] at e; cases e
      | some k1 =>
        simp only [hc] at e
        obtain ⟨he, hw⟩ := castTp_some hc
        subst he
        obtain rfl : k = k1 := hw
        obtain ⟨zv, us, ts, e, g1, g2, g4, g3⟩ := drow_ok (P := P) (fr := fr) e
        have e0 := cond_some e; clear e; obtain ⟨hu, e⟩ := e0
        obtain rfl : us = [] := by simpa using hu
        have ht : ∀ j, j < τ.size → T.le (zeroK z j) (cellT τ zv j) := fun j hj => by
          have := g4 rfl j hj
          rw [dval_toV] at this
          have h2 := g2 j hj
          rw [this] at h2
          exact h2
        have hfind := find_is (τ := τ) h2 k l
        have hks : ∀ j, j < l.length → IsKk kc (keyV κ' (l.getD j (dflt κ', dflt τ)).1) := fun j _ => key_is h2 _
        cases hh : hasM κ' l k with
        | true =>
          rw [hh, if_pos rfl] at hfind
          rw [hh, lookM_some (dflt κ', dflt τ) hh] at e
          refine okay e (v1 := lookV cok (atKey agg' τ.size fun j => cellT τ (l.getD (idxM κ' l k) (dflt κ', dflt τ)).2 j) true) (us1 := []) ?_ (look_le (at_le _ hs fun k _ => T.le_refl _)) (ULe.refl _)
          simp only [asem, aev_st, hx, hi, DV.toV, key_cell h2]
          refine ⟨key_is h2 _, _, O_st_some ho, ⟨rfl, rfl, hks⟩, ?_⟩
          rw [hfind]
          simp [AM.wp]
        | false =>
          rw [hh, if_neg (by simp)] at hfind
          rw [hh, (idxM_none hh).2] at e
          refine okay e (v1 := lookV cok (atKey agg' τ.size (zeroK z)) false) (us1 := []) ?_ (look_le (at_le _ hs ht)) (ULe.refl _)
          simp only [asem, aev_st, hx, hi, DV.toV, key_cell h2]
          refine ⟨key_is h2 _, _, O_st_some ho, ⟨rfl, rfl, hks⟩, ?_⟩
          rw [hfind]
          simp [AM.wp]
    · cases e
  · cases e
theorem okay_mlen {x : Operand} {h : Hint} (e : dsem σ fr (.mlen x) h K = some r) : Okay P σ fr (.mlen x) K r := by
  simp only [dsem] at e
  split at e
  · rename_i id hx
    split at e
    · rename_i agg κ τ l ho
      refine okay e (v1 := .im (.val (.int .i64 (l.length : Int)))) (us1 := []) ?_ (VLe.refl _) (ULe.refl _)
      simp only [asem, aev_st, hx, DV.toV]
      exact ⟨_, O_st_some ho, rfl, rfl, rfl⟩
    · cases e
  · cases e
theorem one_sub {x : DV} (h : x.isOne = true) : isAggV x.toV = false := by
  cases x <;> first | rfl | cases h
theorem isAgg_toV (v : DV) : isAggV v.toV = isAggD v := by
  cases v with
  | alt c x y =>
    simp only [DV.toV]
    cases hx : x.isOne with
    | false => rfl
    | true =>
      cases hy : y.isOne with
      | false => rfl
      | true => cases c <;> first | exact one_sub hx | exact one_sub hy
  | im τ x =>
    show (V.sub (.im (cellT τ x 0))).isSome = false
    cases h : cellT τ x 0 with
    | agg n f => exact absurd h (cellT_agg τ x 0 n f)
    | _ => rfl
  | _ => rfl
theorem cells_row {τ : Tp} {x : Operand} : cellsOf τ.size (aev σ.st x) = (List.range τ.size).map fun j => ((daev σ x).cell j).toV := by
  unfold cellsOf
  rw [aev_st]
  exact List.map_congr_left fun j _ => cell_toV _ j
theorem dups_all {us : List (Nat × DOb)} {id : Nat} (h : us.all (fun u => !(Nat.beq u.1 id)) = true) : (dups us).all (fun u => u.1 != id) = true := by
  simp only [List.all_map, List.all_eq_true, Function.comp] at h ⊢
  intro u hu
  have := h u hu
  simp only [nbeq_iff] at this
  simpa using this
theorem okay_mset {kc : KK} {agg : Bool} {sz : Nat} {m i x : Operand} {h : Hint} (e : dsem σ fr (.mset kc agg sz m i x) h K = some r) : Okay P σ fr (.mset kc agg sz m i x) K r := by
  simp only [dsem] at e
  split at e
  · rename_i id κ' k hx hi
    split at e
    · rename_i agg' κ τ l ho
      have e0 := cond_some e; clear e; obtain ⟨hn, e⟩ := e0
      simp only [Bool.and_eq_true, Bool.or_eq_true] at hn
      obtain ⟨h1, h2, h3, h4, h5, h6⟩ := hn
      obtain rfl := beq_b h1
      obtain rfl := nbeq h3
      have hs : agg' = true ∨ τ.size = 1 := h4.imp (fun h => h) nbeq
      cases hc : castTp κ' κ k with
      | none => simp only [hc] at e; cases e
      | some k1 =>
        simp only [hc] at e
        obtain ⟨he, hw⟩ := castTp_some hc
        subst he
        obtain rfl : k = k1 := hw
        obtain ⟨row, us, ts, e, g1, g2, g4, g3⟩ := drow_ok (P := P) (fr := fr) e
        have e0 := cond_some e; clear e; obtain ⟨hu, e⟩ := e0
        have hfind := find_is (τ := τ) h2 k l
        have hks : ∀ j, j < l.length → IsKk kc (keyV κ' (l.getD j (dflt κ', dflt τ)).1) := fun j _ => key_is h2 _
        refine okay e (v1 := .im (.val undef)) (us1 := (id, match mfind (keyV κ' k) (fun i => keyV κ' (l.getD i (dflt κ', dflt τ)).1) l.length 0 with
            | some j => .map agg' τ.size l.length (fun i => keyV κ' (l.getD i (dflt κ', dflt τ)).1) fun i' j' => if i' = j then ts.getD j' (.val undef) else cellT τ (l.getD i' (dflt κ', dflt τ)).2 j'
            | none => .map agg' τ.size (l.length + 1) (fun i' => if i' < l.length then keyV κ' (l.getD i' (dflt κ', dflt τ)).1 else keyV κ' k) fun i' j' => if i' < l.length then cellT τ (l.getD i' (dflt κ', dflt τ)).2 j' else ts.getD j' (.val undef)) :: dups us) ?_ (VLe.refl _) ⟨rfl, ?_, ULe.refl _⟩
        · simp only [asem, aev_st, hx, hi, DV.toV, key_cell h2]
          refine ⟨⟨key_is h2 _, by rw [ncell_toV]; exact nbeq h5, by rw [isAgg_toV]; exact beq_b h6⟩, _, O_st_some ho, ⟨rfl, rfl, hks⟩, ?_⟩
          rw [← aev_st, cells_row]
          refine g3 _ _ ⟨dups_all hu, by rw [List.append_nil], rfl, rfl⟩
        · rw [hfind]
          cases hh : hasM κ' l k with
          | true =>
            simp only [if_true]
            refine ⟨by simp only [setM_len, hh, if_true], fun i' hi' => ?_, fun i' hi' => mapT_le hs fun j' hj' => ?_⟩
            · simp only [setM_at, hh, if_true]; split <;> rfl
            · simp only [setM_at, hh, if_true]
              split
              · exact g2 j' hj'
              · exact T.le_refl _
          | false =>
            simp only [Bool.false_eq_true, if_false]
            refine ⟨by simp only [setM_len, hh, Bool.false_eq_true, if_false], fun i' hi' => ?_, fun i' hi' => mapT_le hs fun j' hj' => ?_⟩
            · simp only [setM_at, hh, Bool.false_eq_true, if_false]
              split
              · rfl
              · rw [if_pos (by omega)]
            · simp only [setM_at, hh, Bool.false_eq_true, if_false]
              split
              · exact T.le_refl _
              · rw [if_pos (by omega)]
                exact g2 j' hj'
    · cases e
  · cases e
theorem okay_mest {agg : Bool} {sz : Nat} {m s x : Operand} {h : Hint} (e : dsem σ fr (.mest agg sz m s x) h K = some r) : Okay P σ fr (.mest agg sz m s x) K r := by
  simp only [dsem] at e
  split at e
  · rename_i id k' q hx hi
    split at e
    · rename_i agg' κ τ l ho
      have e0 := cond_some e; clear e; obtain ⟨hn, e⟩ := e0
      simp only [Bool.and_eq_true, Bool.or_eq_true] at hn
      obtain ⟨h1, h3, h4, h5, h6⟩ := hn
      obtain rfl := beq_b h1
      obtain rfl := nbeq h3
      have hs : agg' = true ∨ τ.size = 1 := h4.imp (fun h => h) nbeq
      have e0 := cond_some e; clear e; obtain ⟨hq, e⟩ := e0
      simp only [decide_eq_true_eq] at hq
      obtain ⟨row, us, ts, e, g1, g2, g4, g3⟩ := drow_ok (P := P) (fr := fr) e
      have e0 := cond_some e; clear e; obtain ⟨hu, e⟩ := e0
      refine okay e (v1 := .im (.val undef)) (us1 := (id, .map agg' τ.size l.length (fun i => keyV κ (l.getD i (dflt κ, dflt τ)).1) fun i' j' => if i' = Int.toNat q then ts.getD j' (.val undef) else cellT τ (l.getD i' (dflt κ, dflt τ)).2 j') :: dups us) ?_ (VLe.refl _) ⟨rfl, ?_, ULe.refl _⟩
      · simp only [asem, aev_st, hx, hi, DV.toV, cellT]
        refine ⟨⟨by rw [ncell_toV]; exact nbeq h5, by rw [isAgg_toV]; exact beq_b h6⟩, _, O_st_some ho, ⟨rfl, rfl, hq⟩, ?_⟩
        rw [← aev_st, cells_row]
        refine g3 _ _ ⟨dups_all hu, by rw [List.append_nil], rfl, rfl⟩
      · have hq' : Int.toNat q < l.length := by
          have q0 : (0 : Int) ≤ q := hq.1
          have q1 : (q : Int) < (l.length : Int) := hq.2
          exact (Int.toNat_lt q0).2 q1
        refine ⟨putM_len _ _ _, fun i' hi' => ?_, fun i' hi' => mapT_le hs fun j' hj' => ?_⟩
        · simp only [putM_at _ l _ _ _ hq']; split <;> rfl
        · simp only [putM_at _ l _ _ _ hq']
          split
          · exact g2 j' hj'
          · exact T.le_refl _
    · cases e
  · cases e
theorem okay_ment {kc : KK} {agg : Bool} {sz : Nat} {z : List Value} {m i : Operand} {h : Hint} (e : dsem σ fr (.ment kc agg sz z m i) h K = some r) : Okay P σ fr (.ment kc agg sz z m i) K r := by
  simp only [dsem] at e
  split at e
  · rename_i id κ' k hx hi
    split at e
    · rename_i agg' κ τ l ho
      have e0 := cond_some e; clear e; obtain ⟨hn, e⟩ := e0
      simp only [Bool.and_eq_true, Bool.or_eq_true] at hn
      obtain ⟨h1, h2, h3, h4⟩ := hn
      obtain rfl := beq_b h1
      obtain rfl := nbeq h3
      have hs : agg' = true ∨ τ.size = 1 := h4.imp (fun h => h) nbeq
      cases hc : castTp κ' κ k with
      | none => simp only [hc] at e; cases e
      | some k1 =>
        simp only [hc] at e
        obtain ⟨he, hw⟩ := castTp_some hc
        subst he
        obtain rfl : k = k1 := hw
        obtain ⟨zv, us, ts, e, g1, g2, g4, g3⟩ := drow_ok (P := P) (fr := fr) e
        have e0 := cond_some e; clear e; obtain ⟨hu, e⟩ := e0
        obtain rfl : us = [] := by simpa using hu
        have ht : ∀ j, j < τ.size → T.le (zeroK z j) (cellT τ zv j) := fun j hj => by
          have := g4 rfl j hj
          rw [dval_toV] at this
          have h2 := g2 j hj
          rw [this] at h2
          exact h2
        have hfind := find_is (τ := τ) h2 k l
        have hks : ∀ j, j < l.length → IsKk kc (keyV κ' (l.getD j (dflt κ', dflt τ)).1) := fun j _ => key_is h2 _
        have two : ∀ {v : V} {d : DV} {n n' : Int}, VLe v d.toV → n = n' → VLe (.tup 2 fun q => cond (Nat.beq q 0) v (.im (.val (.int .i64 n)))) (DV.toV (.tup 2 fun j => cond (Nat.beq j 0) d (.im (.int .i64) n'))) := by
          intro v d n n' hv hn
          subst hn
          intro b ρ O w x hmo hh
          obtain ⟨cs, e, hn, hf⟩ := hh
          refine ⟨cs, e, hn, fun j hj => ?_⟩
          match j, hj with
          | 0, _ => exact hv _ _ _ _ _ hmo (hf 0 (by omega))
          | 1, _ => exact hf 1 (by omega)
        cases hh : hasM κ' l k with
        | true =>
          rw [hh, if_pos rfl] at hfind
          rw [lookM_some (dflt κ', dflt τ) hh] at e
          refine okay e (v1 := .tup 2 fun q => cond (Nat.beq q 0) (atKey agg' τ.size fun j => cellT τ (l.getD (idxM κ' l k) (dflt κ', dflt τ)).2 j) (.im (.val (.int .i64 (idxM κ' l k : Int)))))
            (us1 := [(id, .map agg' τ.size l.length (fun i => keyV κ' (l.getD i (dflt κ', dflt τ)).1) fun i' j' => cellT τ (l.getD i' (dflt κ', dflt τ)).2 j')]) ?_ (two (at_le _ hs fun k _ => T.le_refl _) rfl) ⟨rfl, ?_, trivial⟩
          · simp only [asem, aev_st, hx, hi, DV.toV, key_cell h2]
            refine ⟨key_is h2 _, _, O_st_some ho, ⟨rfl, rfl, hks⟩, ?_⟩
            rw [hfind]
            exact ⟨rfl, rfl, rfl⟩
          · rw [entM, hh]
            exact OLe.refl _
        | false =>
          rw [hh, if_neg (by simp)] at hfind
          obtain ⟨n1, n2⟩ := idxM_none hh
          rw [n2] at e
          refine okay e (v1 := .tup 2 fun q => cond (Nat.beq q 0) (atKey agg' τ.size (zeroK z)) (.im (.val (.int .i64 (l.length : Int)))))
            (us1 := [(id, .map agg' τ.size (l.length + 1) (fun i' => if i' < l.length then keyV κ' (l.getD i' (dflt κ', dflt τ)).1 else keyV κ' k) fun i' j' => if i' < l.length then cellT τ (l.getD i' (dflt κ', dflt τ)).2 j' else zeroK z j')]) ?_ (two (at_le _ hs ht) (by rw [n1])) ⟨rfl, ?_, trivial⟩
          · simp only [asem, aev_st, hx, hi, DV.toV, key_cell h2]
            refine ⟨key_is h2 _, _, O_st_some ho, ⟨rfl, rfl, hks⟩, ?_⟩
            rw [hfind]
            exact ⟨rfl, rfl, rfl⟩
          · have hat : ∀ i', (l ++ [(k, zv)]).getD i' (dflt κ', dflt τ) = if i' < l.length then l.getD i' (dflt κ', dflt τ) else if i' = l.length then (k, zv) else (dflt κ', dflt τ) := by
              intro i'
              simp only [List.getD_eq_getElem?_getD]
              by_cases hi' : i' < l.length
              · rw [if_pos hi', List.getElem?_append_left hi']
              · rw [if_neg hi', List.getElem?_append_right (by omega)]
                by_cases hj : i' = l.length
                · rw [if_pos hj, hj, Nat.sub_self]; rfl
                · rw [if_neg hj, List.getElem?_eq_none (by simp; omega)]; rfl
            rw [entM, hh]
            refine ⟨by simp, fun i' hi' => ?_, fun i' hi' => mapT_le hs fun j' hj' => ?_⟩
            · simp only [cond_false, hat]
              split
              · rfl
              · rw [if_pos (by omega)]
            · simp only [cond_false, hat]
              split
              · exact T.le_refl _
              · rw [if_pos (by omega)]
                exact ht j' hj'
    · cases e
  · cases e
end
end Go.Proofs.Ytlmnhbobgfpanaa
