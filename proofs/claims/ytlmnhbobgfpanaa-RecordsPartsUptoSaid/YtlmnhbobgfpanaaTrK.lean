/-
  That the program's operations do what the states say (8): calls.
-/
import Derived.Test.YtlmnhbobgfpanaaTrJ
namespace Go.Proofs.Ytlmnhbobgfpanaa
open Go.RowKit

section
variable {P : Program} {E : Env} {ρ ρ' ρc : Pl} {O O' Oc : Ow} {σ : St} {a : Act} {w w' : World} {o : Oper} {fr : Nat} {K : Act → World → Prop} {Q : Exit → Act → World → Prop} {b b' : Sees} {r : Nat → Nat}

theorem T.rel_flat {ok ok' : Sees} (hb : ∀ qc g k, qc ≠ .any → g < w.heap.size → ok qc g k → ok' qc g k) : ∀ {t : T} {x : Value}, t.flat → t.rel ok w x → t.rel ok' w x
  | .val _, _, _, h => h
  | .anyb, _, _, h => h
  | .opq, _, _, h => h
  | .anyn _, _, _, h => h
  | .agg _ _, _, hf, ⟨cs, e, hn, h⟩ => ⟨cs, e, hn, fun j hj => ⟨(h j hj).1, T.rel_flat hb (hf j hj) (h j hj).2⟩⟩
  | .sl q _ _ _, _, hf, ⟨A, c, e, hn, h⟩ => ⟨A, c, e, hn, fun i j hi hj => by
      obtain ⟨ad, u, ha, ho, hc, h1, hr⟩ := h i j hi hj
      have hlt := World.block_lt_of_cell? w _ hc
      rw [block_add] at hlt
      exact ⟨ad, u, ha, ⟨hb _ _ _ hf.1 hlt ho.1, ho.2⟩, hc, h1, T.rel_flat hb (hf.2 i j hi hj) hr⟩⟩
  | .slr q _ _ _ _, _, hf, ⟨A, c, e, hn, h⟩ => ⟨A, c, e, hn, fun i j hi hj => by
      obtain ⟨ad, u, ha, ho, hc, h1, hr⟩ := h i j hi hj
      have hlt := World.block_lt_of_cell? w _ hc
      rw [block_add] at hlt
      exact ⟨ad, u, ha, ⟨hb _ _ _ hf.1 hlt ho.1, ho.2⟩, hc, h1, T.rel_flat hb (hf.2 i j hi hj) hr⟩⟩
  | .glo _ _, _, hf, _ => hf.elim
  | .ifc _ _, _, hf, ⟨u, e, h⟩ => ⟨u, e, T.rel_flat hb hf h⟩

theorem T.rel_ok {ok ok' : Sees} {t : T} {x : Value} (hb : (∀ qc g k, g < w.heap.size → ok qc g k → ok' qc g k) ∨ ((∀ qc g k, qc ≠ .any → g < w.heap.size → ok qc g k → ok' qc g k) ∧ t.flat)) (h : t.rel ok w x) : t.rel ok' w x := by
  rcases hb with hb | hb
  · exact T.rel_mono (fun qc g k hg ho => ⟨rfl, hb qc g k hg ho⟩) h
  · exact T.rel_flat hb.1 hb.2 h

theorem Ob.ren_ver (o : Ob) (r : Nat → Nat) : (o.ren r).ver = o.ver := by cases o <;> rfl
theorem Ob.ren_live (o : Ob) (r : Nat → Nat) : (o.ren r).live = o.live := by cases o <;> rfl
theorem Ob.ren_isMap (o : Ob) (r : Nat → Nat) : (o.ren r).isMap = o.isMap := by cases o <;> rfl
theorem Ob.ren_held (o : Ob) (r : Nat → Nat) : (o.ren r).held = o.held := by cases o <;> rfl
theorem Ob.ren_lo (o : Ob) (r : Nat → Nat) : (o.ren r).lo = o.lo := by cases o <;> rfl
theorem Ob.ren_size (o : Ob) (r : Nat → Nat) : (o.ren r).size = o.size := by cases o <;> rfl
theorem Ob.ren_fits (o o' : Ob) (r : Nat → Nat) : (o.ren r).fits (o'.ren r) ↔ o.fits o' := by cases o <;> cases o' <;> simp [Ob.ren, Ob.fits]

theorem V.rel_ren (hO : ∀ id o, Oc id = some o → O' (r id) = some (o.ren r) ∧ ρ' (r id) = ρc id) :
    ∀ {v : V} {x : Value}, ((∀ qc g k, g < w.heap.size → okb b ρc Oc qc g k → okb b' ρ' O' qc g k) ∨ ((∀ qc g k, qc ≠ .any → g < w.heap.size → okb b ρc Oc qc g k → okb b' ρ' O' qc g k) ∧ v.flat)) → v.rel b ρc Oc w x → (v.ren r).rel b' ρ' O' w x
  | .dead, _, _, _ => trivial
  | .im _, _, hb, h => T.rel_ok hb h
  | .agg _ _, _, hb, ⟨cs, e, hn, h⟩ => ⟨cs, e, hn, fun j hj => ⟨(h j hj).1, V.rel_ren hO (hb.imp id fun hf => ⟨hf.1, hf.2 j hj⟩) (h j hj).2⟩⟩
  | .tup _ _, _, hb, ⟨cs, e, hn, h⟩ => ⟨cs, e, hn, fun j hj => V.rel_ren hO (hb.imp id fun hf => ⟨hf.1, hf.2 j hj⟩) (h j hj)⟩
  | .buf id ver off len, _, _, ⟨A, c, o, e, hl, ho, hv, hk⟩ => by
      obtain ⟨h1, h2⟩ := hO id o ho
      refine ⟨A, c, _, e, hl, h1, by rw [Ob.ren_ver]; exact hv, fun e => ?_⟩
      rw [Ob.ren_ver] at e
      obtain ⟨zz, el, size, n, f, rfl, hn, hp⟩ := hk e
      exact ⟨zz, el, size, n, f, rfl, hn, by rw [h2]; exact hp⟩
  | .ptr id ver i j, _, _, ⟨A, o, e, ho, hv, hk⟩ => by
      obtain ⟨h1, h2⟩ := hO id o ho
      refine ⟨A, _, e, h1, by rw [Ob.ren_ver]; exact hv, fun e hl => ?_⟩
      rw [Ob.ren_ver] at e
      rw [Ob.ren_held] at hl
      obtain ⟨g, hg, ha⟩ := hk e hl
      exact ⟨g, by rw [h2]; exact hg, by rw [Ob.ren_size]; exact ha⟩
  | .elem _ _ _ _ _ _, _, hb, ⟨ad, e, hi, hs, hk⟩ => by
      rcases hb with hb | hb
      · refine ⟨ad, e, hi, hs, fun k hk' => ?_⟩
        obtain ⟨h1, u, h2, h3, h4⟩ := hk k hk'
        have hlt := World.block_lt_of_cell? w _ h2
        rw [block_add] at hlt
        exact ⟨⟨hb _ _ _ hlt h1.1, h1.2⟩, u, h2, h3, T.rel_ok (.inl hb) h4⟩
      · exact hb.2.elim
  | .ifc _ _, _, hb, ⟨u, e, h⟩ => ⟨u, e, V.rel_ren hO hb h⟩
  | .clo _ _ _ _ _, _, hb, ⟨c, d, e, hn, hm, h1, h2⟩ => ⟨c, d, e, hn, hm, fun j hj => V.rel_ren hO (hb.imp id fun hf => ⟨hf.1, hf.2.1 j hj⟩) (h1 j hj), fun j hj => V.rel_ren hO (hb.imp id fun hf => ⟨hf.1, hf.2.2 j hj⟩) (h2 j hj)⟩
  | .mp id, _, _, h => by
      obtain ⟨g, o, e, ho, hk⟩ := h
      obtain ⟨h1, h2⟩ := hO id o ho
      exact ⟨g, _, e, h1, fun hl => by rw [h2]; exact hk (by rw [Ob.ren_isMap] at hl; exact hl)⟩
  | .vsl id len, _, _, h => by
      obtain ⟨g, c, o, e, hc, ho, hk⟩ := h
      obtain ⟨h1, h2⟩ := hO id o ho
      exact ⟨g, c, _, e, hc, h1, fun hv => by rw [h2]; exact hk (by cases o <;> exact hv)⟩

theorem sh_okb {ρ1 ρ2 : Pl} {O1 O2 : Ow} (hb : ∀ qc g k, g < w.heap.size → okb b ρ1 O1 qc g k → okb b' ρ2 O2 qc g k) {g : Nat} (hg : g < w.heap.size) (h : ¬ own ρ1 O1 g ∧ ∀ q k, q.young = true → b q g k) : ¬ own ρ2 O2 g ∧ ∀ q k, q.young = true → b' q g k := by
  have key : ∀ q k, q.young = true → okb b' ρ2 O2 q g k := fun q k hq => hb q g k hg ⟨h.2 q k hq, fun ho => h.1 (own_of_ownc ho)⟩
  refine ⟨fun ho => ?_, fun q k hq => (key q k hq).1⟩
  obtain ⟨k, hk⟩ := ownc_of_own ho
  exact (key .new k rfl).2 hk
theorem Ob.rel_ren (hO : ∀ id o, Oc id = some o → O' (r id) = some (o.ren r) ∧ ρ' (r id) = ρc id) {o : Ob} {p : Option Nat} (hb : (∀ qc g k, g < w.heap.size → okb b ρc Oc qc g k → okb b' ρ' O' qc g k) ∨ ((∀ qc g k, qc ≠ .any → g < w.heap.size → okb b ρc Oc qc g k → okb b' ρ' O' qc g k) ∧ o.flat)) (h : o.rel b ρc Oc w p) : (o.ren r).rel b' ρ' O' w p := by
  cases o with
  | gone => trivial
  | var e s f =>
    obtain ⟨g, cs, h1, h2, h3, h4⟩ := h
    exact ⟨g, cs, h1, h2, h3, fun j hj => ⟨(h4 j hj).1, V.rel_ren hO (hb.imp id fun hf => ⟨hf.1, hf.2 j hj⟩) (h4 j hj).2⟩⟩
  | arr zz e s v n f =>
    rcases h with h | ⟨g, cs, cap, h1, h2, h3, h4, h5, h6⟩
    · exact .inl h
    · refine .inr ⟨g, cs, cap, h1, h2, h3, h4, ⟨h5.1, fun hz => ?_, h5.2.2⟩, fun i j hi hj => ⟨(h6 i j hi hj).1, T.rel_ok (hb.imp id fun hf => ⟨hf.1, hf.2.2 i j hi hj⟩) (h6 i j hi hj).2⟩⟩
      rcases hb with hb | hf
      · exact sh_okb hb (Array.getElem?_eq_some_iff.1 h2).1 (h5.2.1 hz)
      · exact absurd hz hf.2.1
  | map ag sz n ky f =>
    obtain ⟨g, es, h1, h2, h3, h4⟩ := h
    exact ⟨g, es, h1, h2, h3, fun i e he => ⟨(h4 i e he).1, (h4 i e he).2.1, T.rel_ok (hb.imp id fun hf => ⟨hf.1, hf.2 i (by rw [← h3]; exact (Array.getElem?_eq_some_iff.1 he).1)⟩) (h4 i e he).2.2⟩⟩

theorem V.rel_unren {m : Nat} (hO : ∀ id o', id < m → O (r id) = some o' → ∃ o, Oc id = some o ∧ o' = o.ren r ∧ ρc id = ρ (r id)) (hb : ∀ qc g k, g < w.heap.size → okb b ρ O qc g k → okb b' ρc Oc qc g k) :
    ∀ {v : V} {x : Value}, v.lt m → (v.ren r).rel b ρ O w x → v.rel b' ρc Oc w x
  | .dead, _, _, _ => trivial
  | .im _, _, _, h => T.rel_ok (.inl hb) h
  | .agg _ _, _, hl, ⟨cs, e, hn, h⟩ => ⟨cs, e, hn, fun j hj => ⟨(h j hj).1, V.rel_unren hO hb (hl j hj) (h j hj).2⟩⟩
  | .tup _ _, _, hl, ⟨cs, e, hn, h⟩ => ⟨cs, e, hn, fun j hj => V.rel_unren hO hb (hl j hj) (h j hj)⟩
  | .buf id ver off len, _, hlt, ⟨A, c, o', e, hl, ho, hv, hk⟩ => by
      obtain ⟨o, h1, rfl, h2⟩ := hO id o' hlt ho
      rw [Ob.ren_ver] at hv hk
      refine ⟨A, c, o, e, hl, h1, hv, fun e => ?_⟩
      obtain ⟨zz, el, size, n, f, h3, hn, hp⟩ := hk e
      cases o <;> simp only [Ob.ren, reduceCtorEq] at h3
      exact ⟨zz, el, size, n, f, h3, hn, by rw [h2]; exact hp⟩
  | .ptr id ver i j, _, hlt, ⟨A, o', e, ho, hv, hk⟩ => by
      obtain ⟨o, h1, rfl, h2⟩ := hO id o' hlt ho
      rw [Ob.ren_ver] at hv hk
      refine ⟨A, o, e, h1, hv, fun e hl => ?_⟩
      obtain ⟨g, hg, ha⟩ := hk e (by rw [Ob.ren_held]; exact hl)
      rw [Ob.ren_size] at ha
      exact ⟨g, by rw [h2]; exact hg, ha⟩
  | .elem _ _ _ _ _ _, _, _, ⟨ad, e, hi, hs, hk⟩ => ⟨ad, e, hi, hs, fun k hk' => by
      obtain ⟨h1, u, h2, h3, h4⟩ := hk k hk'
      have hlt := World.block_lt_of_cell? w _ h2
      rw [block_add] at hlt
      exact ⟨⟨hb _ _ _ hlt h1.1, h1.2⟩, u, h2, h3, T.rel_ok (.inl hb) h4⟩⟩
  | .mp id, _, hlt, h => by
      obtain ⟨g, o', e, ho, hk⟩ := h
      obtain ⟨o, h1, rfl, h2⟩ := hO id o' hlt ho
      rw [Ob.ren_isMap] at hk
      exact ⟨g, o, e, h1, fun hl => by rw [h2]; exact hk hl⟩
  | .vsl id len, _, hlt, h => by
      obtain ⟨g, c, o', e, hc, ho, hk⟩ := h
      obtain ⟨o, h1, rfl, h2⟩ := hO id o' hlt ho
      exact ⟨g, c, o, e, hc, h1, fun hv => by rw [h2]; exact hk (by cases o <;> exact hv)⟩
  | .ifc _ _, _, hl, ⟨u, e, h⟩ => ⟨u, e, V.rel_unren hO hb hl h⟩
  | .clo _ _ _ _ _, _, hl, ⟨c, d, e, hn, hm, h1, h2⟩ => ⟨c, d, e, hn, hm, fun j hj => V.rel_unren hO hb (hl.1 j hj) (h1 j hj), fun j hj => V.rel_unren hO hb (hl.2 j hj) (h2 j hj)⟩

theorem Ob.rel_unren {m : Nat} (hO : ∀ id o', id < m → O (r id) = some o' → ∃ o, Oc id = some o ∧ o' = o.ren r ∧ ρc id = ρ (r id)) (hb : ∀ qc g k, g < w.heap.size → okb b ρ O qc g k → okb b' ρc Oc qc g k) {o : Ob} {p : Option Nat} (hl : o.lt m) (h : (o.ren r).rel b ρ O w p) : o.rel b' ρc Oc w p := by
  cases o with
  | gone => trivial
  | var e s f =>
    obtain ⟨g, cs, h1, h2, h3, h4⟩ := h
    exact ⟨g, cs, h1, h2, h3, fun j hj => ⟨(h4 j hj).1, V.rel_unren hO hb (hl j hj) (h4 j hj).2⟩⟩
  | arr zz e s v n f =>
    rcases h with h | ⟨g, cs, cap, h1, h2, h3, h4, h5, h6⟩
    · exact .inl h
    · exact .inr ⟨g, cs, cap, h1, h2, h3, h4, ⟨h5.1, fun hz => sh_okb hb (Array.getElem?_eq_some_iff.1 h2).1 (h5.2.1 hz), h5.2.2⟩, fun i j hi hj => ⟨(h6 i j hi hj).1, T.rel_ok (.inl hb) (h6 i j hi hj).2⟩⟩
  | map ag sz n ky f =>
    obtain ⟨g, es, h1, h2, h3, h4⟩ := h
    exact ⟨g, es, h1, h2, h3, fun i e he => ⟨(h4 i e he).1, (h4 i e he).2.1, T.rel_ok (.inl hb) (h4 i e he).2.2⟩⟩

theorem lo_append (l l' : List (Nat × Ob)) (id : Nat) : lo (l ++ l') id = (lo l id).or (lo l' id) := by
  induction l with
  | nil => rfl
  | cons p l ih =>
    obtain ⟨k, o⟩ := p
    simp only [List.cons_append, lo]
    split
    · rfl
    · exact ih
theorem lo_none {l : List (Nat × Ob)} {id : Nat} (h : ∀ p ∈ l, p.1 ≠ id) : lo l id = none := by
  induction l with
  | nil => rfl
  | cons p l ih =>
    obtain ⟨k, o⟩ := p
    simp only [lo]
    rw [if_neg (h (k, o) (by simp)), ih fun p hp => h p (by simp [hp])]
theorem lo_zip (f : Nat → Nat) (g : Ob → Ob) : ∀ (l : List Ob) (s k : Nat), (∀ i j, s ≤ i → s ≤ j → i < s + l.length → j < s + l.length → f i = f j → i = j) → s ≤ k → k < s + l.length →
    lo ((l.zipIdx s).map fun p => (f p.2, g p.1)) (f k) = (l[k - s]?).map g
  | [], s, k, _, h1, h2 => by simp at h2; omega
  | o :: l, s, k, hi, h1, h2 => by
    simp only [List.length_cons] at h2 hi
    simp only [List.zipIdx_cons, List.map_cons, lo]
    by_cases hk : k = s
    · subst hk
      rw [if_pos rfl]
      simp
    · rw [if_neg (fun e => hk (hi s k (Nat.le_refl _) h1 (by omega) h2 e).symm), lo_zip f g l (s + 1) k (fun i j a1 a2 a3 a4 e => hi i j (by omega) (by omega) (by omega) (by omega) e) (by omega) (by omega), show k - s = (k - (s + 1)) + 1 by omega]
      simp

def callPl (ρ : Pl) (ids : List Nat) : Pl := fun k => if k < ids.length then ρ (ids.getD k 0) else none

def callOk (E : Env) (ρ : Pl) (O : Ow) (vw : List Nat) (q : Qc) (g k : Nat) : Prop := E.b q g k ∧ (¬ ownc ρ O g k ∨ (q = .any ∧ ∃ id ∈ vw, ρ id = some g))

theorem call_enter (h : Rel E ρ σ a w) (f : FuncId) {evs : List V} {c : CallInfo} (hc : CallOK P σ.O fr f evs c) (vs : Array Value) (hvs : vs.size = evs.length) (hrel : ∀ (j : Nat) (e : V), evs[j]? = some e → e.rel E.b ρ σ.O w (vs.getD j undef)) :
    Calls P f vs w fun e w' => ∃ ρ' x, e = .returned x ∧ c.r.os.length = c.os.length ∧
      c.r.v.rel (Env.b ⟨w, callPl ρ c.ids, lol c.os, callOk E ρ σ.O c.vw, nobody⟩) ρ' (lol (c.r.os ++ c.r.new)) w' x ∧
      (∀ k o, lol (c.r.os ++ c.r.new) k = some o → o.rel (Env.b ⟨w, callPl ρ c.ids, lol c.os, callOk E ρ σ.O c.vw, nobody⟩) ρ' (lol (c.r.os ++ c.r.new)) w' (ρ' k)) ∧
      (∀ k o g, lol (c.r.os ++ c.r.new) k = some o → o.live = true → ρ' k = some g → (w.heap.size ≤ g ∨ own (callPl ρ c.ids) (lol c.os) g) ∧ g < w'.heap.size) ∧
      (∀ k k' o o' g, lol (c.r.os ++ c.r.new) k = some o → lol (c.r.os ++ c.r.new) k' = some o' → o.live = true → o'.live = true → ρ' k = some g → ρ' k' = some g → k = k') ∧
      Ext (callPl ρ c.ids) (lol c.os) w ρ' (lol (c.r.os ++ c.r.new)) w' ∧ w.heap.size ≤ w'.heap.size ∧ w'.os = w.os ∧ w'.tape = w.tape ∧ w'.output = w.output := by
  have hk : ∀ k o, lol c.os k = some o → k < c.ids.length := fun k o ho => by
    have := (List.getElem?_eq_some_iff.1 ho).1
    rw [hc.osl] at this
    exact this
  have hO : ∀ id o', id < c.ids.length → σ.O (rn c.ids fr id) = some o' → ∃ o, lol c.os id = some o ∧ o' = o.ren (rn c.ids fr) ∧ callPl ρ c.ids id = ρ (rn c.ids fr id) := fun id o' hid ho => by
    have h1 : id < c.os.length := by rw [hc.osl]; exact hid
    refine ⟨c.os[id], List.getElem?_eq_getElem h1, ?_, ?_⟩
    · have := (hc.os id _ (List.getElem?_eq_getElem h1)).1
      simp only [rn, if_pos hid] at ho
      rw [this] at ho
      exact (Option.some.inj ho).symm
    · simp only [callPl, rn, if_pos hid]
  have hown : ∀ g, own (callPl ρ c.ids) (lol c.os) g → ∃ id o, id ∈ c.ids ∧ σ.O id = some o ∧ o.live = true ∧ ρ id = some g := by
    rintro g ⟨k, o, h1, h2, h3⟩
    have hlt := hk k o h1
    simp only [callPl, if_pos hlt] at h3
    refine ⟨c.ids.getD k 0, o.ren (rn c.ids fr), ?_, (hc.os k o h1).1, by rw [Ob.ren_live]; exact h2, h3⟩
    rw [List.getD_eq_getElem?_getD, List.getElem?_eq_getElem hlt]
    exact List.getElem_mem _
  have hownc : ∀ g q, ownc (callPl ρ c.ids) (lol c.os) g q → ownc ρ σ.O g q := by
    rintro g q ⟨k, o, h1, h2, h3, h4⟩
    have hlt := hk k o h1
    simp only [callPl, if_pos hlt] at h3
    exact ⟨c.ids.getD k 0, o.ren (rn c.ids fr), (hc.os k o h1).1, by rw [Ob.ren_live]; exact h2, h3, by rw [Ob.ren_lo]; exact h4⟩
  have hb : ∀ qc g q, g < w.heap.size → okb E.b ρ σ.O qc g q → okb (callOk E ρ σ.O c.vw) (callPl ρ c.ids) (lol c.os) qc g q := fun qc g q _ ⟨h1, h2⟩ =>
    ⟨⟨h1, .inl h2⟩, fun ho => h2 (hownc g q ho)⟩
  refine hc.fc.2 (callOk E ρ σ.O c.vw) (callPl ρ c.ids) w vs ⟨fun q g k hk => ⟨(Env.mono h.le).1 q g k hk.1, hk.2.imp (fun z => z) fun z => ⟨rfl, z.2⟩⟩, fun q g k hq hk => ⟨(Env.mono h.le).2 q g k hq hk.1, hk.2.imp (fun z => z) fun z => by rcases hq with rfl | rfl <;> cases z.1⟩⟩ (h.gl.mono hb) (fun k o ho => ?_) (fun k o g ho hl hg => ?_) (fun k k' o o' g h1 h2 l1 l2 p1 p2 => ?_) (hvs.trans hc.len.symm) (fun j v hv => ?_)
  · obtain ⟨h1, h2⟩ := hc.os k o ho
    have hlt := hk k o ho
    have := h.ob _ _ h1
    simp only [callPl, if_pos hlt]
    exact Ob.rel_unren hO hb h2 this
  · have hlt := hk k o ho
    simp only [callPl, if_pos hlt] at hg
    exact (h.hi _ _ g (hc.os k o ho).1 (by rw [Ob.ren_live]; exact hl) hg).2
  · have hlt := hk k o h1
    have hlt' := hk k' o' h2
    simp only [callPl, if_pos hlt] at p1
    simp only [callPl, if_pos hlt'] at p2
    have := h.inj _ _ _ _ g (hc.os k o h1).1 (hc.os k' o' h2).1 (by rw [Ob.ren_live]; exact l1) (by rw [Ob.ren_live]; exact l2) p1 p2
    rw [List.getD_eq_getElem?_getD, List.getD_eq_getElem?_getD, List.getElem?_eq_getElem hlt, List.getElem?_eq_getElem hlt'] at this
    exact (List.getElem_inj hc.nd).1 this
  · have hj : j < evs.length := by
      have := (List.getElem?_eq_some_iff.1 hv).1
      rw [hc.len] at this
      exact this
    have he := List.getElem?_eq_getElem hj
    have hr := hrel j _ he
    have hsh := hc.args j _ v he hv
    have hlt := hc.lt v (List.mem_of_getElem? hv)
    generalize evs[j] = e at hsh hr
    generalize vs.getD j undef = x at hr
    clear he hv
    induction hsh generalizing x with
    | same v => exact V.rel_unren hO hb hlt hr
    | im t t' ht => exact T.rel_ok (.inl hb) (ht _ _ _ (Env.mono h.le).okb hr)
    | le u v hl => exact V.rel_unren hO hb hlt (hl _ _ _ _ _ (Env.mono h.le) hr)
    | agg n f f' _ ih =>
      obtain ⟨cs, e, hn, hf⟩ := hr
      exact ⟨cs, e, hn, fun j hj => ⟨(hf j hj).1, ih j hj (hlt j hj) _ (hf j hj).2⟩⟩
    | look id j size el f g ho hvw _ ih =>
      obtain ⟨A, ob, e1, e3, e4, e5⟩ := hr
      rw [ho] at e3; cases e3
      obtain ⟨gg, p1, rfl⟩ := e5 rfl rfl
      obtain ⟨g', cs, q1, q2, q3, q4⟩ := h.ob id _ ho
      rw [p1] at q1; cases q1
      have hE : ∀ k, E.b .any gg k := fun k => .inr ⟨rfl, (h.hi id _ gg ho rfl p1).1⟩
      refine ⟨⟨gg, 0, none⟩, by rw [e1, add_mk]; simp [Ob.size], Nat.zero_lt_one, rfl, fun k hk => ⟨⟨⟨⟨hE _, .inr ⟨rfl, id, hvw, p1⟩⟩, fun hw => ?_⟩, nofun⟩, cs.getD k undef, ?_, (q4 k hk).1, ih k hk (by trivial) _ (q4 k hk).2⟩⟩
      · obtain ⟨id2, o2, m1, m2, m3, m4⟩ := hown gg (own_of_ownc hw)
        have := h.inj id2 id o2 _ gg m2 ho m3 rfl m4 p1
        subst this
        exact (hc.vw _ hvw).1 m1
      · rw [add_mk, Nat.zero_mul, Nat.zero_add, Nat.zero_add, cell_of_row w gg _ cs el (0, 0) q2]
        exact getD_some (by rw [q3]; exact hk)
    | view id ver off len el size n f t' ho hvw ht =>
      obtain ⟨A, cp, ob, e1, e2, e3, e4, e5⟩ := hr
      rw [ho] at e3; cases e3
      obtain ⟨_, _, _, _, _, hob, hoff, hp⟩ := e5 rfl
      cases hob
      refine ht _ _ _ ⟨fun q g k hk => ⟨⟨(Env.mono h.le).1 q g k hk.1.1, hk.1.2.imp (fun z => z) fun z => ⟨rfl, z.2⟩⟩, hk.2⟩, fun q g k hq hk => ⟨⟨(Env.mono h.le).2 q g k hq hk.1.1, hk.1.2.imp (fun z => z) fun z => by rcases hq with rfl | rfl <;> cases z.1⟩, hk.2⟩⟩ ⟨A, cp, e1, e2, fun i j hi hj => ?_⟩
      rcases hp with ⟨p1, p2, p3, p4⟩ | ⟨g, cs, p1, p2, p3, p4⟩
      · omega
      · rcases h.ob id _ ho with ⟨q1, -⟩ | ⟨g', cs2, cap, q1, q2, q3, q4, q5, q6⟩
        · rw [p1] at q1; cases q1
        rw [p1] at q1; cases q1
        rw [p3] at q2; cases q2
        obtain ⟨r1, r2⟩ := q6 (off + i) j (by omega) hj
        have hlt : (off + i) * size + j < cs.size := by
          have : (off + i + 1) * size ≤ cap * size := Nat.mul_le_mul_right _ (by omega)
          rw [Nat.add_mul] at this
          omega
        obtain ⟨hb', hs⟩ := h.seen ho p1
        refine ⟨⟨g, off * size, none⟩, _, p2 (.inl (by omega)), ⟨⟨⟨hb' _ _ rfl, .inr ⟨rfl, id, hvw, p1⟩⟩, fun hw => ?_⟩, fun _ => frozen_row p3⟩, ?_, r1, T.rel_ok (.inl hb) r2⟩
        · obtain ⟨id2, o2, m1, m2, m3, m4⟩ := hown g (own_of_ownc hw)
          obtain ⟨rfl, _⟩ := hs id2 o2 m2 m3 m4
          exact (hc.vw _ hvw).1 m1
        · rw [add_mk, ← Nat.add_assoc, ← Nat.add_mul, cell_of_row w g _ cs el (0, 0) p3]
          exact getD_some hlt

def backPl (ρ ρ' : Pl) (ids : List Nat) (fr n : Nat) : Pl := fun id =>
  if id ∈ ids then ρ' (ids.idxOf id) else if fr ≤ id ∧ id < fr + n then ρ' (ids.length + (id - fr)) else ρ id

theorem ups_at {f : FuncId} {evs : List V} {c : CallInfo} (hc : CallOK P O fr f evs c) (hf : ∀ j, j < 16 → O (fr + j) = none) (hl : c.r.os.length = c.os.length) (l : List (Nat × Ob)) :
    (∀ k, k < c.ids.length + c.r.new.length → lo (c.ups O fr ++ l) (rn c.ids fr k) = (lol (c.r.os ++ c.r.new) k).map (Ob.ren (rn c.ids fr))) ∧
    (c.keep = false → ∀ id ∈ c.vw, ∃ zz e size ver n f, O id = some (.arr zz e size ver n f) ∧ lo (c.ups O fr ++ l) id = some (.arr .sh e size ver n f)) ∧
    (∀ id, id ∉ c.ids → ¬ (fr ≤ id ∧ id < fr + c.r.new.length) → (c.keep = true ∨ id ∉ c.vw) → lo (c.ups O fr ++ l) id = lo l id) := by
  have hlen : (c.r.os ++ c.r.new).length = c.ids.length + c.r.new.length := by rw [List.length_append, hl, hc.osl]
  have hidO : ∀ id ∈ c.ids, O id ≠ none := fun id hid => by
    obtain ⟨k, hk, rfl⟩ := List.getElem_of_mem hid
    have h1 : k < c.os.length := by rw [hc.osl]; exact hk
    have := (hc.os k _ (List.getElem?_eq_getElem h1)).1
    rw [List.getD_eq_getElem?_getD, List.getElem?_eq_getElem hk] at this
    intro e
    simp only [Option.getD_some] at this
    rw [e] at this; cases this
  have hrn : ∀ k, k < c.ids.length + c.r.new.length → (k < c.ids.length ∧ rn c.ids fr k ∈ c.ids ∧ ∃ h : k < c.ids.length, rn c.ids fr k = c.ids[k]) ∨ (c.ids.length ≤ k ∧ rn c.ids fr k = fr + (k - c.ids.length) ∧ O (rn c.ids fr k) = none) := fun k hk => by
    by_cases h : k < c.ids.length
    · refine .inl ⟨h, ?_, h, ?_⟩
      · simp only [rn, if_pos h]
        rw [List.getD_eq_getElem?_getD, List.getElem?_eq_getElem h]
        exact List.getElem_mem _
      · simp only [rn, if_pos h]
        rw [List.getD_eq_getElem?_getD, List.getElem?_eq_getElem h]
        rfl
    · refine .inr ⟨by omega, by simp only [rn, if_neg h], ?_⟩
      simp only [rn, if_neg h]
      exact hf _ (by have := hc.small; omega)
  have hinj : ∀ i j, i < c.ids.length + c.r.new.length → j < c.ids.length + c.r.new.length → rn c.ids fr i = rn c.ids fr j → i = j := fun i j hi hj e => by
    rcases hrn i hi with ⟨a1, a2, a3, a4⟩ | ⟨a1, a2, a3⟩ <;> rcases hrn j hj with ⟨b1, b2, b3, b4⟩ | ⟨b1, b2, b3⟩
    · rw [a4, b4] at e
      exact (List.getElem_inj hc.nd).1 e
    · rw [e] at a2
      exact absurd b3 (hidO _ a2)
    · rw [← e] at b2
      exact absurd a3 (hidO _ b2)
    · omega
  have hz : ∀ k, k < c.ids.length + c.r.new.length → lo ((c.r.os ++ c.r.new).zipIdx.map fun p => (rn c.ids fr p.2, p.1.ren (rn c.ids fr))) (rn c.ids fr k) = (lol (c.r.os ++ c.r.new) k).map (Ob.ren (rn c.ids fr)) := fun k hk => by
    rw [lo_zip (rn c.ids fr) (Ob.ren (rn c.ids fr)) _ 0 k (fun i j _ _ hi hj e => hinj i j (by omega) (by omega) e) (Nat.zero_le _) (by omega)]
    rfl
  have hzn : ∀ id, id ∉ c.ids → ¬ (fr ≤ id ∧ id < fr + c.r.new.length) → lo ((c.r.os ++ c.r.new).zipIdx.map fun p => (rn c.ids fr p.2, p.1.ren (rn c.ids fr))) id = none := fun id h1 h2 => lo_none fun p hp e => by
    obtain ⟨q, hq, rfl⟩ := List.mem_map.1 hp
    obtain ⟨k, hk, hk2⟩ := List.getElem_of_mem hq
    simp only [List.length_zipIdx, hlen] at hk
    have hq2 : q.2 = k := by rw [← hk2]; simp
    simp only [hq2] at e
    rcases hrn k hk with ⟨a1, a2, a3, a4⟩ | ⟨a1, a2, a3⟩
    · exact h1 (e ▸ a2)
    · exact h2 (by omega)
  refine ⟨fun k hk => ?_, fun hkeep id hid => ?_, fun id h1 h2 h3 => ?_⟩
  · have hsome : k < (c.r.os ++ c.r.new).length := by omega
    unfold CallInfo.ups
    rw [List.append_assoc, lo_append, hz k hk]
    simp [lol, List.getElem?_eq_getElem hsome]
  · obtain ⟨h1, ⟨zz, e, size, ver, n, f, ho⟩ | ⟨hkt, _⟩⟩ := hc.vw id hid
    case inr => rw [hkeep] at hkt; cases hkt
    refine ⟨zz, e, size, ver, n, f, ho, ?_⟩
    unfold CallInfo.ups
    rw [List.append_assoc, lo_append, hzn id h1 (fun hh => by
      have := hf (id - fr) (by have := hc.small; omega)
      rw [show fr + (id - fr) = id by omega, ho] at this
      cases this)]
    rw [hkeep, Option.none_or, lo_append]
    have : ∀ (vw : List Nat), id ∈ vw → lo (vw.map fun id => (id, shareO (O id))) id = some (.arr .sh e size ver n f) := fun vw => by
      induction vw with
      | nil => intro h; cases h
      | cons q vw ih =>
        intro h
        simp only [List.map_cons, lo]
        by_cases hq : q = id
        · subst hq
          simp [ho, shareO]
        · rw [if_neg hq]
          exact ih (by simpa [Ne.symm hq] using h)
    simp [this c.vw hid]
  · unfold CallInfo.ups
    rw [List.append_assoc, lo_append, hzn id h1 h2, Option.none_or, lo_append, lo_none, Option.none_or]
    intro p hp
    rcases h3 with h3 | h3
    · rw [h3] at hp; cases hp
    · split at hp
      · cases hp
      · obtain ⟨q, hq, rfl⟩ := List.mem_map.1 hp
        exact fun e => h3 (e ▸ hq)
end
end Go.Proofs.Ytlmnhbobgfpanaa
