/-
  What is old stays while what is new is written over. General; nothing of this program.
-/
import Derived.Test.YtdblllnnccaccaaDaI
namespace Go.Proofs.Ytdblllnnccaccaa
open Go.RowKit

structure KE (m : Nat) (z : Bool) (E : Env) : Prop where
  no : ∀ id, m ≤ id → E.O id = none
  zn : z = true → (∀ id, E.O id = none) ∧ (∀ g k, ¬ E.ok .new g k) ∧ ∀ g k, E.ok .old g k → g < E.W.heap.size ∧ ¬ E.X g
def Zn (E E' : Env) : Prop := E.W.heap.size ≤ E'.W.heap.size ∧ (∀ g, g < E.W.heap.size → ¬ E.mine g → E'.W.heap[g]? = E.W.heap[g]? ∧ ¬ E'.mine g) ∧ E'.W.os = E.W.os ∧ E'.W.tape = E.W.tape ∧ E'.W.output = E.W.output
def StepZ (z : Bool) (E E' : Env) : Prop := E' = E ∨ (z = true ∧ Zn E E')
theorem StepZ.refl (z : Bool) (E : Env) : StepZ z E E := .inl rfl
theorem StepZ.trans {z : Bool} {E E' E'' : Env} (h : StepZ z E E') (k : StepZ z E' E'') : StepZ z E E'' := by
  rcases h with rfl | ⟨hz, h1, h2, h3, h4, h5⟩
  · exact k
  · rcases k with rfl | ⟨_, k1, k2, k3, k4, k5⟩
    · exact .inr ⟨hz, h1, h2, h3, h4, h5⟩
    · exact .inr ⟨hz, Nat.le_trans h1 k1, fun g hg hm => ⟨(k2 g (by omega) (h2 g hg hm).2).1.trans (h2 g hg hm).1, (k2 g (by omega) (h2 g hg hm).2).2⟩, k3.trans h3, k4.trans h4, k5.trans h5⟩
section
variable {E : Env} {ρ ρ' : Pl} {O O' : Ow} {a a' : Act} {w w' : World} {b b' : Sees}
theorem Tp.aged_size (e : Tp) : e.aged.size = e.size := by
  induction e with
  | pair a b ih1 ih2 => simp only [Tp.aged, Tp.size, ih1, ih2]
  | _ => rfl
theorem aged_cell {ok ok' : Sees} (h : ∀ q g k, g < w.heap.size → ok q g k → ok' .old g k) : ∀ (τ : Tp) (x : den τ) (j : Nat) {u : Value}, (cellT τ x j).rel ok w u → (cellT τ.aged (cast τ.aged_den x) j).rel ok' w u
  | .bool, _, j, _, hu => by cases j <;> exact hu
  | .str, _, j, _, hu => by cases j <;> exact hu
  | .int _, _, j, _, hu => by cases j <;> exact hu
  | .hv _, _, j, _, hu => by cases j <;> exact hu
  | .unit, _, _, _, hu => hu
  | .sl q e, l, 0, u, hu => by
    obtain ⟨A, c, e1, hn, hf⟩ := hu
    have hden : List (den e) = List (den e.aged) := congrArg List e.aged_den
    have hl : (cast hden l).length = l.length := cast_len (Tp.aged_den e) _ _
    have hs : e.aged.size = e.size := Tp.aged_size e
    show (cellT (.sl .old e.aged) (cast hden l : List (den e.aged)) 0).rel ok' w u
    refine ⟨A, c, by rw [hl]; exact e1, by rw [hl]; exact hn, fun i j hi hj => ?_⟩
    rw [hl] at hi
    rw [hs] at hj ⊢
    obtain ⟨ad, v, h1, h2, h3, h4, h5⟩ := hf i j hi hj
    have hlt := World.block_lt_of_cell? w _ h3
    rw [block_add] at hlt
    refine ⟨ad, v, h1, ⟨h q _ _ hlt h2.1, nofun⟩, h3, h4, ?_⟩
    have := aged_cell h e (l.getD i (dflt e)) j h5
    have hi' : i < (cast hden l).length := by rw [hl]; exact hi
    have e2 : (cast hden l).getD i (dflt e.aged) = cast (Tp.aged_den e) (l.getD i (dflt e)) := by
      rw [← cast_list (Tp.aged_den e) hden l i (dflt e)]
      simp only [List.getD_eq_getElem?_getD, List.getElem?_eq_getElem hi']
      rfl
    show (cellT e.aged ((cast hden l).getD i (dflt e.aged)) j).rel ok' w v
    rw [e2]
    exact this
  | .sl q e, _, j + 1, _, hu => hu
  | .pair c d, x, j, u, hu => by
    have hs : ∀ e : Tp, e.aged.size = e.size := Tp.aged_size
    have hp : cast (Tp.aged_den (.pair c d)) x = (cast (Tp.aged_den c) x.1, cast (Tp.aged_den d) x.2) := cast_pair (Tp.aged_den c) (Tp.aged_den d) _ _
    rw [hp]
    simp only [Tp.aged, cellT, hs] at hu ⊢
    split at hu
    · rename_i hj; rw [if_pos hj]; exact aged_cell h c x.1 _ hu
    · rename_i hj; rw [if_neg hj]; exact aged_cell h d x.2 _ hu
theorem dob_ver (F : Nat → Option DOb) (o : DOb) : (o.aged F).toOb.ver = o.toOb.ver ∧ o.safe.toOb.ver = o.toOb.ver := by cases o <;> exact ⟨rfl, rfl⟩
theorem dob_size (F : Nat → Option DOb) (o : DOb) : ((o.aged F).toOb.held = true → o.toOb.held = true ∧ (o.aged F).toOb.size = o.toOb.size ∧ (o.aged F).toOb.live = true ∧ o.toOb.live = true) ∧ (o.safe.toOb.held = true → o.toOb.held = true ∧ o.safe.toOb.size = o.toOb.size ∧ o.safe.toOb.live = true ∧ o.toOb.live = true) := by
  cases o with
  | var e n f => exact ⟨fun _ => ⟨rfl, rfl, rfl, rfl⟩, fun _ => ⟨rfl, rfl, rfl, rfl⟩⟩
  | _ => exact ⟨(fun h => nomatch h), (fun h => nomatch h)⟩
theorem aged_rel {f : Nat → Option DOb} (hO : ∀ id, O id = (f id).map DOb.toOb) (hO' : ∀ id, O' id = (f id).map fun o => (o.aged f).toOb) (h : ∀ q g k, g < w.heap.size → okb b ρ O q g k → okb b' ρ O' .old g k)
    (hob : ∀ id o, O id = some o → o.rel b ρ O w (ρ id)) (hrow : ∀ id g k zz e τ ver l, f id = some (.arr zz e τ ver l) → ρ id = some g → g < w.heap.size → okb b' ρ O' .old g k) : ∀ (v : DV) {u : Value}, v.toV.rel b ρ O w u → (v.aged f).toV.rel b' ρ O' w u := by
  have rows : ∀ {τ : Tp} {l : List (den τ)} {A : Option Addr} {n c : Nat} {v : Value}, v = .slice A n c → (n ≤ l.length ∧ l.length ≤ c) → (∀ i j, i < l.length → j < τ.size → ∃ ad z, A = some ad ∧ okb b' ρ O' .old ad.block (ad.off + (i * τ.size + j)) ∧ w.cell? (ad.add (i * τ.size + j)) = some z ∧ z.oneCell' = true ∧ (cellT τ (l.getD i (dflt τ)) j).rel (okb b ρ O) w z) →
      (DV.sd .old τ.aged (cast (congrArg List τ.aged_den) l) n).toV.rel b' ρ O' w v := by
    intro τ l A n c v e hn hc
    have hl : (cast (congrArg List τ.aged_den) l).length = l.length := cast_len (Tp.aged_den τ) _ _
    have hs : τ.aged.size = τ.size := Tp.aged_size τ
    refine ⟨A, c, e, by rw [hl]; exact hn, fun i j hi hj => ?_⟩
    rw [hl] at hi
    rw [hs] at hj ⊢
    obtain ⟨ad, z, g1, g2, g3, g4, g5⟩ := hc i j hi hj
    refine ⟨ad, z, g1, ⟨g2, nofun⟩, g3, g4, ?_⟩
    have := aged_cell h τ (l.getD i (dflt τ)) j g5
    have hi' : i < (cast (congrArg List τ.aged_den) l).length := by rw [hl]; exact hi
    have e2 : (cast (congrArg List τ.aged_den) l).getD i (dflt τ.aged) = cast (Tp.aged_den τ) (l.getD i (dflt τ)) := by
      rw [← cast_list (Tp.aged_den τ) (congrArg List τ.aged_den) l i (dflt τ)]
      simp only [List.getD_eq_getElem?_getD, List.getElem?_eq_getElem hi']
      rfl
    show (cellT τ.aged ((cast (congrArg List τ.aged_den) l).getD i (dflt τ.aged)) j).rel (okb b' ρ O') w z
    rw [e2]
    exact this
  intro v
  induction v with
  | im τ x => intro u hu; exact aged_cell h τ x 0 hu
  | raw v => intro u hu; exact hu
  | agg n f ih => intro u ⟨cs, e, h1, h2⟩; exact ⟨cs, e, h1, fun j hj => ⟨(h2 j hj).1, ih j (h2 j hj).2⟩⟩
  | tup n f ih => intro u ⟨cs, e, h1, h2⟩; exact ⟨cs, e, h1, fun j hj => ih j (h2 j hj)⟩
  | ifc t v ih => intro u ⟨y, e, hy⟩; exact ⟨y, e, ih hy⟩
  | glo g t => intro u ⟨h1, h2, h3⟩; exact ⟨h _ g 0 (World.block_lt_of_cell? w _ h2) h1, h2, h3⟩
  | unk => intro u hu; exact hu
  | ptr id ver i j =>
    intro u ⟨a, o, e1, e2, e3, e4⟩
    rw [hO] at e2
    obtain ⟨d, hd, rfl⟩ := Option.map_eq_some_iff.1 e2
    refine ⟨a, (d.aged f).toOb, e1, by rw [hO', hd]; rfl, by rw [(dob_ver f d).1]; exact e3, fun h1 h2 => ?_⟩
    obtain ⟨s1, s2, _⟩ := (dob_size f d).1 h2
    obtain ⟨g, g1, g2⟩ := e4 (by rw [← (dob_ver f d).1]; exact h1) s1
    exact ⟨g, g1, by rw [s2]; exact g2⟩
  | sd q τ l n =>
    rintro u ⟨A, c, e1, e2, e3⟩
    refine rows e1 e2 fun i j hi hj => ?_
    obtain ⟨ad, z, g1, g2, g3, g4, g5⟩ := e3 i j hi hj
    have hlt := World.block_lt_of_cell? w _ g3
    rw [block_add] at hlt
    exact ⟨ad, z, g1, h q _ _ hlt g2.1, g3, g4, g5⟩
  | buf id ver off len w0 =>
    rintro u ⟨A, c, o, e1, e2, e3, e4, e5⟩
    simp only [DV.aged]
    have e3' := e3
    rw [hO] at e3'
    obtain ⟨d, hd, rfl⟩ := Option.map_eq_some_iff.1 e3'
    rw [hd]
    cases d with
    | arr zz e τ ver' l =>
      simp only
      cases hb : (Nat.beq ver' ver && Nat.blt 0 τ.size) with
      | false => exact trivial
      | true =>
        simp only [Bool.and_eq_true] at hb
        obtain rfl := nbeq hb.1
        have hz := nblt hb.2
        obtain ⟨zz', el, size, n, g, h1, h2, h3⟩ := e5 rfl
        cases h1
        rw [cond_true]
        have hdl : (List.drop off l).length = l.length - off := by simp
        rcases h3 with ⟨p1, rfl, rfl, rfl⟩ | ⟨g, cs, p1, p2, p3, p4⟩
        · rcases hob id _ e3 with ⟨-, q2⟩ | ⟨g', cs, cap, q1, -⟩
          · have hl0 : l.length = 0 := q2
            exact rows e1 ⟨by rw [hdl]; omega, by rw [hdl]; omega⟩ fun i j hi => by rw [hdl] at hi; omega
          · rw [p1] at q1; cases q1
        · rcases hob id _ e3 with ⟨q1, -⟩ | ⟨g', cs2, cap, q1, q2, q3, q4, q5, q6⟩
          · rw [p1] at q1; cases q1
          · rw [p1] at q1; cases q1
            rw [p3] at q2; cases q2
            have hcap : off + c = cap := by
              rw [q3] at p4
              exact Nat.eq_of_mul_eq_mul_right hz p4
            have q4' : l.length ≤ cap := q4
            refine rows e1 ⟨by rw [hdl]; omega, by rw [hdl]; omega⟩ fun i j hi hj => ?_
            rw [hdl] at hi
            have hA : A = some ⟨g, off * τ.size, none⟩ := p2 (by omega)
            obtain ⟨r1, r2⟩ := q6 (off + i) j (by show off + i < l.length; omega) hj
            have hidx : (off + i) * τ.size + j < cs.size := by
              rw [q3]
              have : (off + i + 1) * τ.size ≤ cap * τ.size := Nat.mul_le_mul_right _ (by omega)
              rw [Nat.add_mul, Nat.one_mul] at this
              omega
            have hglt : g < w.heap.size := (Array.getElem?_eq_some_iff.1 p3).1
            have hcell : w.cell? ((⟨g, off * τ.size, none⟩ : Addr).add (i * τ.size + j)) = some (cs.getD ((off + i) * τ.size + j) undef) := by
              rw [add_mk]
              have : off * τ.size + (i * τ.size + j) = (off + i) * τ.size + j := by rw [Nat.add_mul]; omega
              rw [this]
              simp only [World.cell?, p3]
              simp [Array.getD_eq_getD_getElem?, hidx]
            refine ⟨_, _, hA, hrow id g _ _ _ _ _ _ hd p1 hglt, hcell, r1, ?_⟩
            have e9 : (List.drop off l).getD i (dflt τ) = l.getD (off + i) (dflt τ) := by simp [List.getD_eq_getElem?_getD]
            rw [e9]
            exact r2
    | _ => exact trivial
  | _ => intro u _; exact trivial
theorem old_cell {ok ok' : Sees} (h : ∀ g k, g < w.heap.size → ok .old g k → look w' g k = look w g k ∧ ok' .old g k) : ∀ (τ : Tp) (x : den τ) (j : Nat) {u : Value}, τ.isOld = true → (cellT τ x j).rel ok w u → (cellT τ x j).rel ok' w' u
  | .bool, _, j, _, _, hu => by cases j <;> exact hu
  | .str, _, j, _, _, hu => by cases j <;> exact hu
  | .int _, _, j, _, _, hu => by cases j <;> exact hu
  | .hv _, _, j, _, _, hu => by cases j <;> exact hu
  | .unit, _, _, _, _, hu => hu
  | .sl .any e, l, j, u, ho, hu => by cases ho
  | .sl .new e, l, j, u, ho, hu => by cases ho
  | .sl .old e, l, 0, u, ho, hu => by
    obtain ⟨A, c, e1, hn, hf⟩ := hu
    refine ⟨A, c, e1, hn, fun i j hi hj => ?_⟩
    obtain ⟨ad, v, h1, h2, h3, h4, h5⟩ := hf i j hi hj
    have hlt := World.block_lt_of_cell? w _ h3
    rw [block_add] at hlt
    obtain ⟨k1, k2⟩ := h _ _ hlt h2.1
    exact ⟨ad, v, h1, ⟨k2, nofun⟩, cell_mono h3 (look_cell k1), h4, old_cell h e _ j ho h5⟩
  | .sl .old e, _, j + 1, _, _, hu => hu
  | .pair c d, x, j, u, ho, hu => by
    have ho' : (c.isOld && d.isOld) = true := ho
    simp only [Bool.and_eq_true] at ho'
    simp only [cellT] at hu ⊢
    split at hu
    · rename_i hj; rw [if_pos hj]; exact old_cell h c x.1 _ ho'.1 hu
    · rename_i hj; rw [if_neg hj]; exact old_cell h d x.2 _ ho'.2 hu
theorem safe_rel {f : Nat → Option DOb} (hO : ∀ id, O id = (f id).map DOb.toOb) (hO' : ∀ id, O' id = (f id).map fun o => o.safe.toOb) (h : ∀ g k, g < w.heap.size → okb b ρ O .old g k → look w' g k = look w g k ∧ okb b' ρ O' .old g k) : ∀ (v : DV) {u : Value}, v.toV.rel b ρ O w u → v.safe.toV.rel b' ρ O' w' u := by
  intro v
  induction v with
  | im τ x =>
    intro u hu
    simp only [DV.safe]
    cases hτ : τ.isOld with
    | false => exact trivial
    | true => exact old_cell h τ x 0 hτ hu
  | raw v => intro u hu; exact hu
  | agg n f ih => intro u ⟨cs, e, h1, h2⟩; exact ⟨cs, e, h1, fun j hj => ⟨(h2 j hj).1, ih j (h2 j hj).2⟩⟩
  | tup n f ih => intro u ⟨cs, e, h1, h2⟩; exact ⟨cs, e, h1, fun j hj => ih j (h2 j hj)⟩
  | ifc t v ih => intro u ⟨y, e, hy⟩; exact ⟨y, e, ih hy⟩
  | glo g t =>
    intro u ⟨h1, h2, h3⟩
    obtain ⟨k1, k2⟩ := h g 0 (World.block_lt_of_cell? w _ h2) h1
    exact ⟨k2, (look_cell k1).trans h2, h3⟩
  | unk => intro u hu; exact hu
  | ptr id ver i j =>
    intro u ⟨a, o, e1, e2, e3, e4⟩
    rw [hO] at e2
    obtain ⟨d, hd, rfl⟩ := Option.map_eq_some_iff.1 e2
    refine ⟨a, d.safe.toOb, e1, by rw [hO', hd]; rfl, by rw [(dob_ver f d).2]; exact e3, fun h1 h2 => ?_⟩
    obtain ⟨s1, s2, _⟩ := (dob_size f d).2 h2
    obtain ⟨g, g1, g2⟩ := e4 (by rw [← (dob_ver f d).2]; exact h1) s1
    exact ⟨g, g1, by rw [s2]; exact g2⟩
  | sd q τ l n =>
    intro u hu
    cases q with
    | any => exact trivial
    | new => exact trivial
    | old =>
      simp only [DV.safe]
      cases hτ : τ.isOld with
      | false => exact trivial
      | true =>
        obtain ⟨A, c, e1, e2, e3⟩ := hu
        refine ⟨A, c, e1, e2, fun i j hi hj => ?_⟩
        obtain ⟨ad, z, g1, g2, g3, g4, g5⟩ := e3 i j hi hj
        have hlt := World.block_lt_of_cell? w _ g3
        rw [block_add] at hlt
        obtain ⟨k1, k2⟩ := h _ _ hlt g2.1
        exact ⟨ad, z, g1, ⟨k2, nofun⟩, cell_mono g3 (look_cell k1), g4, old_cell h τ _ j hτ g5⟩
  | _ => intro u _; exact trivial
theorem dlo_map (f : DOb → DOb) (l : List (Nat × DOb)) (t : Nat) : dlo (l.map fun p => (p.1, f p.2)) t = (dlo l t).map f := by
  induction l with
  | nil => rfl
  | cons p l ih =>
    obtain ⟨k, v⟩ := p
    simp only [List.map_cons, dlo, nbeq_iff]
    by_cases h : k = t
    · simp [h]
    · simp [h, ih]
theorem dlk_aged (F : Nat → Option DOb) (l : List (Nat × DV)) (t : Nat) : dlk (l.map fun p => (p.1, p.2.aged F)) t = (dlk l t).aged F := by
  induction l with
  | nil => rfl
  | cons p l ih =>
    obtain ⟨k, v⟩ := p
    simp only [List.map_cons, dlk, nbeq_iff]
    by_cases h : k = t
    · simp [h]
    · simp [h, ih]
theorem dlk_safe (l : List (Nat × DV)) (t : Nat) : dlk (l.map fun p => (p.1, p.2.safe)) t = (dlk l t).safe := by
  induction l with
  | nil => rfl
  | cons p l ih =>
    obtain ⟨k, v⟩ := p
    simp only [List.map_cons, dlk, nbeq_iff]
    by_cases h : k = t
    · simp [h]
    · simp [h, ih]
theorem dlk_deads (ts : List Nat) (l : List (Nat × DV)) (t : Nat) : dlk (ts.map (fun t => (t, .dead)) ++ l) t = if t ∈ ts then .dead else dlk l t := by
  induction ts with
  | nil => simp
  | cons k ts ih =>
    simp only [List.map_cons, List.cons_append, dlk, nbeq_iff, ih, List.mem_cons]
    by_cases h : k = t
    · simp [h]
    · simp [h, Ne.symm h]
theorem aged_ok {σ : DSt} {m : Nat} (hE : KE m true E) (h : Rel E ρ σ.st a w) : ∃ E' ρ', StepZ true E E' ∧ KE m true E' ∧ Rel E' ρ' σ.aged.st a w := by
  obtain ⟨z1, z2, z3⟩ := hE.zn rfl
  have hmine : ∀ g, E.mine g → E.X g := fun g hg => hg.elim (fun ⟨id, o, ho, _⟩ => by rw [z1] at ho; cases ho) id
  have hO : ∀ id, σ.st.O id = (σ.O id).map DOb.toOb := fun id => lo_map σ.ob id
  have hO' : ∀ id, σ.aged.st.O id = (σ.O id).map fun o => (o.aged σ.O).toOb := fun id => by
    have : σ.aged.st.O id = (dlo (σ.ob.map fun p => (p.1, p.2.aged σ.O)) id).map DOb.toOb := lo_map _ id
    rw [this, dlo_map, Option.map_map]
    rfl
  have hback : ∀ id o', σ.aged.st.O id = some o' → o'.live = true → ∃ o, σ.st.O id = some o ∧ o.live = true := fun id o' ho hl => by
    rw [hO'] at ho
    obtain ⟨d, hd, rfl⟩ := Option.map_eq_some_iff.1 ho
    refine ⟨d.toOb, by rw [hO, hd]; rfl, ?_⟩
    cases d <;> first | rfl | cases hl
  have hown : ∀ g, own ρ σ.aged.st.O g → own ρ σ.st.O g := fun g ⟨id, o', h1, h2, h3⟩ => by
    obtain ⟨o, k1, k2⟩ := hback id o' h1 h2
    exact ⟨id, o, k1, k2, h3⟩
  have hownc : ∀ g k, own ρ σ.aged.st.O g → ownc ρ σ.st.O g k := fun g k ⟨id, o', h1, h2, h3⟩ => by
    rw [hO'] at h1
    obtain ⟨d, hd, rfl⟩ := Option.map_eq_some_iff.1 h1
    refine ⟨id, d.toOb, by rw [hO, hd]; rfl, ?_, h3, ?_⟩
    · cases d <;> first | rfl | cases h2
    · cases d <;> first | exact Nat.zero_le _ | cases h2
  refine ⟨⟨w, fun _ => none, fun _ => none, fun q g k => q ≠ .new ∧ g < w.heap.size ∧ E.b .any g k ∧ ¬ own ρ σ.aged.st.O g, fun g => own ρ σ.aged.st.O g⟩, ρ, .inr ⟨rfl, h.bs, fun g hg hm => ?_, h.os, h.tape, h.output⟩, ⟨fun _ _ => rfl, fun _ => ⟨fun _ => rfl, fun g k hk => hk.1 rfl, fun g k hk => ⟨hk.2.1, hk.2.2.2⟩⟩⟩, ?_⟩
  · obtain ⟨k1, k2⟩ := h.ext.keep g hg hm
    exact ⟨k1, fun hh => hh.elim (fun ⟨id, o, ho, _⟩ => by cases ho) fun hh => k2 (hown g hh)⟩
  have hup : ∀ q g k, g < w.heap.size → okb E.b ρ σ.st.O q g k → okb (Env.b ⟨w, fun _ => none, fun _ => none, fun q g k => q ≠ .new ∧ g < w.heap.size ∧ E.b .any g k ∧ ¬ own ρ σ.aged.st.O g, fun g => own ρ σ.aged.st.O g⟩) ρ σ.aged.st.O .old g k := fun q g k hg hk =>
    have hno : ¬ own ρ σ.aged.st.O g := fun ho => hk.2 (hownc g k ho)
    ⟨.inl ⟨nofun, hg, Env.mono h.le q g k hk.1, hno⟩, fun ho => hno (own_of_ownc ho)⟩
  have hrow : ∀ id g k zz e τ ver l, σ.O id = some (.arr zz e τ ver l) → ρ id = some g → g < w.heap.size → okb (Env.b ⟨w, fun _ => none, fun _ => none, fun q g k => q ≠ .new ∧ g < w.heap.size ∧ E.b .any g k ∧ ¬ own ρ σ.aged.st.O g, fun g => own ρ σ.aged.st.O g⟩) ρ σ.aged.st.O .old g k := fun id g k zz e τ ver l hid hρ hg => by
    have ho : σ.st.O id = some (DOb.arr zz e τ ver l).toOb := by rw [hO, hid]; rfl
    have key : E.b .any g k ∧ ¬ own ρ σ.aged.st.O g := by
      have live : (DOb.arr zz e τ ver l).toOb.live = true → E.b .any g k ∧ ¬ own ρ σ.aged.st.O g := fun hl => by
        refine ⟨.inr ⟨nofun, (h.hi id _ g ho hl hρ).1⟩, fun ⟨id', o', k1, k2, k3⟩ => ?_⟩
        obtain ⟨o1, j1, j2⟩ := hback id' o' k1 k2
        obtain rfl := h.inj id' id o1 _ g j1 ho j2 hl k3 hρ
        rw [hO', hid] at k1
        cases k1
        cases k2
      cases zz with
      | own => exact live rfl
      | app => exact live rfl
      | sh =>
        rcases h.ob id _ ho with ⟨q1, -⟩ | ⟨g', cs, cap, q1, -, -, -, q5, -⟩
        · rw [hρ] at q1; cases q1
        · rw [hρ] at q1; cases q1
          obtain ⟨r1, r2⟩ := q5.2 rfl
          exact ⟨r2 _ _ nofun, fun hw => r1 (hown g hw)⟩
    exact ⟨.inl ⟨nofun, hg, key.1, key.2⟩, fun hw => key.2 (own_of_ownc hw)⟩
  refine ⟨fun t => ?_, h.N, fun id o ho => ?_, fun id o g ho hl hg => ?_, fun id id' o o' g h1 h2 l1 l2 p1 p2 => ?_, fun id hid => ?_, ?_, Nat.le_refl _, rfl, rfl, rfl, h.df, ?_, fun q g k hk => ⟨nofun, hk.2⟩⟩
  · have ht := h.tm t
    have e1 : σ.st.get t = (σ.get t).toV := lk_map σ.tm t
    have e2 : σ.aged.st.get t = ((σ.get t).aged σ.O).toV := by
      have : σ.aged.st.get t = (dlk (σ.tm.map fun p => (p.1, p.2.aged σ.O)) t).toV := lk_map _ t
      rw [this, dlk_aged]
      rfl
    rw [e1] at ht
    rw [e2]
    exact aged_rel hO hO' hup h.ob hrow _ ht
  · rw [hO'] at ho
    obtain ⟨d, hd, rfl⟩ := Option.map_eq_some_iff.1 ho
    have hr := h.ob id d.toOb (by rw [hO, hd]; rfl)
    cases d with
    | var e n f =>
      obtain ⟨g, cs, h1, h2, h3, h4⟩ := hr
      exact ⟨g, cs, h1, h2, h3, fun j hj => ⟨(h4 j hj).1, aged_rel hO hO' hup h.ob hrow _ (h4 j hj).2⟩⟩
    | _ => exact trivial
  · obtain ⟨o1, k1, k2⟩ := hback id o ho hl
    exact ⟨.inr (.inr ⟨id, o, ho, hl, hg⟩), (h.hi id o1 g k1 k2 hg).2⟩
  · obtain ⟨q1, k1, k2⟩ := hback id o h1 l1
    obtain ⟨q2, k3, k4⟩ := hback id' o' h2 l2
    exact h.inj id id' q1 q2 g k1 k3 k2 k4 p1 p2
  · have hn : σ.st.O id = none := h.nx id hid
    rw [hO] at hn
    rw [hO']
    cases hq : σ.O id with
    | none => rfl
    | some o => rw [hq] at hn; cases hn
  · exact ⟨fun g hg hm => ⟨rfl, fun ho => hm (.inr ho)⟩, fun g k hg hm => ⟨rfl, fun ho => hm (.inr (own_of_ownc ho))⟩, fun id o ho => by cases ho⟩
  · refine ⟨fun p hp k v hv => ?_, fun p hp => ?_⟩
    · obtain ⟨g1, g2⟩ := h.gl.1 p hp k v hv
      exact ⟨hup _ _ _ (World.block_lt_of_cell? w _ g2) g1, g2⟩
    · obtain ⟨ad, g1, g2⟩ := h.gl.2 p hp
      exact ⟨ad, hup _ _ _ (World.block_lt_of_cell? w _ g2) g1, g2⟩
theorem safe_ok {σ : DSt} {m : Nat} {ts : List Nat} (hE : KE m true E) (h : Rel E ρ σ.st a w) (hN : a'.tmps.size = a.tmps.size) (hd : a'.defers = a.defers) (ht : ∀ t, t ∉ ts → a'.tmps.getD t undef = a.tmps.getD t undef) (hs : Scrib (fun g k => okb E.b ρ σ.st.O .new g k) w w') :
    ∃ E' ρ', StepZ true E E' ∧ KE m true E' ∧ Rel E' ρ' (σ.safe ts).st a' w' := by
  obtain ⟨z1, z2, z3⟩ := hE.zn rfl
  have hmine : ∀ g, E.mine g → E.X g := fun g hg => hg.elim (fun ⟨id, o, ho, _⟩ => by rw [z1] at ho; cases ho) id
  have znew : ∀ g k, okb E.b ρ σ.st.O .new g k → E.W.heap.size ≤ g ∨ E.X g := fun g k hk => by
    rcases hk.1 with h1 | ⟨_, h1 | h1⟩
    · exact absurd h1 (z2 g k)
    · exact .inl h1
    · exact .inr (hmine g h1)
  have zold : ∀ g k, okb E.b ρ σ.st.O .old g k → g < E.W.heap.size ∧ ¬ E.X g := fun g k hk => by
    rcases hk.1 with h1 | ⟨h1, _⟩
    · exact z3 g k h1
    · exact absurd rfl h1
  have hO : ∀ id, σ.st.O id = (σ.O id).map DOb.toOb := fun id => lo_map σ.ob id
  have hO' : ∀ id, (σ.safe ts).st.O id = (σ.O id).map fun o => o.safe.toOb := fun id => by
    have : (σ.safe ts).st.O id = (dlo (σ.ob.map fun p => (p.1, p.2.safe)) id).map DOb.toOb := lo_map _ id
    rw [this, dlo_map, Option.map_map]
    rfl
  have hback : ∀ id o', (σ.safe ts).st.O id = some o' → o'.live = true → ∃ o, σ.st.O id = some o ∧ o.live = true := fun id o' ho hl => by
    rw [hO'] at ho
    obtain ⟨d, hd, rfl⟩ := Option.map_eq_some_iff.1 ho
    refine ⟨d.toOb, by rw [hO, hd]; rfl, ?_⟩
    cases d <;> first | rfl | cases hl
  have hown : ∀ g, own ρ (σ.safe ts).st.O g → own ρ σ.st.O g := fun g ⟨id, o', h1, h2, h3⟩ => by
    obtain ⟨o, k1, k2⟩ := hback id o' h1 h2
    exact ⟨id, o, k1, k2, h3⟩
  have hownc : ∀ g k, own ρ (σ.safe ts).st.O g → ownc ρ σ.st.O g k := fun g k ⟨id, o', h1, h2, h3⟩ => by
    rw [hO'] at h1
    obtain ⟨d, hd, rfl⟩ := Option.map_eq_some_iff.1 h1
    refine ⟨id, d.toOb, by rw [hO, hd]; rfl, ?_, h3, ?_⟩
    · cases d <;> first | rfl | cases h2
    · cases d <;> first | exact Nat.zero_le _ | cases h2
  refine ⟨⟨w', fun _ => none, fun _ => none, fun q g k => q ≠ .new ∧ g < w'.heap.size ∧ okb E.b ρ σ.st.O .old g k, fun g => own ρ (σ.safe ts).st.O g⟩, ρ, .inr ⟨rfl, Nat.le_trans h.bs hs.size, fun g hg hm => ?_, hs.os.trans h.os, hs.tape.trans h.tape, hs.output.trans h.output⟩, ⟨fun _ _ => rfl, fun _ => ⟨fun _ => rfl, fun g k hk => hk.1 rfl, fun g k hk => ⟨hk.2.1, fun ho => hk.2.2.2 (hownc g k ho)⟩⟩⟩, ?_⟩
  · have hg' : g < w.heap.size := Nat.lt_of_lt_of_le hg h.bs
    obtain ⟨k1, k2⟩ := h.ext.keep g hg hm
    refine ⟨(hs.block g hg' fun k hk => ?_).trans k1, fun hh => hh.elim (fun ⟨id, o, ho, _⟩ => by cases ho) fun hh => k2 (hown g hh)⟩
    rcases znew g k hk with h1 | h1
    · omega
    · exact hm (.inr h1)
  have hup : ∀ g k, g < w.heap.size → okb E.b ρ σ.st.O .old g k → look w' g k = look w g k ∧ okb (Env.b ⟨w', fun _ => none, fun _ => none, fun q g k => q ≠ .new ∧ g < w'.heap.size ∧ okb E.b ρ σ.st.O .old g k, fun g => own ρ (σ.safe ts).st.O g⟩) ρ (σ.safe ts).st.O .old g k := fun g k hg hk =>
    ⟨look_of_block (hs.block g hg fun k' hk' => by
      have := zold g k hk
      rcases znew g k' hk' with h1 | h1
      · omega
      · exact this.2 h1), .inl ⟨nofun, Nat.lt_of_lt_of_le hg hs.size, hk⟩, fun ho => hk.2 (hownc g k (own_of_ownc ho))⟩
  refine ⟨fun t => ?_, hN.trans h.N, fun id o ho => ?_, fun id o g ho hl hg => ?_, fun id id' o o' g h1 h2 l1 l2 p1 p2 => ?_, fun id hid => ?_, ?_, Nat.le_refl _, rfl, rfl, rfl, hd.trans h.df, ?_, fun q g k hk => ⟨nofun, hk.2⟩⟩
  · have ht' := h.tm t
    have e1 : σ.st.get t = (σ.get t).toV := lk_map σ.tm t
    have e2 : (σ.safe ts).st.get t = (if t ∈ ts then DV.dead else (σ.get t).safe).toV := by
      have : (σ.safe ts).st.get t = (dlk (ts.map (fun t => (t, .dead)) ++ σ.tm.map fun p => (p.1, p.2.safe)) t).toV := lk_map _ t
      rw [this, dlk_deads, dlk_safe]
      rfl
    rw [e1] at ht'
    rw [e2]
    split
    · trivial
    · rename_i hm
      rw [ht t hm]
      exact safe_rel hO hO' hup _ ht'
  · rw [hO'] at ho
    obtain ⟨d, hd, rfl⟩ := Option.map_eq_some_iff.1 ho
    have hr := h.ob id d.toOb (by rw [hO, hd]; rfl)
    cases d with
    | var e n f =>
      obtain ⟨g, cs, h1, h2, h3, h4⟩ := hr
      refine ⟨g, cs, h1, ?_, h3, fun j hj => ⟨(h4 j hj).1, safe_rel hO hO' hup _ (h4 j hj).2⟩⟩
      rw [hs.block g (Array.getElem?_eq_some_iff.1 h2).1 fun k hk => hk.2 ⟨id, (DOb.var e n f).toOb, by rw [hO, hd]; rfl, rfl, h1, Nat.zero_le _⟩]
      exact h2
    | _ => exact trivial
  · obtain ⟨o1, k1, k2⟩ := hback id o ho hl
    exact ⟨.inr (.inr ⟨id, o, ho, hl, hg⟩), Nat.lt_of_lt_of_le (h.hi id o1 g k1 k2 hg).2 hs.size⟩
  · obtain ⟨q1, k1, k2⟩ := hback id o h1 l1
    obtain ⟨q2, k3, k4⟩ := hback id' o' h2 l2
    exact h.inj id id' q1 q2 g k1 k3 k2 k4 p1 p2
  · have hn : σ.st.O id = none := h.nx id hid
    rw [hO] at hn
    rw [hO']
    cases hq : σ.O id with
    | none => rfl
    | some o => rw [hq] at hn; cases hn
  · exact ⟨fun g hg hm => ⟨rfl, fun ho => hm (.inr ho)⟩, fun g k hg hm => ⟨rfl, fun ho => hm (.inr (own_of_ownc ho))⟩, fun id o ho => by cases ho⟩
  · refine ⟨fun p hp k v hv => ?_, fun p hp => ?_⟩
    · obtain ⟨g1, g2⟩ := h.gl.1 p hp k v hv
      obtain ⟨g3, g4⟩ := hup _ _ (World.block_lt_of_cell? w _ g2) g1
      exact ⟨g4, (look_cell g3).trans g2⟩
    · obtain ⟨ad, g1, g2⟩ := h.gl.2 p hp
      obtain ⟨g3, g4⟩ := hup _ _ (World.block_lt_of_cell? w _ g2) g1
      exact ⟨ad, g4, (look_cell g3).trans g2⟩
end

def DC.calm : DC → Bool
  | .zone .. => false
  | .age .. => false
  | .scr .. => false
  | .seq x y => x.calm && y.calm
  | .join _ x y => x.calm && y.calm
  | .cond _ x y => x.calm && y.calm
  | .block _ x => x.calm
  | .loop _ x => x.calm
  | _ => true
theorem fit1_ok {R : Type} {r : R} {τ : Tp} {v : DV} {k : den τ → Option R} (h : fit1 τ v k = some r) : ∃ x, k x = some r ∧ ∀ (b : Sees) (ρ : Pl) (O : Ow) (w : World) (u : Value), Mono b → v.toV.rel b ρ O w u → (cellT τ x 0).rel (okb b ρ O) w u := by
  unfold fit1 at h
  split at h
  · rename_i τ' x
    split at h
    · rename_i y hy
      unfold castLe at hy
      split at hy
      · rename_i hle
        cases hy
        exact ⟨_, h, fun b ρ O w u hm hu => Tp.leb_cell hle x 0 _ _ _ hm.okb hu⟩
      · cases hy
    · cases h
  · rename_i v
    have e0 := cond_some h; clear h; obtain ⟨hv, h⟩ := e0
    cases τ with
    | sl q e => exact ⟨[], h, fun b ρ O w u hm hu => by rw [isNil_eq hv] at hu; exact le_nil _ _ _ hm.okb hu⟩
    | _ => cases h
  · cases h
theorem fitD_ok {R : Type} {r : R} : ∀ {τ : Tp} {f : Nat → DV} {k : den τ → Option R}, fitD τ f k = some r → ∃ x : den τ, k x = some r ∧ ∀ (b : Sees) (ρ : Pl) (O : Ow) (w : World) (j : Nat) (u : Value), Mono b → j < τ.size → (f j).toV.rel b ρ O w u → (cellT τ x j).rel (okb b ρ O) w u := by
  intro τ
  have one : ∀ {τ : Tp} {f : Nat → DV} {k : den τ → Option R}, τ.size = 1 → fit1 τ (f 0) k = some r → ∃ x : den τ, k x = some r ∧ ∀ (b : Sees) (ρ : Pl) (O : Ow) (w : World) (j : Nat) (u : Value), Mono b → j < τ.size → (f j).toV.rel b ρ O w u → (cellT τ x j).rel (okb b ρ O) w u := by
    intro τ f k h1 h
    obtain ⟨x, e1, e2⟩ := fit1_ok h
    refine ⟨x, e1, fun b ρ O w j u hm hj hu => ?_⟩
    obtain rfl : j = 0 := by omega
    exact e2 b ρ O w u hm hu
  induction τ with
  | unit => intro f k h; exact ⟨(), h, fun b ρ O w j u _ hj => absurd hj (Nat.not_lt_zero _)⟩
  | pair c d ih1 ih2 =>
    intro f k h
    obtain ⟨x, h, hx⟩ := ih1 (k := fun x => fitD d (fun j => f (j + c.size)) fun y => k (x, y)) h
    obtain ⟨y, h, hy⟩ := ih2 h
    refine ⟨(x, y), h, fun b ρ O w j u hm hj hu => ?_⟩
    simp only [cellT]
    split
    · rename_i hjc; exact hx b ρ O w j u hm hjc hu
    · rename_i hjc
      have hj' : j < c.size + d.size := hj
      exact hy b ρ O w (j - c.size) u hm (by omega) (by rw [Nat.sub_add_cancel (by omega)]; exact hu)
  | bool => intro f k h; exact one rfl h
  | str => intro f k h; exact one rfl h
  | int q => intro f k h; exact one rfl h
  | hv κ => intro f k h; exact one rfl h
  | sl q e _ => intro f k h; exact one rfl h
theorem fitA_ok {R : Type} {r : R} {ag : Bool} {τ : Tp} {v : DV} {k : den τ → Option R} (h : fitA ag τ v k = some r) : ∃ x : den τ, k x = some r ∧ ∀ (b : Sees) (ρ : Pl) (O : Ow) (w : World) (u : Value), Mono b → v.toV.rel b ρ O w u → SlotHas ag τ x (okb b ρ O) w u := by
  have flat : ∀ v : DV, cond (!ag && Nat.beq τ.size 1) (fitD τ (fun _ => v) k) none = some r → ∃ x : den τ, k x = some r ∧ ∀ (b : Sees) (ρ : Pl) (O : Ow) (w : World) (u : Value), Mono b → v.toV.rel b ρ O w u → SlotHas ag τ x (okb b ρ O) w u := by
    intro v h
    have e0 := cond_some h; clear h; obtain ⟨h1, h⟩ := e0
    simp only [Bool.and_eq_true, Bool.not_eq_true'] at h1
    obtain ⟨x, e1, e2⟩ := fitD_ok h
    refine ⟨x, e1, fun b ρ O w u hm hu => ?_⟩
    unfold SlotHas
    rw [h1.1, if_neg (by simp)]
    exact e2 b ρ O w 0 u hm (by rw [nbeq h1.2]; exact Nat.zero_lt_one) hu
  unfold fitA at h
  split at h
  · rename_i n f
    have e0 := cond_some h; clear h; obtain ⟨h1, h⟩ := e0
    simp only [Bool.and_eq_true] at h1
    obtain ⟨x, e1, e2⟩ := fitD_ok h
    refine ⟨x, e1, fun b ρ O w u hm hu => ?_⟩
    obtain ⟨cs, e, q1, q2⟩ := hu
    unfold SlotHas
    rw [h1.1, if_pos rfl]
    exact ⟨cs, e, q1.trans (nbeq h1.2), fun j hj => e2 b ρ O w j _ hm hj (q2 j (by rw [nbeq h1.2]; exact hj)).2⟩
  · exact flat _ h
end Go.Proofs.Ytdblllnnccaccaa
