/-
  What is old stays while what is new is written over. General; nothing of this program.
-/
import Derived.Test.YtlmnhbobgfpanaaDaI
namespace Go.Proofs.Ytlmnhbobgfpanaa
open Go.RowKit

structure KE (m : Nat) (z : Bool) (E : Env) : Prop where
  no : ∀ id, m ≤ id → E.O id = none
  zn : z = true → (∀ id, E.O id = none) ∧ (∀ g k, ¬ E.ok .new g k) ∧ (∀ g k, E.ok .saf g k → g < E.W.heap.size ∧ ¬ E.X g) ∧ ∀ g k, E.ok .mid g k → (g < E.W.heap.size ∧ ¬ E.X g) ∧ ∀ k', ¬ E.ok .saf g k'
def Zn (E E' : Env) : Prop := E.W.heap.size ≤ E'.W.heap.size ∧ (∀ g, g < E.W.heap.size → ¬ E.mine g → (∀ k, ¬ E.ok .mid g k) → E'.W.heap[g]? = E.W.heap[g]? ∧ ¬ E'.mine g ∧ ∀ k, ¬ E'.ok .mid g k) ∧ E'.W.os = E.W.os ∧ E'.W.tape = E.W.tape ∧ E'.W.output = E.W.output
def StepZ (z : Bool) (E E' : Env) : Prop := E' = E ∨ (z = true ∧ Zn E E')
theorem StepZ.refl (z : Bool) (E : Env) : StepZ z E E := .inl rfl
theorem StepZ.trans {z : Bool} {E E' E'' : Env} (h : StepZ z E E') (k : StepZ z E' E'') : StepZ z E E'' := by
  rcases h with rfl | ⟨hz, h1, h2, h3, h4, h5⟩
  · exact k
  · rcases k with rfl | ⟨_, k1, k2, k3, k4, k5⟩
    · exact .inr ⟨hz, h1, h2, h3, h4, h5⟩
    · exact .inr ⟨hz, Nat.le_trans h1 k1, fun g hg hm hk => ⟨(k2 g (by omega) (h2 g hg hm hk).2.1 (h2 g hg hm hk).2.2).1.trans (h2 g hg hm hk).1, (k2 g (by omega) (h2 g hg hm hk).2.1 (h2 g hg hm hk).2.2).2⟩, k3.trans h3, k4.trans h4, k5.trans h5⟩
section
variable {E : Env} {ρ ρ' : Pl} {O O' : Ow} {a a' : Act} {w w' : World} {b b' : Sees}
theorem Tp.aged_size (c : Qc → Qc) (e : Tp) : (e.aged c).size = e.size := by
  induction e with
  | pair a b ih1 ih2 => simp only [Tp.aged, Tp.size, ih1, ih2]
  | _ => rfl
theorem aged_cell {c : Qc → Qc} (hc : ∀ q, (c q).wr = true → q.wr = true) {ok ok' : Sees} (h : ∀ q g k, g < w.heap.size → ok q g k → ok' (c q) g k) : ∀ (τ : Tp) (x : den τ) (j : Nat) {u : Value}, (cellT τ x j).rel ok w u → (cellT (τ.aged c) (cast (τ.aged_den c) x) j).rel ok' w u
  | .bool, _, j, _, hu => by cases j <;> exact hu
  | .str, _, j, _, hu => by cases j <;> exact hu
  | .int _, _, j, _, hu => by cases j <;> exact hu
  | .hv _, _, j, _, hu => by cases j <;> exact hu
  | .op _, _, j, _, hu => by cases j <;> exact hu
  | .unit, _, _, _, hu => hu
  | .sl q e, l, 0, u, hu => by
    obtain ⟨A, cp, e1, hn, hf⟩ := hu
    have hden : List (den e) = List (den (e.aged c)) := congrArg List (e.aged_den c)
    have hl : (cast hden l).length = l.length := cast_len (Tp.aged_den c e) _ _
    have hs : (e.aged c).size = e.size := Tp.aged_size c e
    show (cellT (.sl (c q) (e.aged c)) (cast hden l : List (den (e.aged c))) 0).rel ok' w u
    refine ⟨A, cp, by rw [hl]; exact e1, by rw [hl]; exact hn, fun i j hi hj => ?_⟩
    rw [hl] at hi
    rw [hs] at hj ⊢
    obtain ⟨ad, v, h1, h2, h3, h4, h5⟩ := hf i j hi hj
    have hlt := World.block_lt_of_cell? w _ h3
    rw [block_add] at hlt
    refine ⟨ad, v, h1, ⟨h q _ _ hlt h2.1, fun hw => h2.2 (hc q hw)⟩, h3, h4, ?_⟩
    have := aged_cell hc h e (l.getD i (dflt e)) j h5
    have hi' : i < (cast hden l).length := by rw [hl]; exact hi
    have e2 : (cast hden l).getD i (dflt (e.aged c)) = cast (Tp.aged_den c e) (l.getD i (dflt e)) := by
      rw [← cast_list (Tp.aged_den c e) hden l i (dflt e)]
      simp only [List.getD_eq_getElem?_getD, List.getElem?_eq_getElem hi']
      rfl
    show (cellT (e.aged c) ((cast hden l).getD i (dflt (e.aged c))) j).rel ok' w v
    rw [e2]
    exact this
  | .sl q e, _, j + 1, _, hu => hu
  | .pair a d, x, j, u, hu => by
    have hs : ∀ e : Tp, (e.aged c).size = e.size := Tp.aged_size c
    have hp : cast (Tp.aged_den c (.pair a d)) x = (cast (Tp.aged_den c a) x.1, cast (Tp.aged_den c d) x.2) := cast_pair (Tp.aged_den c a) (Tp.aged_den c d) _ _
    rw [hp]
    simp only [Tp.aged, cellT, hs] at hu ⊢
    split at hu
    · rename_i hj; rw [if_pos hj]; exact aged_cell hc h a x.1 _ hu
    · rename_i hj; rw [if_neg hj]; exact aged_cell hc h d x.2 _ hu
theorem dob_ver (kp : Bool) (c : Qc → Qc) (md : Bool) (F : Nat → Option DOb) (o : DOb) : (o.aged kp c F).toOb.ver = o.toOb.ver ∧ (o.safe md F).toOb.ver = o.toOb.ver := by
  cases o with
  | arr z e τ v l =>
    refine ⟨?_, ?_⟩
    · simp only [DOb.aged]; cases (kp && z.isO) <;> rfl
    · simp only [DOb.safe]; cases (md && z.isO) <;> rfl
  | _ => exact ⟨rfl, rfl⟩
theorem dob_size (kp : Bool) (c : Qc → Qc) (md : Bool) (F : Nat → Option DOb) (o : DOb) : ((o.aged kp c F).toOb.held = true → o.toOb.held = true ∧ (o.aged kp c F).toOb.size = o.toOb.size ∧ (o.aged kp c F).toOb.live = true ∧ o.toOb.live = true) ∧ ((o.safe md F).toOb.held = true → o.toOb.held = true ∧ (o.safe md F).toOb.size = o.toOb.size ∧ (o.safe md F).toOb.live = true ∧ o.toOb.live = true) := by
  cases o with
  | var e n f => exact ⟨fun _ => ⟨rfl, rfl, rfl, rfl⟩, fun _ => ⟨rfl, rfl, rfl, rfl⟩⟩
  | arr z e τ v l =>
    refine ⟨fun h => ?_, fun h => ?_⟩
    · simp only [DOb.aged] at h ⊢
      cases hk : (kp && z.isO) with
      | false => rw [hk] at h; cases h
      | true =>
        simp only [Bool.and_eq_true] at hk
        cases z <;> first | (cases hk.2; done) | exact ⟨rfl, Tp.aged_size c τ, rfl, rfl⟩
    · simp only [DOb.safe] at h ⊢
      cases hk : (md && z.isO) with
      | false => rw [hk] at h; cases h
      | true =>
        simp only [Bool.and_eq_true] at hk
        cases z <;> first | (cases hk.2; done) | exact ⟨rfl, Tp.sfd_size md τ, rfl, rfl⟩
  | _ => exact ⟨(fun h => nomatch h), (fun h => nomatch h)⟩
theorem aged_rel {kp : Bool} {c : Qc → Qc} (hcw : ∀ q, (c q).wr = true → q.wr = true) (hca : (c .any).wr = false) (hco : c .old = .old) {f : Nat → Option DOb} (hO : ∀ id, O id = (f id).map DOb.toOb) (hO' : ∀ id, O' id = (f id).map fun o => (o.aged kp c f).toOb) (h : ∀ q g k, g < w.heap.size → okb b ρ O q g k → okb b' ρ O' (c q) g k)
    (hob : ∀ id o, O id = some o → o.rel b ρ O w (ρ id)) (hrow : ∀ id g k zz e τ ver l, (kp && Zz.isO zz) = false → f id = some (.arr zz e τ ver l) → ρ id = some g → g < w.heap.size → okb b' ρ O' (c .any) g k) : ∀ (v : DV) {u : Value}, v.toV.rel b ρ O w u → (v.aged kp c f).toV.rel b' ρ O' w u := by
  have rows : ∀ {q : Qc} {τ : Tp} {l : List (den τ)} {A : Option Addr} {n cp : Nat} {v : Value}, v = .slice A n cp → (n ≤ l.length ∧ l.length ≤ cp) → (∀ i j, i < l.length → j < τ.size → ∃ ad z, A = some ad ∧ Okw (okb b' ρ O') w q ad.block (ad.off + (i * τ.size + j)) ∧ w.cell? (ad.add (i * τ.size + j)) = some z ∧ z.oneCell' = true ∧ (cellT τ (l.getD i (dflt τ)) j).rel (okb b ρ O) w z) →
      (DV.sd q (τ.aged c) (cast (congrArg List (τ.aged_den c)) l) n).toV.rel b' ρ O' w v := by
    intro q τ l A n cp v e hn hc
    have hl : (cast (congrArg List (τ.aged_den c)) l).length = l.length := cast_len (Tp.aged_den c τ) _ _
    have hs : (τ.aged c).size = τ.size := Tp.aged_size c τ
    refine ⟨A, cp, e, by rw [hl]; exact hn, fun i j hi hj => ?_⟩
    rw [hl] at hi
    rw [hs] at hj ⊢
    obtain ⟨ad, z, g1, g2, g3, g4, g5⟩ := hc i j hi hj
    refine ⟨ad, z, g1, g2, g3, g4, ?_⟩
    have := aged_cell hcw h τ (l.getD i (dflt τ)) j g5
    have hi' : i < (cast (congrArg List (τ.aged_den c)) l).length := by rw [hl]; exact hi
    have e2 : (cast (congrArg List (τ.aged_den c)) l).getD i (dflt (τ.aged c)) = cast (Tp.aged_den c τ) (l.getD i (dflt τ)) := by
      rw [← cast_list (Tp.aged_den c τ) (congrArg List (τ.aged_den c)) l i (dflt τ)]
      simp only [List.getD_eq_getElem?_getD, List.getElem?_eq_getElem hi']
      rfl
    show (cellT (τ.aged c) ((cast (congrArg List (τ.aged_den c)) l).getD i (dflt (τ.aged c))) j).rel (okb b' ρ O') w z
    rw [e2]
    exact this
  intro v
  induction v with
  | im τ x => intro u hu; exact aged_cell hcw h τ x 0 hu
  | raw v => intro u hu; exact hu
  | agg n f ih => intro u ⟨cs, e, h1, h2⟩; exact ⟨cs, e, h1, fun j hj => ⟨(h2 j hj).1, ih j (h2 j hj).2⟩⟩
  | tup n f ih => intro u ⟨cs, e, h1, h2⟩; exact ⟨cs, e, h1, fun j hj => ih j (h2 j hj)⟩
  | ifc t v ih => intro u ⟨y, e, hy⟩; exact ⟨y, e, ih hy⟩
  | glo g t =>
    intro u ⟨h1, h2, h3⟩
    have h4 := h .old g 0 (World.block_lt_of_cell? w _ h2) h1
    rw [hco] at h4
    exact ⟨h4, h2, h3⟩
  | unk => intro u hu; exact hu
  | ptr id ver i j =>
    intro u ⟨a, o, e1, e2, e3, e4⟩
    rw [hO] at e2
    obtain ⟨d, hd, rfl⟩ := Option.map_eq_some_iff.1 e2
    refine ⟨a, (d.aged kp c f).toOb, e1, by rw [hO', hd]; rfl, by rw [(dob_ver kp c false f d).1]; exact e3, fun h1 h2 => ?_⟩
    obtain ⟨s1, s2, _⟩ := (dob_size kp c false f d).1 h2
    obtain ⟨g, g1, g2⟩ := e4 (by rw [← (dob_ver kp c false f d).1]; exact h1) s1
    exact ⟨g, g1, by rw [s2]; exact g2⟩
  | sd q τ l n =>
    rintro u ⟨A, cp, e1, e2, e3⟩
    refine rows e1 e2 fun i j hi hj => ?_
    obtain ⟨ad, z, g1, g2, g3, g4, g5⟩ := e3 i j hi hj
    have hlt := World.block_lt_of_cell? w _ g3
    rw [block_add] at hlt
    exact ⟨ad, z, g1, ⟨h q _ _ hlt g2.1, fun hw => g2.2 (hcw q hw)⟩, g3, g4, g5⟩
  | buf id ver off len w0 =>
    rintro u ⟨A, cp, o, e1, e2, e3, e4, e5⟩
    simp only [DV.aged]
    have e3' := e3
    rw [hO] at e3'
    obtain ⟨d, hd, rfl⟩ := Option.map_eq_some_iff.1 e3'
    rw [hd]
    cases d with
    | arr zz e τ ver' l =>
      simp only
      cases hb : (Nat.beq ver' ver && Nat.blt 0 τ.size) with
      | false => exact trivial
      | true =>
        simp only [Bool.and_eq_true] at hb
        obtain rfl := nbeq hb.1
        have hz := nblt hb.2
        obtain ⟨zz', el, size, n, g, h1, h2, h3⟩ := e5 rfl
        cases h1
        rw [cond_true]
        cases hkz : (kp && zz.isO) with
        | true =>
          rw [cond_true]
          have hl : (cast (congrArg List (τ.aged_den c)) l).length = l.length := cast_len (Tp.aged_den c τ) _ _
          have e9 : ((DOb.arr zz e τ ver' l).aged kp c f) = .arr zz e (τ.aged c) ver' (cast (congrArg List (τ.aged_den c)) l) := by simp only [DOb.aged, hkz, cond_true]
          refine ⟨A, cp, (DOb.arr zz e (τ.aged c) ver' (cast (congrArg List (τ.aged_den c)) l)).toOb, e1, e2, by rw [hO', hd]; show some ((DOb.arr zz e τ ver' l).aged kp c f).toOb = _; rw [e9], Nat.le_refl _, fun _ => ⟨_, _, _, _, _, rfl, by rw [hl]; exact h2, by rw [Tp.aged_size]; exact h3⟩⟩
        | false =>
        rw [cond_false]
        have hdl : (List.drop off l).length = l.length - off := by simp
        rcases h3 with ⟨p1, rfl, rfl, rfl⟩ | ⟨g, cs, p1, p2, p3, p4⟩
        · rcases hob id _ e3 with ⟨-, q2⟩ | ⟨g', cs, cap, q1, -⟩
          · have hl0 : l.length = 0 := q2
            exact rows e1 ⟨by rw [hdl]; omega, by rw [hdl]; omega⟩ fun i j hi => by rw [hdl] at hi; omega
          · rw [p1] at q1; cases q1
        · rcases hob id _ e3 with ⟨q1, -⟩ | ⟨g', cs2, cap, q1, q2, q3, q4, q5, q6⟩
          · rw [p1] at q1; cases q1
          · rw [p1] at q1; cases q1
            rw [p3] at q2; cases q2
            have hcap : off + cp = cap := by
              rw [q3] at p4
              exact Nat.eq_of_mul_eq_mul_right hz p4
            have q4' : l.length ≤ cap := q4
            refine rows e1 ⟨by rw [hdl]; omega, by rw [hdl]; omega⟩ fun i j hi hj => ?_
            rw [hdl] at hi
            have hA : A = some ⟨g, off * τ.size, none⟩ := p2 (by omega)
            obtain ⟨r1, r2⟩ := q6 (off + i) j (by show off + i < l.length; omega) hj
            have hidx : (off + i) * τ.size + j < cs.size := by
              rw [q3]
              have : (off + i + 1) * τ.size ≤ cap * τ.size := Nat.mul_le_mul_right _ (by omega)
              rw [Nat.add_mul, Nat.one_mul] at this
              omega
            have hglt : g < w.heap.size := (Array.getElem?_eq_some_iff.1 p3).1
            have hcell : w.cell? ((⟨g, off * τ.size, none⟩ : Addr).add (i * τ.size + j)) = some (cs.getD ((off + i) * τ.size + j) undef) := by
              rw [add_mk]
              have : off * τ.size + (i * τ.size + j) = (off + i) * τ.size + j := by rw [Nat.add_mul]; omega
              rw [this]
              simp only [World.cell?, p3]
              simp [Array.getD_eq_getD_getElem?, hidx]
            refine ⟨_, _, hA, ⟨hrow id g _ _ _ _ _ _ hkz hd p1 hglt, fun hw => absurd hw (by rw [hca]; exact nofun)⟩, hcell, r1, ?_⟩
            have e9 : (List.drop off l).getD i (dflt τ) = l.getD (off + i) (dflt τ) := by simp [List.getD_eq_getElem?_getD]
            rw [e9]
            exact r2
    | _ => exact trivial
  | _ => intro u _; exact trivial
theorem old_cell {md : Bool} {ok ok' : Sees} (h : ∀ q g k, Qc.sf md q = true → g < w.heap.size → ok q g k → look w' g k = look w g k ∧ ok' q g k) : ∀ (τ : Tp) (x : den τ) (j : Nat) {u : Value}, τ.isSf md = true → (cellT τ x j).rel ok w u → (cellT τ x j).rel ok' w' u
  | .bool, _, j, _, _, hu => by cases j <;> exact hu
  | .str, _, j, _, _, hu => by cases j <;> exact hu
  | .int _, _, j, _, _, hu => by cases j <;> exact hu
  | .hv _, _, j, _, _, hu => by cases j <;> exact hu
  | .op _, _, j, _, _, hu => by cases j <;> exact hu
  | .unit, _, _, _, _, hu => hu
  | .sl q e, l, 0, u, ho, hu => by
    have ho' : (Qc.sf md q && e.isSf md) = true := ho
    simp only [Bool.and_eq_true] at ho'
    obtain ⟨A, c, e1, hn, hf⟩ := hu
    refine ⟨A, c, e1, hn, fun i j hi hj => ?_⟩
    obtain ⟨ad, v, h1, h2, h3, h4, h5⟩ := hf i j hi hj
    have hlt := World.block_lt_of_cell? w _ h3
    rw [block_add] at hlt
    obtain ⟨k1, k2⟩ := h q _ _ ho'.1 hlt h2.1
    exact ⟨ad, v, h1, ⟨k2, fun hw => (look_frozen k1).trans (h2.2 hw)⟩, cell_mono h3 (look_cell k1), h4, old_cell h e _ j ho'.2 h5⟩
  | .sl _ e, _, j + 1, _, _, hu => hu
  | .pair c d, x, j, u, ho, hu => by
    have ho' : (c.isSf md && d.isSf md) = true := ho
    simp only [Bool.and_eq_true] at ho'
    simp only [cellT] at hu ⊢
    split at hu
    · rename_i hj; rw [if_pos hj]; exact old_cell h c x.1 _ ho'.1 hu
    · rename_i hj; rw [if_neg hj]; exact old_cell h d x.2 _ ho'.2 hu
theorem cell_cast {τ τ' : Tp} (h : τ' = τ) (hd : den τ = den τ') (x : den τ) (j : Nat) : cellT τ' (cast hd x) j = cellT τ x j := by subst h; rfl
theorem sfd_cell {md : Bool} {ok ok' : Sees} (h : ∀ q g k, Qc.sf md q = true → g < w.heap.size → ok q g k → look w' g k = look w g k ∧ ok' q g k) : ∀ (τ : Tp) (x : den τ) (j : Nat) {u : Value}, (cellT τ x j).rel ok w u → (cellT (τ.sfd md) (cast (τ.sfd_den md) x) j).rel ok' w' u
  | .bool, _, j, _, hu => by cases j <;> exact hu
  | .str, _, j, _, hu => by cases j <;> exact hu
  | .int _, _, j, _, hu => by cases j <;> exact hu
  | .hv _, _, j, _, hu => by cases j <;> exact hu
  | .op _, _, j, _, hu => by cases j <;> exact hu
  | .unit, _, _, _, hu => hu
  | .sl q e, l, j, u, hu => by
    cases hq : (Qc.sf md q && e.isSf md) with
    | true =>
      have e1 : (Tp.sl q e).sfd md = .sl q e := by simp only [Tp.sfd, hq, cond_true]
      rw [cell_cast e1]
      exact old_cell h (.sl q e) l j hq hu
    | false =>
      have e1 : (Tp.sl q e).sfd md = .op (.sl q e) := by simp only [Tp.sfd, hq, cond_false]
      have key : ∀ (τ' : Tp) (hd : den (.sl q e) = den τ'), τ' = .op (.sl q e) → (cellT τ' (cast hd l) j).rel ok' w' u := by
        rintro τ' hd rfl
        cases j with
        | zero => obtain ⟨A, c, rfl, -⟩ := hu; exact ⟨rfl, rfl⟩
        | succ j => exact hu
      exact key _ _ e1
  | .pair a d, x, j, u, hu => by
    have hp : cast (Tp.sfd_den md (.pair a d)) x = (cast (Tp.sfd_den md a) x.1, cast (Tp.sfd_den md d) x.2) := cast_pair (Tp.sfd_den md a) (Tp.sfd_den md d) _ _
    rw [hp]
    simp only [Tp.sfd, cellT, Tp.sfd_size] at hu ⊢
    split at hu
    · rename_i hj; rw [if_pos hj]; exact sfd_cell h a x.1 _ hu
    · rename_i hj; rw [if_neg hj]; exact sfd_cell h d x.2 _ hu
theorem safe_rel {md : Bool} {f : Nat → Option DOb} (hblk : ∀ id g zz e τ ver l, (md && Zz.isO zz) = true → f id = some (.arr zz e τ ver l) → ρ id = some g → w'.heap[g]? = w.heap[g]?) (hO : ∀ id, O id = (f id).map DOb.toOb) (hO' : ∀ id, O' id = (f id).map fun o => (o.safe md f).toOb) (h : ∀ q g k, Qc.sf md q = true → g < w.heap.size → okb b ρ O q g k → look w' g k = look w g k ∧ okb b' ρ O' q g k) : ∀ (v : DV) {u : Value}, v.toV.rel b ρ O w u → (v.safe md f).toV.rel b' ρ O' w' u := by
  intro v
  induction v with
  | im τ x =>
    intro u hu
    simp only [DV.safe]
    cases hτ : τ.isSf md with
    | false => exact trivial
    | true => exact old_cell h τ x 0 hτ hu
  | raw v => intro u hu; exact hu
  | agg n f ih => intro u ⟨cs, e, h1, h2⟩; exact ⟨cs, e, h1, fun j hj => ⟨(h2 j hj).1, ih j (h2 j hj).2⟩⟩
  | tup n f ih => intro u ⟨cs, e, h1, h2⟩; exact ⟨cs, e, h1, fun j hj => ih j (h2 j hj)⟩
  | ifc t v ih => intro u ⟨y, e, hy⟩; exact ⟨y, e, ih hy⟩
  | glo g t =>
    intro u ⟨h1, h2, h3⟩
    obtain ⟨k1, k2⟩ := h .old g 0 (by cases md <;> rfl) (World.block_lt_of_cell? w _ h2) h1
    exact ⟨k2, (look_cell k1).trans h2, h3⟩
  | unk => intro u hu; exact hu
  | ptr id ver i j =>
    intro u ⟨a, o, e1, e2, e3, e4⟩
    rw [hO] at e2
    obtain ⟨d, hd, rfl⟩ := Option.map_eq_some_iff.1 e2
    refine ⟨a, (d.safe md f).toOb, e1, by rw [hO', hd]; rfl, by rw [(dob_ver false (fun q => q) md f d).2]; exact e3, fun h1 h2 => ?_⟩
    obtain ⟨s1, s2, _⟩ := (dob_size false (fun q => q) md f d).2 h2
    obtain ⟨g, g1, g2⟩ := e4 (by rw [← (dob_ver false (fun q => q) md f d).2]; exact h1) s1
    exact ⟨g, g1, by rw [s2]; exact g2⟩
  | sd q τ l n =>
    intro u hu
    simp only [DV.safe]
    cases hτ : (Qc.sf md q && τ.isSf md) with
    | false => exact trivial
    | true =>
      simp only [Bool.and_eq_true] at hτ
      obtain ⟨A, c, e1, e2, e3⟩ := hu
      refine ⟨A, c, e1, e2, fun i j hi hj => ?_⟩
      obtain ⟨ad, z, g1, g2, g3, g4, g5⟩ := e3 i j hi hj
      have hlt := World.block_lt_of_cell? w _ g3
      rw [block_add] at hlt
      obtain ⟨k1, k2⟩ := h q _ _ hτ.1 hlt g2.1
      exact ⟨ad, z, g1, ⟨k2, fun hw => (look_frozen k1).trans (g2.2 hw)⟩, cell_mono g3 (look_cell k1), g4, old_cell h τ _ j hτ.2 g5⟩
  | buf id ver off len w0 =>
    rintro u ⟨A, cp, o, e1, e2, e3, e4, e5⟩
    simp only [DV.safe]
    have e3' := e3
    rw [hO] at e3'
    obtain ⟨d, hd, rfl⟩ := Option.map_eq_some_iff.1 e3'
    rw [hd]
    cases d with
    | arr zz e τ ver' l =>
      simp only
      cases hk : (md && (Nat.beq ver' ver && zz.isO)) with
      | false => exact trivial
      | true =>
        rw [cond_true]
        simp only [Bool.and_eq_true] at hk
        have hk2 : (md && zz.isO) = true := by rw [hk.1, hk.2.2]; rfl
        obtain rfl := nbeq hk.2.1
        obtain ⟨zz', el, size, n, g, h1, h2, h3⟩ := e5 rfl
        cases h1
        have hl : (cast (congrArg List (τ.sfd_den md)) l).length = l.length := cast_len (Tp.sfd_den md τ) _ _
        have e9 : ((DOb.arr zz e τ ver' l).safe md f) = .arr zz e (τ.sfd md) ver' (cast (congrArg List (τ.sfd_den md)) l) := by simp only [DOb.safe, hk2, cond_true]
        refine ⟨A, cp, (DOb.arr zz e (τ.sfd md) ver' (cast (congrArg List (τ.sfd_den md)) l)).toOb, e1, e2, by rw [hO', hd]; show some ((DOb.arr zz e τ ver' l).safe md f).toOb = _; rw [e9], Nat.le_refl _, fun _ => ⟨_, _, _, _, _, rfl, by rw [hl]; exact h2, ?_⟩⟩
        rw [Tp.sfd_size]
        rcases h3 with h3 | ⟨g, cs, p1, p2, p3, p4⟩
        · exact .inl h3
        · exact .inr ⟨g, cs, p1, p2, by rw [hblk id g _ _ _ _ _ hk2 hd p1]; exact p3, p4⟩
    | _ => exact trivial
  | _ => intro u _; exact trivial
theorem dlo_map (f : DOb → DOb) (l : List (Nat × DOb)) (t : Nat) : dlo (l.map fun p => (p.1, f p.2)) t = (dlo l t).map f := by
  induction l with
  | nil => rfl
  | cons p l ih =>
    obtain ⟨k, v⟩ := p
    simp only [List.map_cons, dlo, nbeq_iff]
    by_cases h : k = t
    · simp [h]
    · simp [h, ih]
theorem dlk_aged (kp : Bool) (c : Qc → Qc) (F : Nat → Option DOb) (l : List (Nat × DV)) (t : Nat) : dlk (l.map fun p => (p.1, p.2.aged kp c F)) t = (dlk l t).aged kp c F := by
  induction l with
  | nil => rfl
  | cons p l ih =>
    obtain ⟨k, v⟩ := p
    simp only [List.map_cons, dlk, nbeq_iff]
    by_cases h : k = t
    · simp [h]
    · simp [h, ih]
theorem dlk_safe (md : Bool) (O : Nat → Option DOb) (l : List (Nat × DV)) (t : Nat) : dlk (l.map fun p => (p.1, p.2.safe md O)) t = (dlk l t).safe md O := by
  induction l with
  | nil => rfl
  | cons p l ih =>
    obtain ⟨k, v⟩ := p
    simp only [List.map_cons, dlk, nbeq_iff]
    by_cases h : k = t
    · simp [h]
    · simp [h, ih]
theorem dlk_deads (ts : List Nat) (l : List (Nat × DV)) (t : Nat) : dlk (ts.map (fun t => (t, .dead)) ++ l) t = if t ∈ ts then .dead else dlk l t := by
  induction ts with
  | nil => simp
  | cons k ts ih =>
    simp only [List.map_cons, List.cons_append, dlk, nbeq_iff, ih, List.mem_cons]
    by_cases h : k = t
    · simp [h]
    · simp [h, Ne.symm h]
def zok (cl : Bool) (b : Sees) : Sees
  | .new, _, _ => False
  | .mid, g, k => cl = true ∧ b .new g k
  | .any, g, k => b .any g k
  | .old, g, k => (cl = true → b .old g k) ∧ (cl = false → b .any g k)
  | .saf, g, k => (cl = true → b .old g k) ∧ (cl = false → b .any g k)
theorem zok_cl {cl : Bool} {b : Sees} (hm : Mono b) {q : Qc} {g k : Nat} (h : b q g k) : zok cl b (Qc.cl cl q) g k := by
  cases cl with
  | false => exact ⟨nofun, fun _ => hm.1 q g k h⟩
  | true =>
    cases q with
    | new => exact ⟨rfl, h⟩
    | old => exact ⟨fun _ => h, nofun⟩
    | any => exact h
    | mid => exact hm.1 _ g k h
    | saf => exact hm.1 _ g k h
theorem zok_mono {cl : Bool} {b : Sees} (hm : Mono b) : Mono (zok cl b) := by
  have up : ∀ {g k : Nat}, ((cl = true → b .old g k) ∧ (cl = false → b .any g k)) → b .any g k := fun {g k} h => by
    cases cl with
    | false => exact h.2 rfl
    | true => exact hm.1 _ g k (h.1 rfl)
  refine ⟨fun q g k h => ?_, fun q g k hq h => ?_⟩
  · cases q with
    | new => exact h.elim
    | mid => exact hm.1 _ g k h.2
    | any => exact h
    | old => exact up h
    | saf => exact up h
  · rcases hq with rfl | rfl
    · exact h.elim
    · exact h
theorem cl_wr (cl : Bool) (q : Qc) (h : (Qc.cl cl q).wr = true) : q.wr = true := by cases cl <;> cases q <;> first | rfl | cases h
section
variable {m : Nat}
theorem ke_mine (hE : KE m true E) {g : Nat} (h : E.mine g) : E.X g := h.elim (fun ⟨id, o, ho, _⟩ => by rw [(hE.zn rfl).1] at ho; cases ho) id
theorem ke_new (hE : KE m true E) {g k : Nat} (h : E.b .new g k) : E.W.heap.size ≤ g ∨ E.X g := by
  rcases h with h1 | ⟨_, h1 | h1⟩
  · exact absurd h1 ((hE.zn rfl).2.1 g k)
  · exact .inl h1
  · exact .inr (ke_mine hE h1)
theorem ke_old (hE : KE m true E) (hm : Mono E.ok) {g k : Nat} (h : E.b .old g k) : g < E.W.heap.size ∧ ¬ E.X g := by
  rcases h with h1 | ⟨h1, _⟩
  · exact (hE.zn rfl).2.2.1 g k (hm.2 _ g k (.inr rfl) h1)
  · cases h1
theorem ke_mid (_ : KE m true E) {g k : Nat} (h : E.b .mid g k) : E.ok .mid g k := by
  rcases h with h1 | ⟨h1, _⟩
  · exact h1
  · cases h1
theorem ke_apart (hE : KE m true E) (hm : Mono E.ok) {md : Bool} {q : Qc} {g k k' : Nat} (hq : Qc.sf md q = true) (h : E.b q g k) : ¬ E.b (Qc.wc md) g k' := fun h' => by
  cases md with
  | false =>
    cases q <;> try (cases hq; done)
    have h1 := ke_old hE hm h
    rcases ke_new hE h' with h2 | h2
    · omega
    · exact h1.2 h2
  | true =>
    have h0 : E.b .saf g k := by
      cases q with
      | saf => exact h
      | new => exact (Env.mono hm).2 _ g k (.inl rfl) h
      | old => exact (Env.mono hm).2 _ g k (.inr rfl) h
      | any => cases hq
      | mid => cases hq
    obtain ⟨h1, h2⟩ := (hE.zn rfl).2.2.2 g k' (ke_mid hE h')
    rcases h0 with h3 | ⟨_, h3 | h3⟩
    · exact h2 k h3
    · omega
    · exact h1.2 (ke_mine hE h3)
end
theorem aged_ok (cl : Bool) {σ : DSt} {m : Nat} (hE : KE m true E) (h : Rel E ρ σ.st a w) : ∃ E' ρ', StepZ true E E' ∧ KE m true E' ∧ Rel E' ρ' (σ.aged cl).st a w := by
  have hO : ∀ id, σ.st.O id = (σ.O id).map DOb.toOb := fun id => lo_map σ.ob id
  have hO' : ∀ id, (σ.aged cl).st.O id = (σ.O id).map fun o => (o.aged cl (Qc.cl cl) σ.O).toOb := fun id => by
    have : (σ.aged cl).st.O id = (dlo (σ.ob.map fun p => (p.1, p.2.aged cl (Qc.cl cl) σ.O)) id).map DOb.toOb := lo_map _ id
    rw [this, dlo_map, Option.map_map]
    rfl
  have hback : ∀ id o', (σ.aged cl).st.O id = some o' → o'.live = true → ∃ o, σ.st.O id = some o ∧ o.live = true := fun id o' ho hl => by
    rw [hO'] at ho
    obtain ⟨d, hd, rfl⟩ := Option.map_eq_some_iff.1 ho
    refine ⟨d.toOb, by rw [hO, hd]; rfl, ?_⟩
    cases d with
    | arr z e τ v l =>
      simp only [DOb.aged] at hl
      cases hk : (cl && z.isO) with
      | false => rw [hk] at hl; cases hl
      | true => simp only [Bool.and_eq_true] at hk; cases z <;> first | (cases hk.2; done) | rfl
    | _ => first | rfl | cases hl
  have hown : ∀ g, own ρ (σ.aged cl).st.O g → own ρ σ.st.O g := fun g ⟨id, o', h1, h2, h3⟩ => by
    obtain ⟨o, k1, k2⟩ := hback id o' h1 h2
    exact ⟨id, o, k1, k2, h3⟩
  have hownc : ∀ g k, own ρ (σ.aged cl).st.O g → ownc ρ σ.st.O g k := fun g k ⟨id, o', h1, h2, h3⟩ => by
    rw [hO'] at h1
    obtain ⟨d, hd, rfl⟩ := Option.map_eq_some_iff.1 h1
    refine ⟨id, d.toOb, by rw [hO, hd]; rfl, ?_, h3, ?_⟩
    · obtain ⟨o1, k1, k2⟩ := hback id _ (by rw [hO', hd]; rfl) h2
      rw [hO, hd] at k1
      cases k1
      exact k2
    · cases d with
      | arr z e τ v l =>
        simp only [DOb.aged] at h2
        cases hk : (cl && z.isO) with
        | false => rw [hk] at h2; cases h2
        | true => simp only [Bool.and_eq_true] at hk; cases z <;> first | (cases hk.2; done) | exact Nat.zero_le _
      | _ => first | exact Nat.zero_le _ | cases h2
  refine ⟨⟨w, fun _ => none, fun _ => none, fun q g k => g < w.heap.size ∧ ¬ own ρ (σ.aged cl).st.O g ∧ zok cl E.b q g k, fun g => own ρ (σ.aged cl).st.O g⟩, ρ, .inr ⟨rfl, h.bs, fun g hg hm _ => ?_, h.os, h.tape, h.output⟩, ⟨fun _ _ => rfl, fun _ => ⟨fun _ => rfl, fun g k hk => hk.2.2, fun g k hk => ⟨hk.1, hk.2.1⟩, fun g k hk => ⟨⟨hk.1, hk.2.1⟩, fun k' hk' => ke_apart hE h.le (md := false) (q := .old) (k := k') (k' := k) rfl (hk'.2.2.1 hk.2.2.1) hk.2.2.2⟩⟩⟩, ?_⟩
  · obtain ⟨k1, k2⟩ := h.ext.keep g hg hm
    refine ⟨k1, fun hh => hh.elim (fun ⟨id, o, ho, _⟩ => by cases ho) fun hh => k2 (hown g hh), fun k hk => ?_⟩
    rcases ke_new hE hk.2.2.2 with h1 | h1
    · omega
    · exact hm (.inr h1)
  have hup : ∀ q g k, g < w.heap.size → okb E.b ρ σ.st.O q g k → okb (Env.b ⟨w, fun _ => none, fun _ => none, fun q g k => g < w.heap.size ∧ ¬ own ρ (σ.aged cl).st.O g ∧ zok cl E.b q g k, fun g => own ρ (σ.aged cl).st.O g⟩) ρ (σ.aged cl).st.O (Qc.cl cl q) g k := fun q g k hg hk =>
    have hno : ¬ own ρ (σ.aged cl).st.O g := fun ho => hk.2 (hownc g k ho)
    ⟨.inl ⟨hg, hno, zok_cl (Env.mono h.le) hk.1⟩, fun ho => hno (own_of_ownc ho)⟩
  have hrow : ∀ id g k zz e τ ver l, (cl && Zz.isO zz) = false → σ.O id = some (.arr zz e τ ver l) → ρ id = some g → g < w.heap.size → okb (Env.b ⟨w, fun _ => none, fun _ => none, fun q g k => g < w.heap.size ∧ ¬ own ρ (σ.aged cl).st.O g ∧ zok cl E.b q g k, fun g => own ρ (σ.aged cl).st.O g⟩) ρ (σ.aged cl).st.O (Qc.cl cl .any) g k := fun id g k zz e τ ver l hkz hid hρ hg => by
    have ho : σ.st.O id = some (DOb.arr zz e τ ver l).toOb := by rw [hO, hid]; rfl
    have key : E.b .any g k ∧ ¬ own ρ (σ.aged cl).st.O g := by
      have live : (DOb.arr zz e τ ver l).toOb.live = true → E.b .any g k ∧ ¬ own ρ (σ.aged cl).st.O g := fun hl => by
        refine ⟨.inr ⟨rfl, (h.hi id _ g ho hl hρ).1⟩, fun ⟨id', o', k1, k2, k3⟩ => ?_⟩
        obtain ⟨o1, j1, j2⟩ := hback id' o' k1 k2
        obtain rfl := h.inj id' id o1 _ g j1 ho j2 hl k3 hρ
        rw [hO', hid] at k1
        simp only [Option.map_some, DOb.aged, hkz, cond_false] at k1
        cases k1
        cases k2
      cases zz with
      | own => exact live rfl
      | app => exact live rfl
      | sh =>
        rcases h.ob id _ ho with ⟨q1, -⟩ | ⟨g', cs, cap, q1, -, -, -, q5, -⟩
        · rw [hρ] at q1; cases q1
        · rw [hρ] at q1; cases q1
          obtain ⟨r1, r2⟩ := q5.2.1 rfl
          exact ⟨r2 _ _ rfl, fun hw => r1 (hown g hw)⟩
    exact ⟨.inl ⟨hg, key.2, zok_cl (Env.mono h.le) key.1⟩, fun hw => key.2 (own_of_ownc hw)⟩
  refine ⟨fun t => ?_, h.N, fun id o ho => ?_, fun id o g ho hl hg => ?_, fun id id' o o' g h1 h2 l1 l2 p1 p2 => ?_, fun id hid => ?_, ?_, Nat.le_refl _, rfl, rfl, rfl, h.df, ?_, ⟨fun q g k hk => ⟨hk.1, hk.2.1, (zok_mono (Env.mono h.le)).1 q g k hk.2.2⟩, fun q g k hq hk => ⟨hk.1, hk.2.1, (zok_mono (Env.mono h.le)).2 q g k hq hk.2.2⟩⟩⟩
  · have ht := h.tm t
    have e1 : σ.st.get t = (σ.get t).toV := lk_map σ.tm t
    have e2 : (σ.aged cl).st.get t = ((σ.get t).aged cl (Qc.cl cl) σ.O).toV := by
      have : (σ.aged cl).st.get t = (dlk (σ.tm.map fun p => (p.1, p.2.aged cl (Qc.cl cl) σ.O)) t).toV := lk_map _ t
      rw [this, dlk_aged]
      rfl
    rw [e1] at ht
    rw [e2]
    exact aged_rel (cl_wr cl) (by cases cl <;> rfl) (by cases cl <;> rfl) hO hO' hup h.ob hrow _ ht
  · rw [hO'] at ho
    obtain ⟨d, hd, rfl⟩ := Option.map_eq_some_iff.1 ho
    have hr := h.ob id d.toOb (by rw [hO, hd]; rfl)
    cases d with
    | var e n f =>
      obtain ⟨g, cs, h1, h2, h3, h4⟩ := hr
      exact ⟨g, cs, h1, h2, h3, fun j hj => ⟨(h4 j hj).1, aged_rel (cl_wr cl) (by cases cl <;> rfl) (by cases cl <;> rfl) hO hO' hup h.ob hrow _ (h4 j hj).2⟩⟩
    | arr z e τ v l =>
      have e9 : (DOb.arr z e τ v l).aged cl (Qc.cl cl) σ.O = cond (cl && z.isO) (.arr z e (τ.aged (Qc.cl cl)) v (cast (congrArg List (τ.aged_den (Qc.cl cl))) l)) (.gone v) := rfl
      rw [e9]
      cases hk : (cl && z.isO) with
      | false => exact trivial
      | true =>
        rw [cond_true]
        simp only [Bool.and_eq_true] at hk
        have hz : z ≠ .sh := by rintro rfl; cases hk.2
        have hl : (cast (congrArg List (τ.aged_den (Qc.cl cl))) l).length = l.length := cast_len (Tp.aged_den (Qc.cl cl) τ) _ _
        rcases hr with ⟨q1, q2⟩ | ⟨g, cs, cap, q1, q2, q3, q4, q5, q6⟩
        · exact .inl ⟨q1, by show (cast (congrArg List (τ.aged_den (Qc.cl cl))) l).length = 0; rw [hl]; exact q2⟩
        · refine .inr ⟨g, cs, cap, q1, q2, by rw [Tp.aged_size]; exact q3, by show (cast (congrArg List (τ.aged_den (Qc.cl cl))) l).length ≤ cap; rw [hl]; exact q4, ⟨q5.1, fun h0 => absurd h0 hz, by rw [Tp.aged_size]; show Room z cs τ.size (cast (congrArg List (τ.aged_den (Qc.cl cl))) l).length cap; rw [hl]; exact q5.2.2⟩, fun i j hi hj => ?_⟩
          have hi' : i < (cast (congrArg List (τ.aged_den (Qc.cl cl))) l).length := hi
          rw [Tp.aged_size] at hj ⊢
          obtain ⟨r1, r2⟩ := q6 i j (by rw [hl] at hi'; exact hi') hj
          refine ⟨r1, ?_⟩
          have e2 : (cast (congrArg List (τ.aged_den (Qc.cl cl))) l).getD i (dflt (τ.aged (Qc.cl cl))) = cast (Tp.aged_den (Qc.cl cl) τ) (l.getD i (dflt τ)) := by
            rw [← cast_list (Tp.aged_den (Qc.cl cl) τ) (congrArg List (τ.aged_den (Qc.cl cl))) l i (dflt τ)]
            simp only [List.getD_eq_getElem?_getD, List.getElem?_eq_getElem hi']
            rfl
          show (cellT (τ.aged (Qc.cl cl)) ((cast (congrArg List (τ.aged_den (Qc.cl cl))) l).getD i (dflt (τ.aged (Qc.cl cl)))) j).rel _ w _
          rw [e2]
          exact aged_cell (cl_wr cl) hup τ _ j r2
    | _ => exact trivial
  · obtain ⟨o1, k1, k2⟩ := hback id o ho hl
    exact ⟨.inr (.inr ⟨id, o, ho, hl, hg⟩), (h.hi id o1 g k1 k2 hg).2⟩
  · obtain ⟨q1, k1, k2⟩ := hback id o h1 l1
    obtain ⟨q2, k3, k4⟩ := hback id' o' h2 l2
    exact h.inj id id' q1 q2 g k1 k3 k2 k4 p1 p2
  · have hn : σ.st.O id = none := h.nx id hid
    rw [hO] at hn
    rw [hO']
    cases hq : σ.O id with
    | none => rfl
    | some o => rw [hq] at hn; cases hn
  · exact ⟨fun g hg hm => ⟨rfl, fun ho => hm (.inr ho)⟩, fun g k hg hm => ⟨rfl, fun ho => hm (.inr (own_of_ownc ho))⟩, fun id o ho => by cases ho⟩
  · refine ⟨fun p hp k v hv => ?_, fun p hp => ?_⟩
    · obtain ⟨g1, g2⟩ := h.gl.1 p hp k v hv
      have g3 := hup .old _ _ (World.block_lt_of_cell? w _ g2) g1
      exact ⟨by cases cl <;> exact g3, g2⟩
    · obtain ⟨ad, g1, g2⟩ := h.gl.2 p hp
      have g3 := hup .old _ _ (World.block_lt_of_cell? w _ g2) g1
      exact ⟨ad, by cases cl <;> exact g3, g2⟩
def rbE (E : Env) (w' : World) : Env := ⟨w', fun _ => none, fun _ => none, fun q g k => q ≠ .new ∧ E.ok q g k, fun g => (E.W.heap.size ≤ g ∨ E.X g) ∧ g < w'.heap.size⟩
theorem safe_ok (md : Bool) {σ : DSt} {m : Nat} {ts : List Nat} (hE : KE m true E) (h : Rel E ρ σ.st a w) (hN : a'.tmps.size = a.tmps.size) (hd : a'.defers = a.defers) (ht : ∀ t, t ∉ ts → a'.tmps.getD t undef = a.tmps.getD t undef) (hs : Scrib (fun g k => okb E.b ρ σ.st.O (Qc.wc md) g k) w w') :
    ∃ E' ρ', StepZ true E E' ∧ KE m true E' ∧ Rel E' ρ' (σ.safe md ts).st a' w' := by
  obtain ⟨z1, z2, z3, z4⟩ := hE.zn rfl
  have hO : ∀ id, σ.st.O id = (σ.O id).map DOb.toOb := fun id => lo_map σ.ob id
  have hO' : ∀ id, (σ.safe md ts).st.O id = (σ.O id).map fun o => (o.safe md σ.O).toOb := fun id => by
    have : (σ.safe md ts).st.O id = (dlo (σ.ob.map fun p => (p.1, p.2.safe md σ.O)) id).map DOb.toOb := lo_map _ id
    rw [this, dlo_map, Option.map_map]
    rfl
  have hback : ∀ id o', (σ.safe md ts).st.O id = some o' → o'.live = true → ∃ o, σ.st.O id = some o ∧ o.live = true := fun id o' ho hl => by
    rw [hO'] at ho
    obtain ⟨d, hd, rfl⟩ := Option.map_eq_some_iff.1 ho
    refine ⟨d.toOb, by rw [hO, hd]; rfl, ?_⟩
    cases d with
    | arr z e τ v l =>
      simp only [DOb.safe] at hl
      cases hk : (md && z.isO) with
      | false => rw [hk] at hl; cases hl
      | true => simp only [Bool.and_eq_true] at hk; cases z <;> first | (cases hk.2; done) | rfl
    | _ => first | rfl | cases hl
  have hown : ∀ g, own ρ (σ.safe md ts).st.O g → own ρ σ.st.O g := fun g ⟨id, o', h1, h2, h3⟩ => by
    obtain ⟨o, k1, k2⟩ := hback id o' h1 h2
    exact ⟨id, o, k1, k2, h3⟩
  have hownc : ∀ g k, own ρ (σ.safe md ts).st.O g → ownc ρ σ.st.O g k := fun g k ⟨id, o', h1, h2, h3⟩ => by
    rw [hO'] at h1
    obtain ⟨d, hd, rfl⟩ := Option.map_eq_some_iff.1 h1
    refine ⟨id, d.toOb, by rw [hO, hd]; rfl, ?_, h3, ?_⟩
    · obtain ⟨o1, k1, k2⟩ := hback id _ (by rw [hO', hd]; rfl) h2
      rw [hO, hd] at k1
      cases k1
      exact k2
    · cases d with
      | arr z e τ v l =>
        simp only [DOb.safe] at h2
        cases hk : (md && z.isO) with
        | false => rw [hk] at h2; cases h2
        | true => simp only [Bool.and_eq_true] at hk; cases z <;> first | (cases hk.2; done) | exact Nat.zero_le _
      | _ => first | exact Nat.zero_le _ | cases h2
  have hfr : ∀ g, g < w'.heap.size → (E.W.heap.size ≤ g ∨ E.mine g) → (rbE E w').X g := fun g hg hk => ⟨hk.imp id (ke_mine hE), hg⟩
  have hX : ∀ g, (rbE E w').mine g → E.W.heap.size ≤ g ∨ E.X g := fun g hg => hg.elim (fun ⟨id, o, ho, _⟩ => by cases ho) And.left
  refine ⟨rbE E w', ρ, .inr ⟨rfl, Nat.le_trans h.bs hs.size, fun g hg hm hk => ?_, hs.os.trans h.os, hs.tape.trans h.tape, hs.output.trans h.output⟩, ⟨fun _ _ => rfl, fun _ => ⟨fun _ => rfl, fun g k hk => hk.1 rfl, fun g k hk => ?_, fun g k hk => ⟨?_, fun k' hk' => (z4 g k hk.2).2 k' hk'.2⟩⟩⟩, ?_⟩
  · have hg' : g < w.heap.size := Nat.lt_of_lt_of_le hg h.bs
    obtain ⟨k1, k2⟩ := h.ext.keep g hg hm
    refine ⟨(hs.block g hg' fun k hk' => ?_).trans k1, fun hh => ?_, fun k hk' => hk k hk'.2⟩
    · cases md with
      | false =>
        rcases ke_new hE hk'.1 with h1 | h1
        · omega
        · exact hm (.inr h1)
      | true => exact hk k (ke_mid hE hk'.1)
    · rcases hX g hh with h1 | h1
      · omega
      · exact hm (.inr h1)
  · obtain ⟨h1, h2⟩ := z3 g k hk.2
    exact ⟨Nat.lt_of_lt_of_le h1 (Nat.le_trans h.bs hs.size), fun hx => hx.1.elim (fun h3 => by omega) h2⟩
  · obtain ⟨h1, h2⟩ := (z4 g k hk.2).1
    exact ⟨Nat.lt_of_lt_of_le h1 (Nat.le_trans h.bs hs.size), fun hx => hx.1.elim (fun h3 => by omega) h2⟩
  have hup : ∀ q g k, Qc.sf md q = true → g < w.heap.size → okb E.b ρ σ.st.O q g k → look w' g k = look w g k ∧ okb (rbE E w').b ρ (σ.safe md ts).st.O q g k := fun q g k hq hg hk => by
    refine ⟨look_of_block (hs.block g hg fun k' hk' => ke_apart hE h.le hq hk.1 hk'.1), ?_, fun ho => hk.2 (hownc g k (own_of_ownc ho))⟩
    rcases hk.1 with h1 | ⟨h1, h2⟩
    · exact .inl ⟨fun e => by subst e; exact z2 g k h1, h1⟩
    · exact .inr ⟨h1, .inr (.inr (hfr g (Nat.lt_of_lt_of_le hg hs.size) h2))⟩
  have hblk : ∀ id g zz e τ ver l, (md && Zz.isO zz) = true → σ.O id = some (.arr zz e τ ver l) → ρ id = some g → w'.heap[g]? = w.heap[g]? := fun id g zz e τ ver l hk hd hg => by
    have ho : σ.st.O id = some (DOb.arr zz e τ ver l).toOb := by rw [hO, hd]; rfl
    simp only [Bool.and_eq_true] at hk
    obtain ⟨rm, rfl⟩ : ∃ rm, zz = .own rm := by cases zz <;> first | exact ⟨_, rfl⟩ | cases hk.2
    exact hs.block g (h.hi id _ g ho rfl hg).2 fun k hk' => hk'.2 ⟨id, _, ho, rfl, hg, Nat.zero_le _⟩
  refine ⟨fun t => ?_, hN.trans h.N, fun id o ho => ?_, fun id o g ho hl hg => ?_, fun id id' o o' g h1 h2 l1 l2 p1 p2 => ?_, fun id hid => ?_, ?_, Nat.le_refl _, rfl, rfl, rfl, hd.trans h.df, ?_, ⟨fun q g k hk => ⟨nofun, h.le.1 q g k hk.2⟩, fun q g k hq hk => ⟨nofun, h.le.2 q g k hq hk.2⟩⟩⟩
  · have ht' := h.tm t
    have e1 : σ.st.get t = (σ.get t).toV := lk_map σ.tm t
    have e2 : (σ.safe md ts).st.get t = (if t ∈ ts then DV.dead else (σ.get t).safe md σ.O).toV := by
      have : (σ.safe md ts).st.get t = (dlk (ts.map (fun t => (t, .dead)) ++ σ.tm.map fun p => (p.1, p.2.safe md σ.O)) t).toV := lk_map _ t
      rw [this, dlk_deads, dlk_safe]
      rfl
    rw [e1] at ht'
    rw [e2]
    split
    · trivial
    · rename_i hm
      rw [ht t hm]
      exact safe_rel hblk hO hO' hup _ ht'
  · rw [hO'] at ho
    obtain ⟨d, hd, rfl⟩ := Option.map_eq_some_iff.1 ho
    have hr := h.ob id d.toOb (by rw [hO, hd]; rfl)
    cases d with
    | var e n f =>
      obtain ⟨g, cs, h1, h2, h3, h4⟩ := hr
      refine ⟨g, cs, h1, ?_, h3, fun j hj => ⟨(h4 j hj).1, safe_rel hblk hO hO' hup _ (h4 j hj).2⟩⟩
      rw [hs.block g (Array.getElem?_eq_some_iff.1 h2).1 fun k hk => hk.2 ⟨id, (DOb.var e n f).toOb, by rw [hO, hd]; rfl, rfl, h1, Nat.zero_le _⟩]
      exact h2
    | arr z e τ v l =>
      have e9 : (DOb.arr z e τ v l).safe md σ.O = cond (md && z.isO) (.arr z e (τ.sfd md) v (cast (congrArg List (τ.sfd_den md)) l)) (.gone v) := rfl
      rw [e9]
      cases hk : (md && z.isO) with
      | false => exact trivial
      | true =>
        rw [cond_true]
        have hz : z ≠ .sh := by rintro rfl; simp only [Bool.and_eq_true] at hk; cases hk.2
        have hl : (cast (congrArg List (τ.sfd_den md)) l).length = l.length := cast_len (Tp.sfd_den md τ) _ _
        rcases hr with ⟨q1, q2⟩ | ⟨g, cs, cap, q1, q2, q3, q4, q5, q6⟩
        · exact .inl ⟨q1, by show (cast (congrArg List (τ.sfd_den md)) l).length = 0; rw [hl]; exact q2⟩
        · refine .inr ⟨g, cs, cap, q1, by rw [hblk id g _ _ _ _ _ hk hd q1]; exact q2, by rw [Tp.sfd_size]; exact q3, by show (cast (congrArg List (τ.sfd_den md)) l).length ≤ cap; rw [hl]; exact q4, ⟨q5.1, fun h0 => absurd h0 hz, by rw [Tp.sfd_size]; show Room z cs τ.size (cast (congrArg List (τ.sfd_den md)) l).length cap; rw [hl]; exact q5.2.2⟩, fun i j hi hj => ?_⟩
          have hi' : i < (cast (congrArg List (τ.sfd_den md)) l).length := hi
          rw [Tp.sfd_size] at hj ⊢
          obtain ⟨r1, r2⟩ := q6 i j (by rw [hl] at hi'; exact hi') hj
          refine ⟨r1, ?_⟩
          have e2 : (cast (congrArg List (τ.sfd_den md)) l).getD i (dflt (τ.sfd md)) = cast (Tp.sfd_den md τ) (l.getD i (dflt τ)) := by
            rw [← cast_list (Tp.sfd_den md τ) (congrArg List (τ.sfd_den md)) l i (dflt τ)]
            simp only [List.getD_eq_getElem?_getD, List.getElem?_eq_getElem hi']
            rfl
          show (cellT (τ.sfd md) ((cast (congrArg List (τ.sfd_den md)) l).getD i (dflt (τ.sfd md))) j).rel _ w' _
          rw [e2]
          exact sfd_cell hup τ _ j r2
    | _ => exact trivial
  · obtain ⟨o1, k1, k2⟩ := hback id o ho hl
    exact ⟨.inr (.inr (hfr g (Nat.lt_of_lt_of_le (h.hi id o1 g k1 k2 hg).2 hs.size) (h.hi id o1 g k1 k2 hg).1)), Nat.lt_of_lt_of_le (h.hi id o1 g k1 k2 hg).2 hs.size⟩
  · obtain ⟨q1, k1, k2⟩ := hback id o h1 l1
    obtain ⟨q2, k3, k4⟩ := hback id' o' h2 l2
    exact h.inj id id' q1 q2 g k1 k3 k2 k4 p1 p2
  · have hn : σ.st.O id = none := h.nx id hid
    rw [hO] at hn
    rw [hO']
    cases hq : σ.O id with
    | none => rfl
    | some o => rw [hq] at hn; cases hn
  · have hmy : ∀ g, own ρ (σ.safe md ts).st.O g → (rbE E w').X g := fun g ⟨id, o, h1, h2, h3⟩ => by
      obtain ⟨o1, k1, k2⟩ := hback id o h1 h2
      have := h.hi id o1 g k1 k2 h3
      exact hfr g (Nat.lt_of_lt_of_le this.2 hs.size) this.1
    exact ⟨fun g hg hm => ⟨rfl, fun ho => hm (.inr (hmy g ho))⟩, fun g k hg hm => ⟨rfl, fun ho => hm (.inr (hmy g (own_of_ownc ho)))⟩, fun id o ho => by cases ho⟩
  · refine ⟨fun p hp k v hv => ?_, fun p hp => ?_⟩
    · obtain ⟨g1, g2⟩ := h.gl.1 p hp k v hv
      obtain ⟨g3, g4⟩ := hup .old _ _ (by cases md <;> rfl) (World.block_lt_of_cell? w _ g2) g1
      exact ⟨g4, (look_cell g3).trans g2⟩
    · obtain ⟨ad, g1, g2⟩ := h.gl.2 p hp
      obtain ⟨g3, g4⟩ := hup .old _ _ (by cases md <;> rfl) (World.block_lt_of_cell? w _ g2) g1
      exact ⟨ad, g4, (look_cell g3).trans g2⟩
end

def DC.calm : DC → Bool
  | .zone .. => false
  | .age .. => false
  | .scr .. => false
  | .seq x y => x.calm && y.calm
  | .join _ x y => x.calm && y.calm
  | .cond _ x y => x.calm && y.calm
  | .block _ x => x.calm
  | .loop _ x => x.calm
  | _ => true
theorem fit1_ok {R : Type} {r : R} {τ : Tp} {v : DV} {k : den τ → Option R} (h : fit1 τ v k = some r) : ∃ x, k x = some r ∧ ∀ (b : Sees) (ρ : Pl) (O : Ow) (w : World) (u : Value), Mono b → v.toV.rel b ρ O w u → (cellT τ x 0).rel (okb b ρ O) w u := by
  unfold fit1 at h
  split at h
  · rename_i τ' x
    split at h
    · rename_i y hy
      unfold castLe at hy
      split at hy
      · rename_i hle
        cases hy
        exact ⟨_, h, fun b ρ O w u hm hu => Tp.leb_cell hle x 0 _ _ _ hm.okb hu⟩
      · cases hy
    · cases h
  · rename_i v
    have e0 := cond_some h; clear h; obtain ⟨hv, h⟩ := e0
    cases τ with
    | sl q e => exact ⟨[], h, fun b ρ O w u hm hu => by rw [isNil_eq hv] at hu; exact le_nil _ _ _ hm.okb hu⟩
    | _ => cases h
  · cases h
theorem fitD_ok {R : Type} {r : R} : ∀ {τ : Tp} {f : Nat → DV} {k : den τ → Option R}, fitD τ f k = some r → ∃ x : den τ, k x = some r ∧ ∀ (b : Sees) (ρ : Pl) (O : Ow) (w : World) (j : Nat) (u : Value), Mono b → j < τ.size → (f j).toV.rel b ρ O w u → (cellT τ x j).rel (okb b ρ O) w u := by
  intro τ
  have one : ∀ {τ : Tp} {f : Nat → DV} {k : den τ → Option R}, τ.size = 1 → fit1 τ (f 0) k = some r → ∃ x : den τ, k x = some r ∧ ∀ (b : Sees) (ρ : Pl) (O : Ow) (w : World) (j : Nat) (u : Value), Mono b → j < τ.size → (f j).toV.rel b ρ O w u → (cellT τ x j).rel (okb b ρ O) w u := by
    intro τ f k h1 h
    obtain ⟨x, e1, e2⟩ := fit1_ok h
    refine ⟨x, e1, fun b ρ O w j u hm hj hu => ?_⟩
    obtain rfl : j = 0 := by omega
    exact e2 b ρ O w u hm hu
  induction τ with
  | unit => intro f k h; exact ⟨(), h, fun b ρ O w j u _ hj => absurd hj (Nat.not_lt_zero _)⟩
  | pair c d ih1 ih2 =>
    intro f k h
    obtain ⟨x, h, hx⟩ := ih1 (k := fun x => fitD d (fun j => f (j + c.size)) fun y => k (x, y)) h
    obtain ⟨y, h, hy⟩ := ih2 h
    refine ⟨(x, y), h, fun b ρ O w j u hm hj hu => ?_⟩
    simp only [cellT]
    split
    · rename_i hjc; exact hx b ρ O w j u hm hjc hu
    · rename_i hjc
      have hj' : j < c.size + d.size := hj
      exact hy b ρ O w (j - c.size) u hm (by omega) (by rw [Nat.sub_add_cancel (by omega)]; exact hu)
  | bool => intro f k h; exact one rfl h
  | str => intro f k h; exact one rfl h
  | int q => intro f k h; exact one rfl h
  | hv κ => intro f k h; exact one rfl h
  | op e => intro f k h; exact one rfl h
  | sl q e _ => intro f k h; exact one rfl h
theorem fitA_ok {R : Type} {r : R} {ag : Bool} {τ : Tp} {v : DV} {k : den τ → Option R} (h : fitA ag τ v k = some r) : ∃ x : den τ, k x = some r ∧ ∀ (b : Sees) (ρ : Pl) (O : Ow) (w : World) (u : Value), Mono b → v.toV.rel b ρ O w u → SlotHas ag τ x (okb b ρ O) w u := by
  have flat : ∀ v : DV, cond (!ag && Nat.beq τ.size 1) (fitD τ (fun _ => v) k) none = some r → ∃ x : den τ, k x = some r ∧ ∀ (b : Sees) (ρ : Pl) (O : Ow) (w : World) (u : Value), Mono b → v.toV.rel b ρ O w u → SlotHas ag τ x (okb b ρ O) w u := by
    intro v h
    have e0 := cond_some h; clear h; obtain ⟨h1, h⟩ := e0
    simp only [Bool.and_eq_true, Bool.not_eq_true'] at h1
    obtain ⟨x, e1, e2⟩ := fitD_ok h
    refine ⟨x, e1, fun b ρ O w u hm hu => ?_⟩
    unfold SlotHas
    rw [h1.1, if_neg (by simp)]
    exact e2 b ρ O w 0 u hm (by rw [nbeq h1.2]; exact Nat.zero_lt_one) hu
  unfold fitA at h
  split at h
  · rename_i n f
    have e0 := cond_some h; clear h; obtain ⟨h1, h⟩ := e0
    simp only [Bool.and_eq_true] at h1
    obtain ⟨x, e1, e2⟩ := fitD_ok h
    refine ⟨x, e1, fun b ρ O w u hm hu => ?_⟩
    obtain ⟨cs, e, q1, q2⟩ := hu
    unfold SlotHas
    rw [h1.1, if_pos rfl]
    exact ⟨cs, e, q1.trans (nbeq h1.2), fun j hj => e2 b ρ O w j _ hm hj (q2 j (by rw [nbeq h1.2]; exact hj)).2⟩
  · exact flat _ h
end Go.Proofs.Ytlmnhbobgfpanaa
