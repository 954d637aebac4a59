/-
  That the program's operations do what the states say (3): values.
-/
import Derived.Test.YtlglifgnklngfaaTrE
namespace Go.Proofs.Ytlglifgnklngfaa
open Go.RowKit

section
variable {P : Program} {E : Env} {ρ : Pl} {σ : St} {a : Act} {w : World} {o : Oper} {fr : Nat} {K : Act → World → Prop} {Q : Exit → Act → World → Prop}

theorem faddr_ok (h : Rel E ρ σ a w) (hd : ∀ t, o.dst = some t → t < σ.N) (s : TypeId) (x : Operand) (q off : Nat) (ho : o.op = .fieldAddr s x q) (hc : comp P o = some (.faddr off x)) {rd v ups}
    (k : (asem σ fr (.faddr off x)).wp P σ.O fr fun a b c => a = rd ∧ b = v ∧ c = ups) : Comes' P E (σ.upd o.dst v ups) o a w := by
  have hx := aev_rel h x
  have hrun : ∀ ad, a.eval x = .pointer (some ad) → (execOp a.eval o).run P w = .ok (.value (.pointer (some (ad.add off)))) w := by
    intro ad he
    unfold comp at hc
    rw [ho] at hc
    simp only at hc
    split at hc <;> try (simp at hc; done)
    rename_i fs h1
    split at hc <;> try (simp at hc; done)
    rename_i f h2
    split at hc <;> try (simp at hc; done)
    rename_i j h3
    split at hc <;> try (simp at hc; done)
    rename_i h4
    simp only [Option.some.injEq, AOp.faddr.injEq, and_true] at hc
    subst hc
    simp [execOp, ho, Instr.fieldAt, run_underlying h1, h2, he, Instr.sureAddr, fieldPlace, sizeOf, typeInfo, h3, h4, Result.andThen]
  simp only [asem] at k
  split at k
  · rename_i id ver i j e
    rw [e] at hx
    obtain ⟨pa, ob, e1, e2, e3, e4⟩ := hx
    obtain ⟨-, rfl, rfl⟩ := k
    refine comes_value h hd (hrun _ e1) ⟨_, ob, rfl, e2, e3, fun hv hl => ?_⟩
    obtain ⟨g, hg, rfl⟩ := e4 hv hl
    exact ⟨g, hg, by rw [add_mk, Nat.add_assoc]⟩
  · rename_i size n f i j e
    rw [e] at hx
    obtain ⟨ad, e1, e2, es, e3⟩ := hx
    obtain ⟨-, rfl, rfl⟩ := k
    exact comes_value h hd (hrun _ e1) ⟨ad, by rw [add_add _ _ _ es, Nat.add_assoc], e2, es, e3⟩
  · exact k.1.elim

theorem addr_of_sl {ok : Nat → Nat → Prop} {A : Option Addr} {size n : Nat} {f : Nat → Nat → T} {w : World} (hn : 0 < n) (hs : 0 < size)
    (h : ∀ i j, i < n → j < size → ∃ ad u, A = some ad ∧ ok ad.block (ad.off + (i * size + j)) ∧ w.cell? (ad.add (i * size + j)) = some u ∧ u.oneCell' = true ∧ (f i j).rel ok w u) :
    ∃ ad, A = some ad ∧ ad.spot = none ∧ ∀ i j, i < n → j < size → ok ad.block (ad.off + (i * size + j)) ∧ ∃ u, w.cell? (ad.add (i * size + j)) = some u ∧ u.oneCell' = true ∧ (f i j).rel ok w u := by
  obtain ⟨ad, u, rfl, hok, hc, _⟩ := h 0 0 hn hs
  refine ⟨ad, rfl, ?_, fun i j hi hj => ?_⟩
  · have := spot_of_cell hc
    simpa [Addr.add] using this
  · obtain ⟨ad', u, e, h1, h2, h3, h4⟩ := h i j hi hj
    cases e
    exact ⟨h1, u, h2, h3, h4⟩

theorem iaddr_ok (h : Rel E ρ σ a w) (hd : ∀ t, o.dst = some t → t < σ.N) (t : TypeId) (x i : Operand) (sz : Nat) (ho : o.op = .indexAddr t x i) (hc : comp P o = some (.iaddr sz x i)) {rd v ups}
    (k : (asem σ fr (.iaddr sz x i)).wp P σ.O fr fun a b c => a = rd ∧ b = v ∧ c = ups) : Comes' P E (σ.upd o.dst v ups) o a w := by
  have hx := aev_rel h x
  have hi := aev_rel h i
  have hrun : 0 < sz ∧ ∀ ad len c kk (q : Int), a.eval x = .slice (some ad) len c → a.eval i = .int kk q → 0 ≤ q → q < len → (execOp a.eval o).run P w = .ok (.value (.pointer (some (ad.add (q.toNat * sz))))) w := by
    unfold comp at hc
    rw [ho] at hc
    simp only at hc
    split at hc <;> try (simp at hc; done)
    · rename_i e h1
      split at hc <;> try (simp at hc; done)
      rename_i j h2
      split at hc <;> try (simp at hc; done)
      rename_i h3
      simp only [Option.some.injEq, AOp.iaddr.injEq, and_true] at hc
      subst hc
      refine ⟨by omega, fun ad len c kk q he hi h0 hl => ?_⟩
      simp [execOp, ho, Instr.indexAt, run_underlying h1, he, hi, asIntOf, sizeOf, typeInfo, h2, h0, hl, Result.andThen]
    · split at hc <;> (try split at hc) <;> simp at hc
  obtain ⟨hsz, hrun⟩ := hrun
  simp only [asem] at k
  split at k
  · rename_i kk q e
    rw [e] at hi
    have hi' : a.eval i = .int kk q := hi
    split at k
    · rename_i id ver off len e
      rw [e] at hx
      obtain ⟨A, c, ob, e1, e2, e3, e4, e5⟩ := hx
      obtain ⟨ob', e3', k⟩ := k
      rw [e3] at e3'
      cases e3'
      cases ob with
      | map => exact k.1.elim
      | gone v => exact k.1.elim
      | var el size f => exact k.1.elim
      | arr zz el size ver' n f =>
        obtain ⟨⟨rfl, rfl, h0, hl⟩, -, rfl, rfl⟩ := k
        obtain ⟨_, _, _, _, _, hob, hoff, hp⟩ := e5 rfl
        cases hob
        rcases hp with ⟨p1, p2, p3, p4⟩ | ⟨g, cs, p1, p2, p3, p4⟩
        · omega
        · have hA := p2 (.inl (by omega))
          subst hA
          refine comes_value h hd (hrun _ _ _ _ _ e1 hi' h0 hl) ⟨_, _, rfl, e3, Nat.le_refl _, fun _ _ => ⟨g, p1, ?_⟩⟩
          rw [add_mk, ← Nat.add_mul]
          rfl
    · rename_i size n f e
      rw [e] at hx
      obtain ⟨A, c, e1, e2, e3⟩ := hx
      obtain ⟨⟨rfl, h0, hl⟩, -, rfl, rfl⟩ := k
      obtain ⟨ad, rfl, hs, hcl⟩ := addr_of_sl (by omega) hsz e3
      exact comes_value h hd (hrun _ _ _ _ _ e1 hi' h0 hl) ⟨ad, rfl, by omega, hs, fun m hm => hcl _ _ (by omega) hm⟩
    · exact k.1.elim
  · exact k.1.elim

theorem bin_ok (h : Rel E ρ σ a w) (hd : ∀ t, o.dst = some t → t < σ.N) (op : BinOp) (t t' : TypeId) (x y : Operand) (ho : o.op = .binOp op t x y t') {rd v ups}
    (k : (asem σ fr (.bin op x y)).wp P σ.O fr fun a b c => a = rd ∧ b = v ∧ c = ups) : Comes' P E (σ.upd o.dst v ups) o a w := by
  have hx := aev_rel h x
  have hy := aev_rel h y
  simp only [asem] at k
  split at k
  · rename_i u v e1 e2
    rw [e1] at hx
    rw [e2] at hy
    have hx' : a.eval x = u := hx
    have hy' : a.eval y = v := hy
    obtain ⟨hp, -, rfl, rfl⟩ := k
    have hg : (eqGuard op t x y u v).run P w = .ok () w := by
      cases u <;> cases v <;> simp only [abin] at hp <;> first | exact hp.elim | skip
      all_goals
        unfold eqGuard
        cases op <;> simp
    refine comes_value h hd ?_ (v := .im (.val _)) rfl
    simp [execOp, ho, hx', hy', hg, abin_ok w hp, Result.andThen]
  · exact k.1.elim

theorem equalIn_bool {t : TypeId} (hu : P.underlying t = some .bool) (d : Nat) (u v : Bool) (w : World) : (Op.equalIn (d + 1) t (.bool u) (.bool v)).run P w = .ok (u == v) w := by
  simp [Op.equalIn, run_underlying hu, Result.andThen]
theorem equal_bool {t : TypeId} (hu : P.underlying t = some .bool) (u v : Bool) (w : World) : (Op.equal t (.bool u) (.bool v)).run P w = .ok (u == v) w := equalIn_bool hu 9999 u v w

theorem beq_ok (h : Rel E ρ σ a w) (hd : ∀ t, o.dst = some t → t < σ.N) (op : BinOp) (t t' : TypeId) (x y : Operand) (neg : Bool) (ho : o.op = .binOp op t x y t') (hc : comp P o = some (.beq neg x y)) {rd v ups}
    (k : (asem σ fr (.beq neg x y)).wp P σ.O fr fun a b c => a = rd ∧ b = v ∧ c = ups) : Comes' P E (σ.upd o.dst v ups) o a w := by
  have hx := aev_rel h x
  have hy := aev_rel h y
  simp only [asem] at k
  split at k
  · rename_i u v e1 e2
    rw [e1] at hx
    rw [e2] at hy
    have hx' : a.eval x = .bool u := hx
    have hy' : a.eval y = .bool v := hy
    obtain ⟨-, rfl, rfl⟩ := k
    have hr : (execOp a.eval o).run P w = .ok (.value (.bool (if neg then !(u == v) else u == v))) w := by
      unfold comp at hc
      rw [ho] at hc
      simp only at hc
      split at hc <;> first | (obtain ⟨_, _, e⟩ := nilQ_pure hc; cases e; done) | skip
      all_goals try simp only [Option.some.injEq, AOp.beq.injEq, reduceCtorEq, and_true, Option.map_eq_some_iff, and_false, exists_false] at hc
      · rename_i h1
        subst hc
        simp [execOp, ho, hx', hy', eqGuard, binOp, equal_bool h1, Result.andThen]
      · rename_i h1
        subst hc
        simp [execOp, ho, hx', hy', eqGuard, binOp, equal_bool h1, Result.andThen]
    exact comes_value h hd hr (v := .im (.val _)) rfl
  · exact k.1.elim

theorem sub_rel {b : Nat → Nat → Prop} {ρ : Pl} {O : Ow} {w : World} {v : V} {u : Value} {n : Nat} {f : Nat → V} (h : V.rel b ρ O w v u) (hs : v.sub = some (n, f)) : ∃ cs : Array Value, u = .agg cs ∧ cs.size = n ∧ ∀ j, j < n → ∀ a, vval f j = some a → cs[j]? = some a := by
  unfold V.sub at hs
  split at hs <;> simp only [Option.some.injEq, Prod.mk.injEq, reduceCtorEq] at hs
  · obtain ⟨rfl, rfl⟩ := hs
    obtain ⟨cs, e2, e3, e4⟩ := h
    refine ⟨cs, e2, e3, fun j hj a ha => ?_⟩
    have := (e4 j hj).2
    unfold vval at ha
    split at ha <;> simp only [Option.some.injEq, reduceCtorEq] at ha
    rename_i q hq
    subst ha
    rw [hq] at this
    have h1 : cs.getD j undef = q := this
    rw [← h1, getD_some (show j < cs.size by omega)]
  · obtain ⟨rfl, rfl⟩ := hs
    obtain ⟨cs, e2, e3, e4⟩ := h
    refine ⟨cs, e2, e3, fun j hj a ha => ?_⟩
    have := (e4 j hj).2
    unfold vval at ha
    split at ha <;> simp only [Option.some.injEq, reduceCtorEq] at ha
    rename_i q hq
    subst ha
    simp only [V.im.injEq] at hq
    rw [hq] at this
    have h1 : cs.getD j undef = q := this
    rw [← h1, getD_some (show j < cs.size by omega)]
theorem cellsEq_mono {f g f' g' : Nat → Option Value} : ∀ {ks : List Kd} {j : Nat} {r : Bool}, (∀ i, j ≤ i → i < j + ks.length → ∀ a, f i = some a → f' i = some a) → (∀ i, j ≤ i → i < j + ks.length → ∀ a, g i = some a → g' i = some a) → cellsEq f g ks j = some r → cellsEq f' g' ks j = some r
  | [], _, _, _, _, h => h
  | k :: ks, j, r, hf, hg, h => by
    simp only [cellsEq] at h ⊢
    split at h
    · rename_i a b ha hb
      rw [hf j (Nat.le_refl _) (by simp) a ha, hg j (Nat.le_refl _) (by simp) b hb]
      simp only
      split at h
      · rename_i u v e1 e2
        rw [e1, cellsEq_mono (fun i h1 h2 => hf i (by omega) (by simp; omega)) (fun i h1 h2 => hg i (by omega) (by simp; omega)) e2]
        exact h
      · cases h
    · cases h
theorem seq_ok (h : Rel E ρ σ a w) (hd : ∀ t, o.dst = some t → t < σ.N) (op : BinOp) (t t' : TypeId) (x y : Operand) (neg : Bool) (ks : List Kd) (ho : o.op = .binOp op t x y t') (hn : op = if neg then .neq else .eql) (hc : flatEq P t = some ks) {rd v ups}
    (k : (asem σ fr (.seq neg ks x y)).wp P σ.O fr fun a b c => a = rd ∧ b = v ∧ c = ups) : Comes' P E (σ.upd o.dst v ups) o a w := by
  have hx := aev_rel h x
  have hy := aev_rel h y
  simp only [asem] at k
  split at k
  · rename_i n f m g e1 e2
    split at k
    · rename_i r he
      obtain ⟨⟨rfl, rfl⟩, -, rfl, rfl⟩ := k
      obtain ⟨xs, x1, x2, x3⟩ := sub_rel hx e1
      obtain ⟨ys, y1, y2, y3⟩ := sub_rel hy e2
      have he' := cellsEq_mono (f' := fun i => xs[i]?) (g' := fun i => ys[i]?) (fun i _ hi => x3 i (by omega)) (fun i _ hi => y3 i (by omega)) he
      obtain ⟨q1, q2⟩ := run_flatEq w (neg := neg) hn hc he'
      exact comes_value h hd (by simp [execOp, ho, x1, y1, q1, q2, Result.andThen]) (v := .im (.val _)) rfl
    · exact k.1.elim
  · exact k.1.elim
theorem not_ok (h : Rel E ρ σ a w) (hd : ∀ t, o.dst = some t → t < σ.N) (t : TypeId) (x : Operand) (ho : o.op = .unOp .not t x) {rd v ups}
    (k : (asem σ fr (.not x)).wp P σ.O fr fun a b c => a = rd ∧ b = v ∧ c = ups) : Comes' P E (σ.upd o.dst v ups) o a w := by
  have hx := aev_rel h x
  simp only [asem] at k
  split at k
  · rename_i u e1
    rw [e1] at hx
    have hx' : a.eval x = .bool u := hx
    obtain ⟨-, rfl, rfl⟩ := k
    exact comes_value h hd (by simp [execOp, ho, hx', Op.unary]) (v := .im (.val _)) rfl
  · exact k.1.elim

theorem conv_ok (h : Rel E ρ σ a w) (hd : ∀ t, o.dst = some t → t < σ.N) (s t : TypeId) (x : Operand) (q : IntKind) (ho : o.op = .convert s t x) (hc : comp P o = some (.conv q x)) {rd v ups}
    (k : (asem σ fr (.conv q x)).wp P σ.O fr fun a b c => a = rd ∧ b = v ∧ c = ups) : Comes' P E (σ.upd o.dst v ups) o a w := by
  have hx := aev_rel h x
  simp only [asem] at k
  split at k
  · rename_i kk u e1
    rw [e1] at hx
    have hx' : a.eval x = .int kk u := hx
    obtain ⟨-, rfl, rfl⟩ := k
    refine comes_value h hd ?_ (v := .im (.val _)) rfl
    unfold comp at hc
    rw [ho] at hc
    simp only at hc
    split at hc <;> try (simp at hc; done)
    · rename_i h1 h2
      simp only [Option.some.injEq, AOp.conv.injEq, and_true] at hc
      subst hc
      simp [execOp, ho, hx', convert, run_underlying h1, run_underlying h2, Conv.intToInt, Result.andThen]
    all_goals ((repeat' (split at hc)) <;> simp at hc)
  · exact k.1.elim

theorem len_ok (h : Rel E ρ σ a w) (hd : ∀ t, o.dst = some t → t < σ.N) (x : Operand) (str : Bool) (c : Call) (hcb : c.callee = .builtin .len) (ho : o.op = .call c) (hc : comp P o = some (.len str x)) {rd v ups}
    (k : (asem σ fr (.len str x)).wp P σ.O fr fun a b c => a = rd ∧ b = v ∧ c = ups) : Comes' P E (σ.upd o.dst v ups) o a w := by
  have hx := aev_rel h x
  obtain ⟨callee, args, argTypes⟩ := c
  simp only at hcb
  subst hcb
  unfold comp at hc
  rw [ho] at hc
  simp only at hc
  split at hc <;> try (simp at hc; done)
  rename_i x' t ea et
  obtain ⟨args⟩ := args
  obtain ⟨argTypes⟩ := argTypes
  simp only at ea et
  subst ea et
  have hrun : (str = true → ∀ s, a.eval x = .string s → (execOp a.eval o).run P w = .ok (.value (.int .i64 s.size)) w) ∧ (str = false → ∀ A n c, a.eval x = .slice A n c → (execOp a.eval o).run P w = .ok (.value (.int .i64 n)) w) := by
    split at hc <;> simp only [Option.some.injEq, AOp.len.injEq, reduceCtorEq] at hc
    · rename_i e hu
      obtain ⟨rfl, rfl⟩ := hc
      refine ⟨fun e => (by cases e), fun _ A n c hx' => ?_⟩
      simp [execOp, ho, resolve, invoke, builtin, Builtin.len_, hx', run_underlying hu, Result.andThen, goInt]
    · rename_i hu
      obtain ⟨rfl, rfl⟩ := hc
      refine ⟨fun _ s hx' => ?_, fun e => (by cases e)⟩
      simp [execOp, ho, resolve, invoke, builtin, Builtin.len_, hx', run_underlying hu, Result.andThen, goInt]
  simp only [asem] at k
  split at k
  · rename_i s e1
    rw [e1] at hx
    obtain ⟨hs, -, rfl, rfl⟩ := k
    exact comes_value h hd (hrun.1 hs _ hx) (v := .im (.val _)) rfl
  · rename_i s n f e1
    rw [e1] at hx
    obtain ⟨A, c, hx', -⟩ := hx
    obtain ⟨hs, -, rfl, rfl⟩ := k
    exact comes_value h hd (hrun.2 hs _ _ _ hx') (v := .im (.val _)) rfl
  · rename_i A n c e1
    rw [e1] at hx
    obtain ⟨hs, -, rfl, rfl⟩ := k
    exact comes_value h hd (hrun.2 hs _ _ _ hx) (v := .im (.val _)) rfl
  · rename_i id ver off len e1
    rw [e1] at hx
    obtain ⟨A, c, ob, hx', -⟩ := hx
    obtain ⟨hs, -, rfl, rfl⟩ := k
    exact comes_value h hd (hrun.2 hs _ _ _ hx') (v := .im (.val _)) rfl
  · exact k.1.elim

theorem ext_ok (h : Rel E ρ σ a w) (hd : ∀ t, o.dst = some t → t < σ.N) (x : Operand) (i : Nat) (ho : o.op = .extract x i) {rd v ups}
    (k : (asem σ fr (.ext x i)).wp P σ.O fr fun a b c => a = rd ∧ b = v ∧ c = ups) : Comes' P E (σ.upd o.dst v ups) o a w := by
  have hx := aev_rel h x
  simp only [asem] at k
  split at k
  · rename_i n f e1
    rw [e1] at hx
    obtain ⟨cs, e2, e3, e4⟩ := hx
    obtain ⟨hi, -, rfl, rfl⟩ := k
    refine comes_value h hd ?_ (e4 i hi)
    have hg := getD_some (show i < cs.size by omega)
    simp only [execOp, ho, Instr.extract, e2, hg, bind_pure_comp, Functor.map]
    rfl
  · exact k.1.elim

theorem ifc_ok (h : Rel E ρ σ a w) (hd : ∀ t, o.dst = some t → t < σ.N) (t : TypeId) (x : Operand) (ho : o.op = .makeInterface t x) (hc : comp P o = some (.ifc t x)) {rd v ups}
    (k : (asem σ fr (.ifc t x)).wp P σ.O fr fun a b c => a = rd ∧ b = v ∧ c = ups) : Comes' P E (σ.upd o.dst v ups) o a w := by
  have hx := aev_rel h x
  obtain ⟨-, rfl, rfl⟩ := k
  refine comes_value h hd ?_ (v := .ifc t (aev σ x)) ⟨_, rfl, hx⟩
  unfold comp at hc
  rw [ho] at hc
  simp only at hc
  cases hu : P.underlying t with
  | none => rw [hu] at hc; simp at hc
  | some d =>
    rw [hu] at hc
    cases d <;> simp only [reduceCtorEq] at hc <;> simp only [execOp, ho, Instr.makeInterface, Sem.run_bind, run_underlying hu, Result.andThen, Sem.run_pure]

theorem fn_ok (h : Rel E ρ σ a w) (hd : ∀ t, o.dst = some t → t < σ.N) (f : FuncId) (fi ca : Array Operand) (ho : o.op = .makeFunc (.func f) fi ca) {rd v ups}
    (k : (asem σ fr (.fn f fi.toList ca.toList)).wp P σ.O fr fun a b c => a = rd ∧ b = v ∧ c = ups) : Comes' P E (σ.upd o.dst v ups) o a w := by
  obtain ⟨-, rfl, rfl⟩ := k
  refine comes_value h hd (x := .func (.func f) (fi.map a.eval) (ca.map a.eval)) ?_ ⟨_, _, rfl, by simp, by simp, fun j hj => ?_, fun j hj => ?_⟩
  · simp [execOp, ho, Instr.makeFunc]
  · simp only [Array.length_toList] at hj
    have := aev_rel h fi[j]
    simpa [lf, hj] using this
  · simp only [Array.length_toList] at hj
    have := aev_rel h ca[j]
    simpa [lf, hj] using this

theorem fld_ok (h : Rel E ρ σ a w) (hd : ∀ t, o.dst = some t → t < σ.N) (t : TypeId) (x : Operand) (q : Nat) (g : Bool) (off sz : Nat) (ho : o.op = .field t x q) (hc : comp P o = some (.fld g off sz x)) {rd v ups}
    (k : (asem σ fr (.fld g off sz x)).wp P σ.O fr fun a b c => a = rd ∧ b = v ∧ c = ups) : Comes' P E (σ.upd o.dst v ups) o a w := by
  have hx := aev_rel h x
  have hrun : (g = false → sz = 1) ∧ ∀ cs : Array Value, a.eval x = .agg cs → off + sz ≤ cs.size → (execOp a.eval o).run P w = .ok (.value (if g then .agg ((List.range sz).map fun j => cs.getD (off + j) undef).toArray else cs.getD off undef)) w := by
    unfold comp at hc
    rw [ho] at hc
    simp only at hc
    split at hc <;> try (simp at hc; done)
    rename_i fs h1
    split at hc <;> try (simp at hc; done)
    rename_i f h2
    split at hc <;> simp only [Option.some.injEq, AOp.fld.injEq, reduceCtorEq] at hc
    · rename_i j h3 h4
      obtain ⟨rfl, rfl, rfl, -⟩ := hc
      refine ⟨fun e => by (cases e), fun cs he hsz => ?_⟩
      have hpart : (part f.type cs f.offset).run P w = .ok (.agg (cs.extract f.offset (f.offset + j.size))) w := by
        unfold aggT at h3
        cases hu : P.underlying f.type with
        | none => rw [hu] at h3; cases h3
        | some d =>
          rw [hu] at h3
          cases d <;> simp only at h3 <;> first | (simp at h3; done) | simp [part, isAgg, run_underlying hu, sizeOf, typeInfo, h4, Result.andThen]
      have hex : cs.extract f.offset (f.offset + j.size) = ((List.range j.size).map fun m => cs.getD (f.offset + m) undef).toArray := by
        apply Array.ext
        · simp; omega
        · intro m h5 h6
          simp at h5 h6
          simp [Array.getElem_extract, show f.offset + m < cs.size by omega]
      simp [execOp, ho, Instr.field, run_underlying h1, h2, he, asAgg, hpart, Result.andThen, hex]
    · rename_i j h3 h4
      obtain ⟨rfl, rfl, rfl, -⟩ := hc
      refine ⟨fun _ => rfl, fun cs he hsz => ?_⟩
      have hgs := getD_some (show f.offset < cs.size by omega)
      have hpart : (part f.type cs f.offset).run P w = .ok (cs.getD f.offset undef) w := by
        unfold aggT at h3
        cases hu : P.underlying f.type with
        | none => rw [hu] at h3; cases h3
        | some d =>
          rw [hu] at h3
          cases d <;> simp only at h3 <;> first | (simp at h3; done) | (simp only [part, isAgg, Sem.run_bind, run_underlying hu, Result.andThen, Sem.run_pure, hgs]; rfl)
      simp [execOp, ho, Instr.field, run_underlying h1, h2, he, asAgg, hpart, Result.andThen]
  obtain ⟨hg, hrun⟩ := hrun
  simp only [asem] at k
  split at k
  · rename_i n f e1
    rw [e1] at hx
    obtain ⟨cs, e2, e3, e4⟩ := hx
    obtain ⟨hi, -, rfl, rfl⟩ := k
    refine comes_value h hd (hrun cs e2 (by omega)) ?_
    cases g with
    | true => exact ⟨_, rfl, by simp, fun m hm => by rw [getD_range _ _ _ hm]; exact e4 _ (by omega)⟩
    | false => have := hg rfl; subst this; exact (e4 off (by omega)).2
  · rename_i n f e1
    rw [e1] at hx
    obtain ⟨cs, e2, e3, e4⟩ := hx
    obtain ⟨hi, -, rfl, rfl⟩ := k
    refine comes_value h hd (hrun cs e2 (by omega)) ?_
    cases g with
    | true => exact ⟨_, rfl, by simp, fun m hm => by rw [getD_range _ _ _ hm]; exact e4 _ (by omega)⟩
    | false => have := hg rfl; subst this; exact (e4 off (by omega)).2
  · exact k.1.elim
end
end Go.Proofs.Ytlglifgnklngfaa
