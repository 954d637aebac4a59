/-
  That the program's operations do what the states say (7b): the lesser and the greater, cuts with a limit, strings of bytes, copies.
-/
import Derived.Lib.AppendZeros
import Derived.Test.YtlmnhbobgfpanaaTrJ
namespace Go.Proofs.Ytlmnhbobgfpanaa
open Go.RowKit

section
variable {P : Program} {E : Env} {ρ : Pl} {σ : St} {a : Act} {w w' : World} {o : Oper} {fr : Nat} {K : Act → World → Prop} {Q : Exit → Act → World → Prop}

theorem mm_ok (h : Rel E ρ σ a w) (hd : ∀ t, o.dst = some t → t < σ.N) (big : Bool) (x y : Operand) (c : Call) (hcb : (c.callee = .builtin .min ∧ big = false) ∨ (c.callee = .builtin .max ∧ big = true)) (ho : o.op = .call c) (hc : comp P o = some (.mm big x y)) {rd v ups}
    (k : (asem σ fr (.mm big x y)).wp P σ.O fr fun a b c => a = rd ∧ b = v ∧ c = ups) : Comes' P E (σ.upd o.dst v ups) o a w := by
  have hx := aev_rel h x
  have hy := aev_rel h y
  simp only [asem] at k
  split at k
  · rename_i kk u kk' v e1 e2
    rw [e1] at hx
    rw [e2] at hy
    have hx' : a.eval x = .int kk u := hx
    have hy' : a.eval y = .int kk' v := hy
    obtain ⟨-, rfl, rfl⟩ := k
    refine comes_value h hd ?_ (v := .im (.val _)) rfl
    obtain ⟨callee, args, argTypes⟩ := c
    have hargs : args.toList = [x, y] := by
      unfold comp at hc
      rw [ho] at hc
      rcases hcb with ⟨rfl, rfl⟩ | ⟨rfl, rfl⟩ <;>
      · simp only at hc
        split at hc <;> simp only [Option.some.injEq, AOp.mm.injEq, reduceCtorEq] at hc
        rename_i e
        rw [e, hc.2.1, hc.2.2]
    obtain ⟨args⟩ := args
    simp only at hargs
    subst hargs
    rcases hcb with ⟨h1, rfl⟩ | ⟨h1, rfl⟩
    · simp only at h1
      subst h1
      simp [execOp, ho, resolve, invoke, builtin, Builtin.min_, hx', hy', Builtin.min2]
    · simp only at h1
      subst h1
      simp [execOp, ho, resolve, invoke, builtin, Builtin.max_, hx', hy', Builtin.max2]
  · rename_i u v e1 e2
    rw [e1] at hx
    rw [e2] at hy
    have hx' : a.eval x = .string u := hx
    have hy' : a.eval y = .string v := hy
    obtain ⟨-, rfl, rfl⟩ := k
    refine comes_value h hd ?_ (v := .im (.val _)) rfl
    obtain ⟨callee, args, argTypes⟩ := c
    have hargs : args.toList = [x, y] := by
      unfold comp at hc
      rw [ho] at hc
      rcases hcb with ⟨rfl, rfl⟩ | ⟨rfl, rfl⟩ <;>
      · simp only at hc
        split at hc <;> simp only [Option.some.injEq, AOp.mm.injEq, reduceCtorEq] at hc
        rename_i e
        rw [e, hc.2.1, hc.2.2]
    obtain ⟨args⟩ := args
    simp only at hargs
    subst hargs
    rcases hcb with ⟨h1, rfl⟩ | ⟨h1, rfl⟩
    · simp only at h1
      subst h1
      cases hb : (Op.bytesLess u.toList v.toList || u.toList == v.toList) <;> simp [execOp, ho, resolve, invoke, builtin, Builtin.min_, hx', hy', Builtin.min2, Op.stringOp, asBool, smm, hb]
    · simp only at h1
      subst h1
      cases hb : Op.bytesLess u.toList v.toList <;> simp [execOp, ho, resolve, invoke, builtin, Builtin.max_, hx', hy', Builtin.max2, Op.stringOp, asBool, smm, hb]
  · exact k.1.elim

theorem slc3_run (t : TypeId) (x : Operand) (lo hi mx : Option Operand) (sz : Nat) (ho : o.op = .slice t x lo hi mx) (hc : comp P o = some (.slc3 sz x lo hi mx)) {A : Option Addr} {n c m q l : Nat} (e1 : a.eval x = .slice A n c)
    (hm : (mx = none ∧ m = n) ∨ ∃ y kk, mx = some y ∧ a.eval y = .int kk m) (hq : (hi = none ∧ q = n) ∨ ∃ y kk, hi = some y ∧ a.eval y = .int kk q) (hl : (lo = none ∧ l = 0) ∨ ∃ y kk, lo = some y ∧ a.eval y = .int kk l)
    (h1 : l ≤ q) (h2 : q ≤ m) (h3 : m ≤ c) (h4 : hi.isSome = true) (h5 : mx.isSome = true) :
    (execOp a.eval o).run P w = .ok (.value (.slice (if m = l then A else A.map (·.add (l * sz))) (q - l) (m - l))) w := by
  obtain ⟨el, j, hu, hj, hsz⟩ : ∃ e j, P.underlying t = some (.slice e) ∧ P.info? e = some j ∧ sz = j.size := by
    unfold comp at hc
    rw [ho] at hc
    cases mx with
    | none => simp at h5
    | some mx =>
      simp only at hc
      split at hc <;> try (simp at hc; done)
      rename_i e hu
      split at hc <;> try (simp at hc; done)
      rename_i j hj
      split at hc <;> simp only [Option.some.injEq, AOp.slc3.injEq, reduceCtorEq] at hc
      exact ⟨e, j, hu, hj, hc.1.symm⟩
  obtain ⟨y, rfl⟩ := Option.isSome_iff_exists.1 h5
  obtain ⟨z, rfl⟩ := Option.isSome_iff_exists.1 h4
  obtain ⟨ky, hy⟩ : ∃ kk, a.eval y = .int kk m := by
    rcases hm with ⟨e, _⟩ | ⟨y', kk, e, g⟩
    · cases e
    · cases e; exact ⟨kk, g⟩
  obtain ⟨kz, hz'⟩ : ∃ kk, a.eval z = .int kk q := by
    rcases hq with ⟨e, _⟩ | ⟨y', kk, e, g⟩
    · cases e
    · cases e; exact ⟨kk, g⟩
  have hb : (Instr.sliceBounds true n c (lo.map a.eval) (some (a.eval z)) (some (a.eval y))).run P w = .ok (l, q, m) w := by
    have a1 : 0 ≤ (m : Int) ∧ (m : Int) ≤ (c : Int) := by omega
    have a2 : 0 ≤ (q : Int) ∧ (q : Int) ≤ (m : Int) := by omega
    have a3 : 0 ≤ (l : Int) ∧ (l : Int) ≤ (q : Int) := by omega
    rcases hl with ⟨rfl, rfl⟩ | ⟨p, kk, rfl, e7⟩
    · simp only [Instr.sliceBounds, Instr.sliceBound, asIntOf, hy, hz', Result.andThen, Option.map_none, Sem.run_bind, Sem.run_pure, if_pos a1, if_pos a2, Int.toNat_natCast]
    · simp only [Instr.sliceBounds, Instr.sliceBound, asIntOf, hy, hz', e7, Result.andThen, Option.map_some, Sem.run_bind, Sem.run_pure, if_pos a1, if_pos a2, if_pos a3, Int.toNat_natCast]
  subst hsz
  simp [execOp, ho, Instr.sliceAt, run_underlying hu, Instr.slice, e1, hb, sizeOf, typeInfo, hj, Result.andThen]

theorem slc3_ok (h : Rel E ρ σ a w) (hd : ∀ t, o.dst = some t → t < σ.N) (t : TypeId) (x : Operand) (lo hi mx : Option Operand) (sz : Nat) (ho : o.op = .slice t x lo hi mx) (hc : comp P o = some (.slc3 sz x lo hi mx)) {rd v ups}
    (k : (asem σ fr (.slc3 sz x lo hi mx)).wp P σ.O fr fun a b c => a = rd ∧ b = v ∧ c = ups) : Comes' P E (σ.upd o.dst v ups) o a w := by
  have hx := aev_rel h x
  replace k := wp_drop k
  simp only [asem] at k
  split at k
  · rename_i size n f e
    rw [e] at hx
    obtain ⟨A, c, e1, e2, e3⟩ := hx
    obtain ⟨m, k, hm⟩ := bnd_wp (R := fun b c => b = v ∧ c = ups) h k
    obtain ⟨q, k, hq⟩ := bnd_wp (R := fun b c => b = v ∧ c = ups) h k
    obtain ⟨l, k, hl⟩ := bnd_wp (R := fun b c => b = v ∧ c = ups) h k
    obtain ⟨⟨hz, rfl, h1, h2, h3, h4, h5⟩, rfl, rfl⟩ := k
    refine comes_value h hd (slc3_run t x lo hi mx size ho hc e1 hm hq hl h1 h2 (by omega) h4 h5) ⟨_, _, rfl, by omega, fun i j' hi hj' => ?_⟩
    obtain ⟨ad, u, rfl, g1, g2, g3, g4⟩ := e3 (l + i) j' (by omega) hj'
    obtain ⟨ad', rfl', hs, _⟩ := addr_of_sl (by omega : 0 < n) (by omega : 0 < size) e3
    cases rfl'
    rw [if_neg (by omega)]
    refine ⟨ad.add (l * size), u, rfl, by rw [block_add, off_add, Nat.add_assoc, ← Nat.add_assoc (l * size), ← Nat.add_mul]; exact g1, ?_, g3, g4⟩
    rw [add_add _ _ _ hs, ← Nat.add_assoc, ← Nat.add_mul]
    exact g2
  · rename_i id ver off len e
    rw [e] at hx
    obtain ⟨A, c, ob, e1, e2, e3, e4, e5⟩ := hx
    obtain ⟨ob', e3', k⟩ := k
    rw [e3] at e3'
    cases e3'
    cases ob with
    | map => exact k.1.elim
    | gone v => exact k.1.elim
    | var el size f => exact k.1.elim
    | arr zz el size ver' n f =>
      cases zz with
      | own _ => exact k.1.elim
      | sh => exact k.1.elim
      | app =>
        obtain ⟨m, k, hm⟩ := bnd_wp (R := fun b c => b = v ∧ c = ups) h k
        obtain ⟨q, k, hq⟩ := bnd_wp (R := fun b c => b = v ∧ c = ups) h k
        obtain ⟨l, k, hl⟩ := bnd_wp (R := fun b c => b = v ∧ c = ups) h k
        obtain ⟨⟨hz, rfl, rfl, h1, h2, h3, h30, h4, h5⟩, rfl, rfl⟩ := k
        have hrun := slc3_run (P := P) (w := w) t x lo hi mx size ho hc e1 hm hq hl h1 h2 (by omega) h4 h5
        clear hm hq hl
        refine comes_value h hd hrun (v := .im (.sl .new size (q - l) fun i j => f (off + l + i) j)) ⟨_, _, rfl, by omega, fun i j hi hj => ?_⟩
        obtain ⟨_, _, _, _, _, hob, hoff, hp⟩ := e5 rfl
        cases hob
        clear e5
        rcases hp with ⟨p1, p2, p3, p4⟩ | ⟨g, cs, p1, p2, p3, p4⟩
        · omega
        · have hA := p2 (.inl (by omega))
          subst hA
          rcases h.ob id _ e3 with ⟨q1, _⟩ | ⟨g', cs', cap, q1, q2, q3, q4, q5, q6⟩
          · rw [p1] at q1; cases q1
          rw [p1] at q1; cases q1
          rw [p3] at q2; cases q2
          obtain ⟨hhi, _⟩ := h.hi id _ g e3 rfl p1
          obtain ⟨r1, r2⟩ := q6 (off + l + i) j (by omega) hj
          have hlt : (off + l + i) * size + j < n * size := by
            have : (off + l + i + 1) * size ≤ n * size := Nat.mul_le_mul_right _ (by omega)
            rw [Nat.add_mul] at this
            omega
          have hle : n * size ≤ cs.size := by rw [q3]; exact Nat.mul_le_mul_right _ q4
          have he : off * size + l * size + (i * size + j) = (off + l + i) * size + j := by rw [Nat.add_mul, Nat.add_mul]; omega
          rw [if_neg (by omega)]
          refine ⟨⟨g, off * size + l * size, none⟩, cs.getD ((off + l + i) * size + j) undef, by simp only [Option.map_some, add_mk], ⟨⟨?_, ?_⟩, fun _ => frozen_row p3⟩, ?_, r1, r2⟩
          · exact .inr ⟨rfl, hhi⟩
          · rintro ⟨id', ob, k1, k2, k3, k4⟩
            have : id' = id := h.inj id' id ob _ g k1 e3 k2 rfl k3 p1
            subst this
            rw [e3] at k1; cases k1
            simp only [Ob.lo, he] at k4
            omega
          · rw [add_mk, he, cell_of_row w g _ cs el (0, 0) p3]
            exact getD_some (by omega)
  · exact k.1.elim

theorem run_b2b (w : World) (t e : TypeId) (g n c : Nat) (cs : Array Value) (el : TypeId) (ht : P.underlying t = some (.slice e)) (he : P.underlying e = some (.int .u8)) (hg : w.heap[g]? = some (.cells cs el (0, 0))) :
    (convert t t (.slice (some ⟨g, 0, none⟩) n c)).run P w = .ok (.slice (some ⟨g, 0, none⟩) n c) (w.freeze ⟨g, cs.size, none⟩ 1) := by
  have hsh : w.shape? g = some (el, cs.size) := by unfold World.shape?; rw [hg]
  simp [convert, run_underlying ht, run_underlying he, markStringish, hsh]
theorem freeze_heap (w : World) (g k j : Nat) (h : j ≠ g) : (w.freeze ⟨g, k, none⟩ 1).heap[j]? = w.heap[j]? := by
  unfold World.freeze
  rw [if_neg (by decide)]
  simp [Array.getElem?_modify, Ne.symm h]
theorem freeze_at (w : World) (g k : Nat) (cs : Array Value) (el : TypeId) (hg : w.heap[g]? = some (.cells cs el (0, 0))) : ∃ m, (w.freeze ⟨g, k, none⟩ 1).heap[g]? = some (.cells cs el m) := by
  unfold World.freeze
  rw [if_neg (by decide)]
  simp only [Array.getElem?_modify, if_pos, hg, Option.map_some]
  exact ⟨_, rfl⟩
theorem freeze_size (w : World) (a : Addr) : (w.freeze a 1).heap.size = w.heap.size := by
  unfold World.freeze
  rw [if_neg (by decide)]
  simp
theorem b2b_ok (h : Rel E ρ σ a w) (hd : ∀ t, o.dst = some t → t < σ.N) (s e : TypeId) (x : Operand) (ho : o.op = .convert s s x) (hs : P.underlying s = some (.slice e)) (he : P.underlying e = some (.int .u8)) {rd v ups}
    (k : (asem σ fr (.b2b x)).wp P σ.O fr fun a b c => a = rd ∧ b = v ∧ c = ups) : Comes' P E (σ.upd o.dst v ups) o a w := by
  have hx := aev_rel h x
  simp only [asem] at k
  split at k
  · rename_i id ver off len e1
    rw [e1] at hx
    obtain ⟨A, c, ob, q1, q2, q3, q4, q5⟩ := hx
    obtain ⟨ob', q3', k⟩ := k
    rw [q3] at q3'; cases q3'
    cases ob with
    | map => exact k.1.elim
    | gone v => exact k.1.elim
    | var el size f => exact k.1.elim
    | arr zz el size ver' n f =>
      cases zz with
      | app => exact k.1.elim
      | sh => exact k.1.elim
      | own rm =>
        obtain ⟨⟨rfl, ⟨rfl, rfl⟩, rfl, hlen⟩, -, rfl, rfl⟩ := k
        obtain ⟨_, _, _, _, _, hob, hoff, hp⟩ := q5 rfl
        cases hob
        rcases hp with ⟨p1, p2, p3, p4⟩ | ⟨g, cs, p1, p2, p3, p4⟩
        · omega
        · have hA := p2 (.inl (by omega))
          rw [Nat.zero_mul] at hA
          subst hA
          rcases h.ob id _ q3 with ⟨r1, _⟩ | ⟨g', cs', cap, r1, r2, r3, r4, r5, r6⟩
          · rw [p1] at r1; cases r1
          rw [p1] at r1; cases r1
          rw [p3] at r2; cases r2
          have hid : id < σ.next := by
            rcases Nat.lt_or_ge id σ.next with hl | hl
            · exact hl
            · rw [h.nx id hl] at q3; cases q3
          obtain ⟨m, hm⟩ := freeze_at w g cs.size cs el p3
          obtain ⟨hr, ext⟩ := h.one id hid (.gone (ver' + 1)) none (w.freeze ⟨g, cs.size, none⟩ 1)
            (fun g' _ hne => freeze_heap w g cs.size g' fun e => hne _ q3 rfl (by rw [e]; exact p1))
            (fun _ hl _ => by cases hl)
            (fun o' g' k' ho' _ _ hk => by rw [q3] at ho'; cases ho'; simp [Ob.lo] at hk)
            (fun o' ho' => by rw [q3] at ho'; cases ho'; exact ⟨by simp [Ob.ver], fun hh => by simp [Ob.ver] at hh⟩)
            (fun _ => trivial) (by rw [freeze_size]; exact Nat.le_refl _) rfl rfl rfl
          obtain ⟨hhi, _⟩ := h.hi id _ g q3 rfl p1
          refine comes_made hr hd (x := .slice (some ⟨g, 0, none⟩) len c) ?_ (v := .im (.sl .any 1 len f)) ⟨_, _, rfl, q2, fun i j hi hj => ?_⟩
          · simp only [execOp, ho, q1, run_b2b w s e g len c cs el hs he p3, Sem.run_bind, Result.andThen, Sem.run_pure]
          · obtain rfl : j = 0 := by omega
            obtain ⟨s1, s2⟩ := r6 i 0 hi hj
            refine ⟨⟨g, 0, none⟩, cs.getD (i * 1 + 0) undef, rfl, ⟨⟨?_, ?_⟩, nofun⟩, ?_, s1, T.rel_mono ext.okb s2⟩
            · exact .inr ⟨rfl, hhi⟩
            · rintro ⟨id', ob, k1, k2, k3, k4⟩
              by_cases hne : id' = id
              · subst hne
                rw [setO_self] at k1; cases k1; cases k2
              · rw [show (σ.setO id (.gone (ver' + 1))).O id' = σ.O id' from if_neg (Ne.symm hne)] at k1
                rw [show pset ρ id none id' = ρ id' from if_neg hne] at k3
                exact hne (h.inj id' id ob _ g k1 q3 k2 rfl k3 p1)
            · rw [add_mk, Nat.zero_add, cell_of_row _ g _ cs el m hm]
              exact getD_some (by omega)
  · exact k.1.elim
theorem b2s_ok (h : Rel E ρ σ a w) (hd : ∀ t, o.dst = some t → t < σ.N) (s t : TypeId) (x : Operand) (ho : o.op = .convert s t x) (hc : comp P o = some (.b2s x)) {rd v ups}
    (k : (asem σ fr (.b2s x)).wp P σ.O fr fun a b c => a = rd ∧ b = v ∧ c = ups) : Comes' P E (σ.upd o.dst v ups) o a w := by
  replace k := wp_drop k
  simp only [asem] at k
  obtain ⟨n, g, k, A, c, e1, e3⟩ := srcOf_wp (R := fun b c => b = v ∧ c = ups) h k
  obtain ⟨hby, rfl, rfl⟩ := k
  obtain ⟨e, hs, he, ht⟩ : ∃ e, P.underlying s = some (.slice e) ∧ P.underlying e = some (.int .u8) ∧ P.underlying t = some .string := by
    unfold comp at hc
    rw [ho] at hc
    simp only at hc
    split at hc <;> try (simp at hc; done)
    · rename_i e h1 h2
      split at hc <;> try (simp at hc; done)
      rename_i h3 _
      exact ⟨e, h1, h3, h2⟩
    all_goals ((repeat' (split at hc)) <;> simp at hc)
  refine comes_value h hd (x := .string (strOfNums ((List.range n).map fun i => (g i 0).num))) ?_ (v := .im (.val _)) rfl
  have hnum : ∀ i, i < n → ∀ u, (g i 0).rel (okb E.b ρ σ.O) w u → u = .int .u8 (g i 0).num := fun i hi u hu => by
    have := hby i hi
    revert this hu
    generalize g i 0 = t
    intro hu this
    unfold T.isByte at this
    split at this
    · exact hu
    · exact this.elim
  have hrun : (convert s t (.slice A n c)).run P w = .ok (.string (strOfNums ((List.range n).map fun i => (g i 0).num))) w := by
    by_cases hn : n = 0
    · subst hn
      cases A with
      | none => exact run_convert_bytes_nil w s e hs he 0 c t ht
      | some ad =>
        rw [run_convert_bytes_string w s t e _ 0 c hs he ht, run_bytesToString w ad 0 c [] (by simp [loadCells, loadCellsFrom, Sem.run_pure])]
        rfl
    · obtain ⟨ad, u, rfl, hc0, _, _⟩ := e3 0 0 (by omega) (by omega)
      have hsp : ad.spot = none := by
        have := spot_of_cell hc0
        simpa [Addr.add] using this
      obtain ⟨b, off, sp⟩ := ad
      simp only at hsp
      subst hsp
      refine run_convert_bytes_arg w s e hs he b off n c ((List.range n).map fun i => (g i 0).num) (by simp) (fun i hi => ?_) t ht
      obtain ⟨ad', u', e', hc', h1, h2⟩ := e3 i 0 hi (by omega)
      cases e'
      rw [Nat.mul_one, Nat.add_zero, add_mk] at hc'
      rw [hc', hnum i hi u' h2]
      simp [List.getD, hi]
  simp [execOp, ho, e1, hrun, Result.andThen]

theorem copy_ok (h : Rel E ρ σ a w) (hd : ∀ t, o.dst = some t → t < σ.N) (d s : Operand) (sz : Nat) (c : Call) (hcb : c.callee = .builtin .copy) (ho : o.op = .call c) (hc : comp P o = some (.copy sz d s)) {rd v ups}
    (k : (asem σ fr (.copy sz d s)).wp P σ.O fr fun a b c => a = rd ∧ b = v ∧ c = ups) : Comes' P E (σ.upd o.dst v ups) o a w := by
  have hx := aev_rel h d
  obtain ⟨callee, args, argTypes⟩ := c
  simp only at hcb
  subst hcb
  unfold comp at hc
  rw [ho] at hc
  simp only at hc
  split at hc <;> try (simp at hc; done)
  rename_i d' s' t t' ea et
  obtain ⟨args⟩ := args
  obtain ⟨argTypes⟩ := argTypes
  simp only at ea et
  subst ea et
  split at hc <;> try (simp at hc; done)
  rename_i el hu
  split at hc <;> try (simp at hc; done)
  rename_i j hj
  split at hc <;> simp only [Option.some.injEq, AOp.copy.injEq, reduceCtorEq] at hc
  rename_i hj0
  obtain ⟨rfl, rfl, rfl⟩ := hc
  replace k := wp_drop k
  simp only [asem] at k
  split at k
  · rename_i id ver off len e
    rw [e] at hx
    obtain ⟨A, cp, ob, e1, e2, e3, e4, e5⟩ := hx
    obtain ⟨ob', e3', k⟩ := k
    rw [e3] at e3'
    cases e3'
    cases ob with
    | map => exact k.1.elim
    | gone v => exact k.1.elim
    | var el size f => exact k.1.elim
    | arr zz' el' size ver' n f =>
      cases zz' with
      | app => exact k.1.elim
      | sh => exact k.1.elim
      | own rm =>
      obtain ⟨⟨rfl, rfl⟩, k⟩ := k
      obtain ⟨m, g, k, B, cb, hsrc, hcells⟩ := srcOf_wp (R := fun b c => b = v ∧ c = ups) h k
      obtain ⟨rfl, rfl⟩ := k
      obtain ⟨_, _, _, _, _, hob, hoff, hp⟩ := e5 rfl
      cases hob
      have hid : id < σ.next := by
        rcases Nat.lt_or_ge id σ.next with hl | hl
        · exact hl
        · rw [h.nx id hl] at e3; cases e3
      -- the cells that come
      have hex : ∀ q, ∃ u, q < min m len * j.size → ∃ ad, B = some ad ∧ w.cell? (ad.add q) = some u ∧ u.oneCell' = true ∧ (g (q / j.size) (q % j.size)).rel (okb E.b ρ σ.O) w u := fun q => by
        by_cases hq : q < min m len * j.size
        · obtain ⟨ad, u, g1, g2, g3, g4⟩ := hcells (q / j.size) (q % j.size) (by
            have := Nat.div_lt_of_lt_mul (show q < j.size * min m len by rw [Nat.mul_comm]; exact hq)
            exact Nat.lt_of_lt_of_le this (Nat.min_le_left _ _)) (Nat.mod_lt _ (Nat.pos_of_ne_zero hj0))
          have e : q / j.size * j.size + q % j.size = q := by rw [Nat.mul_comm]; exact Nat.div_add_mod q j.size
          rw [e] at g2
          exact ⟨u, fun _ => ⟨ad, g1, g2, g3, g4⟩⟩
        · exact ⟨undef, fun h => absurd h hq⟩
      obtain ⟨nu, hnu⟩ := Classical.axiomOfChoice hex
      have hfirst : (Builtin.firstCells j.size (min m len) (a.eval s')).run P w = .ok ((List.range (min m len * j.size)).map nu).toArray w := by
        rw [hsrc]
        cases B with
        | none =>
          have : min m len * j.size = 0 := by
            rcases Nat.eq_zero_or_pos (min m len * j.size) with h0 | h0
            · exact h0
            · obtain ⟨ad, e, _⟩ := hnu 0 h0
              cases e
          simp [Builtin.firstCells, this]
        | some ad =>
          refine run_loadCells (P := P) w ad _ nu fun q hq => ?_
          obtain ⟨ad', e, g2, _⟩ := hnu q hq
          cases e
          exact g2
      rcases hp with ⟨p1, rfl, rfl, rfl⟩ | ⟨gb, cs, p1, p2, p3, p4⟩
      · have hn0 : n = 0 := by
          rcases h.ob id _ e3 with ⟨_, q⟩ | ⟨g', _, _, q1, _⟩
          · exact q
          · rw [p1] at q1; cases q1
        have hl0 : len = 0 := by omega
        subst hl0
        have hr : (execOp a.eval o).run P w = .ok (.value (goInt (min m 0 : Nat))) w := by
          simp [execOp, ho, resolve, invoke, builtin, Builtin.copy_, run_underlying hu, e1, hsrc, Builtin.lenOf, sizeOf, typeInfo, hj, Result.andThen, goInt] at hfirst ⊢
          simp [hfirst]
        obtain ⟨hr2, ext⟩ := h.one id hid (.arr (.own rm) el' j.size ver' n fun i q => if 0 ≤ i ∧ i < 0 + min m 0 then g (i - 0) q else f i q) none w (fun _ _ _ => rfl) (fun g' _ e => by cases e)
          (fun o g k ho _ _ hk => by rw [e3] at ho; cases ho; exact absurd hk (Nat.not_lt_zero _))
          (fun o ho => by
            rw [e3] at ho; cases ho
            exact ⟨Nat.le_refl _, fun _ => ⟨p1.symm, ⟨rfl, rfl, Nat.le_refl _⟩, fun g' cs2 e6 _ hg hh => ⟨cs2, hh, rfl⟩⟩⟩)
          (fun _ => .inl ⟨rfl, hn0⟩) (Nat.le_refl _) rfl rfl rfl
        exact comes_made hr2 hd hr (v := .im (.val _)) rfl
      · rcases h.ob id _ e3 with ⟨q1, -⟩ | ⟨g', cs2, cap, q1, q2, q3, q4, q5, q6⟩
        · rw [p1] at q1; cases q1
        rw [p1] at q1; cases q1
        rw [p3] at q2; cases q2
        have hfit : (off + min m len) * j.size ≤ cs.size := by
          rw [q3]
          exact Nat.mul_le_mul_right _ (by omega)
        rw [Nat.add_mul] at hfit
        have hst : ∀ ad, A = some ad → (storeCells ad ((List.range (min m len * j.size)).map nu) 0).run P w = .ok () (w.setRow gb (cs.toList.take (off * j.size) ++ (List.range (min m len * j.size)).map nu ++ cs.toList.drop (off * j.size + min m len * j.size)).toArray) := fun ad hA => by
          by_cases hc0 : 0 < cp ∨ off = 0
          · have hA' := p2 hc0
            rw [hA'] at hA
            cases hA
            have := run_storeCells_at (P := P) gb (off * j.size) el' ((List.range (min m len * j.size)).map nu) 0 cs w p3 (by simp; omega) (fun v hv => by
              obtain ⟨q, hq, rfl⟩ := List.mem_map.1 hv
              exact (hnu q (by simpa using hq)).choose_spec.2.2.1)
            simpa using this
          · have hl0 : len = 0 := by omega
            subst hl0
            simp only [Nat.min_zero, Nat.zero_mul, List.range_zero, List.map_nil, List.append_nil, Nat.add_zero, List.take_append_drop, Array.toArray_toList]
            rw [setRow_self w gb cs el' (0, 0) p3]
            rfl
        have hrun : ∃ cs' : Array Value, (execOp a.eval o).run P w = .ok (.value (goInt (min m len : Nat))) (w.setRow gb cs') ∧ cs'.size = cs.size ∧ ∀ q, cs'.getD q undef = if off * j.size ≤ q ∧ q < off * j.size + min m len * j.size then nu (q - off * j.size) else cs.getD q undef := by
          cases hA : A with
          | none =>
            have hl0 : len = 0 := Nat.eq_zero_of_not_pos fun hpos => by
              have := p2 (.inl (Nat.lt_of_lt_of_le hpos e2))
              rw [hA] at this; cases this
            subst hl0
            refine ⟨cs, ?_, rfl, fun q => (if_neg (fun hh => by
              obtain ⟨q1, q2⟩ := hh
              rw [Nat.min_zero, Nat.zero_mul, Nat.add_zero] at q2
              exact absurd q1 (Nat.not_le_of_lt q2))).symm⟩
            rw [setRow_self w gb cs el' (0, 0) p3]
            simp only [Nat.min_zero] at hfirst ⊢
            simp [execOp, ho, resolve, invoke, builtin, Builtin.copy_, run_underlying hu, e1, hA, hsrc, Builtin.lenOf, sizeOf, typeInfo, hj, Result.andThen, goInt] at hfirst ⊢
            simp [hfirst]
          | some ad =>
            refine ⟨(cs.toList.take (off * j.size) ++ (List.range (min m len * j.size)).map nu ++ cs.toList.drop (off * j.size + min m len * j.size)).toArray, ?_, ?_, ?_⟩
            · have := hst ad hA
              rw [hsrc] at hfirst
              simp [execOp, ho, resolve, invoke, builtin, Builtin.copy_, run_underlying hu, e1, hA, hsrc, Builtin.lenOf, sizeOf, typeInfo, hj, Result.andThen, goInt, hfirst, this]
            · simp; omega
            · intro q
              simp only [Array.getD_eq_getD_getElem?, List.getElem?_toArray]
              by_cases c1 : q < off * j.size
              · rw [if_neg (by omega), List.getElem?_append_left (by simp; omega), List.getElem?_append_left (by simp; omega), List.getElem?_take, if_pos c1]
                simp
              · by_cases c2 : q < off * j.size + min m len * j.size
                · rw [if_pos ⟨by omega, c2⟩, List.getElem?_append_left (by simp; omega), List.getElem?_append_right (by simp; omega)]
                  simp only [List.length_take, Array.length_toList, List.getElem?_map]
                  rw [List.getElem?_range (by omega)]
                  simp [show min (off * j.size) cs.size = off * j.size by omega]
                · rw [if_neg (by omega), List.getElem?_append_right (by simp; omega)]
                  simp only [List.length_append, List.length_take, Array.length_toList, List.getElem?_drop, List.length_map, List.length_range]
                  congr 1
                  rw [show off * j.size + min m len * j.size + (q - (min (off * j.size) cs.size + min m len * j.size)) = q by omega]
                  simp
        obtain ⟨cs', hr, hs', hg'⟩ := hrun
        have hlt : gb < w.heap.size := (Array.getElem?_eq_some_iff.1 p3).1
        obtain ⟨hr2, ext⟩ := h.one id hid (.arr (.own rm) el' j.size ver' n fun i q => if off ≤ i ∧ i < off + min m len then g (i - off) q else f i q) (some gb) (w.setRow gb cs')
          (fun g' hg hn => setRow_other w gb g' cs' (fun e => hn _ e3 rfl (by rw [p1, e])))
          (fun g' _ e => by cases e; exact ⟨by simpa using hlt, .inl ⟨_, e3, rfl, p1⟩⟩)
          (fun o g k ho _ _ hk => by rw [e3] at ho; cases ho; exact absurd hk (Nat.not_lt_zero _))
          (fun o ho => by
            rw [e3] at ho; cases ho
            refine ⟨Nat.le_refl _, fun _ => ⟨p1.symm, ⟨rfl, rfl, Nat.le_refl _⟩, fun g' cs2 e6 _ hg hh => ?_⟩⟩
            rw [p1] at hg; cases hg
            rw [p3] at hh; cases hh
            exact ⟨cs', setRow_heap w gb cs cs' el' (0, 0) p3, hs'⟩)
          (fun ext => .inr ⟨gb, cs', cap, rfl, setRow_heap w gb cs cs' el' (0, 0) p3, hs'.trans q3, q4, ⟨q5.1, nofun, Room.same q5.2.2 fun k hk1 _ => by
            have h9 : (off + min m len) * j.size ≤ n * j.size := Nat.mul_le_mul_right _ (by omega)
            rw [Nat.add_mul] at h9
            rw [hg', if_neg (by omega)]⟩, fun i q hi hq => by
            rw [hg']
            by_cases hc : off ≤ i ∧ i < off + min m len
            · have h1 : off * j.size ≤ i * j.size := Nat.mul_le_mul_right _ hc.1
              have h2 : (i + 1) * j.size ≤ (off + min m len) * j.size := Nat.mul_le_mul_right _ (by omega)
              rw [Nat.add_mul, Nat.add_mul] at h2
              rw [if_pos ⟨by omega, by omega⟩]
              dsimp only
              rw [if_pos hc]
              have e6 : i * j.size + q - off * j.size = (i - off) * j.size + q := by rw [Nat.sub_mul]; omega
              have e7 : (i - off) * j.size + q < min m len * j.size := by
                have : (i - off + 1) * j.size ≤ min m len * j.size := Nat.mul_le_mul_right _ (by omega)
                rw [Nat.add_mul] at this
                omega
              obtain ⟨ad, a1, a2, a3, a4⟩ := hnu _ e7
              rw [e6]
              have d1 : ((i - off) * j.size + q) / j.size = i - off := by rw [Nat.mul_comm, Nat.mul_add_div (by omega), Nat.div_eq_of_lt hq, Nat.add_zero]
              have d2 : ((i - off) * j.size + q) % j.size = q := by rw [Nat.mul_comm, Nat.mul_add_mod, Nat.mod_eq_of_lt hq]
              rw [d1, d2] at a4
              exact ⟨a3, T.rel_mono ext.okb a4⟩
            · dsimp only
              rw [if_neg hc, if_neg]
              · exact ⟨(q6 i q hi hq).1, T.rel_mono ext.okb (q6 i q hi hq).2⟩
              · rintro ⟨h1, h2⟩
                apply hc
                constructor
                · rcases Nat.lt_or_ge i off with hlt | hge
                  · have : (i + 1) * j.size ≤ off * j.size := Nat.mul_le_mul_right _ hlt
                    rw [Nat.add_mul] at this
                    omega
                  · exact hge
                · rcases Nat.lt_or_ge i (off + min m len) with hlt | hge
                  · exact hlt
                  · have : (off + min m len) * j.size ≤ i * j.size := Nat.mul_le_mul_right _ hge
                    rw [Nat.add_mul] at this
                    omega⟩)
          (by simp) rfl rfl rfl
        exact comes_made hr2 hd hr (v := .im (.val _)) rfl
  · exact k.1.elim
theorem appz_ok (h : Rel E ρ σ a w) (hf : σ.O fr = none) (hn : fr < σ.next) (hd : ∀ t, o.dst = some t → t < σ.N) (c : Call) (t t' el : TypeId) (kn : IntKind) (s n : Operand) (z : Nat × List Value × Nat) (hcb : c.callee = .builtin .append) (hca : c.args.toList = [s, n]) (hct : c.argTypes.toList = [t, t']) (hu : P.underlying t = some (.slice el)) (hu' : P.underlying t' = some (.int kn)) (hz : zOf P el = some z) (ho : o.op = .call c) {rd v ups}
    (k : (asem σ fr (.appz el z.1 z.2.1 z.2.2 s n)).wp P σ.O fr fun a b c => a = rd ∧ b = v ∧ c = ups) : Comes' P E (σ.upd o.dst v ups) o a w := by
  have hs := aev_rel h s
  have hx := aev_rel h n
  obtain ⟨callee, args, argTypes⟩ := c
  obtain ⟨args⟩ := args
  obtain ⟨argTypes⟩ := argTypes
  simp only at hcb hca hct
  subst hcb hca hct
  obtain ⟨i, v0, h1, h2, h3, h4, h5, rfl⟩ := zOf_some hz
  simp only [asem] at k
  split at k
  rotate_left
  · exact k.1.elim
  rename_i kq m e1 e2
  rw [e1] at hs
  rw [e2] at hx
  have hs' : a.eval s = .slice none 0 0 := hs
  have hx' : a.eval n = .int kq m := hx
  obtain ⟨⟨b1, b2, b3⟩, -, rfl, rfl⟩ := k
  obtain ⟨q, rfl⟩ : ∃ q : Nat, m = (q : Int) := ⟨m.toNat, by omega⟩
  have hq : 0 < q := by omega
  have hbq : q * i.bytes ≤ 140737488355328 := by
    have e : ((q * i.bytes : Nat) : Int) = (q : Int) * (i.bytes : Int) := Int.natCast_mul _ _
    have b2' : (q : Int) * (i.bytes : Int) ≤ 140737488355328 := b2
    omega
  have hrun := Lib.run_append_nil_zeros (P := P) w t t' o.type el i v0 kq kn hu hu' h1 h2 q hq h5 b3 (by omega)
  generalize hgc : grownCap w q 0 el = gc at hrun
  have hg1 : q ≤ gc := by rw [← hgc]; exact grownCap_ge _ _ _ _
  have hml : maxLen = 9223372036854775807 := rfl
  have hg2 : gc ≤ maxLen := by rw [← hgc]; exact grownCap_le_maxLen _ _ _ _ (by omega)
  have hzs : ∀ r, (Builtin.zeroCells v0.cells r).size = r * i.size := fun r => by simp [Builtin.zeroCells, h3]
  have hrun2 : (execOp a.eval o).run P w = .ok (.value (.slice (some ⟨w.heap.size, 0, none⟩) q gc)) (w.drew.alloc (.cells (Builtin.zeroCells v0.cells q ++ Builtin.zeroCells v0.cells (gc - q)) el)) := by
    simp only [execOp, ho, resolve, invoke, builtin, Sem.run_bind, Sem.run_pure, Result.andThen_ok, List.map_toArray, List.map_cons, List.map_nil, hs', hx', hrun]
  have hsz : (Builtin.zeroCells v0.cells q ++ Builtin.zeroCells v0.cells (gc - q)).size = gc * i.size := by
    rw [Array.size_append, hzs, hzs, ← Nat.add_mul]; congr 1; omega
  obtain ⟨hr, ext⟩ := h.new hf hn (.arr (.own none) el i.size 0 q fun _ j => .val (v0.cells.toList.getD j undef)) (Builtin.zeroCells v0.cells q ++ Builtin.zeroCells v0.cells (gc - q)) el w.drew rfl rfl rfl rfl (fun ext =>
    .inr ⟨_, _, gc, rfl, alloc_heap w.drew w rfl _, hsz, hg1, ⟨hg2, nofun, Room.none nofun⟩, fun i' j hi' hj => by
      have hlt : i' * i.size + j < q * i.size := by
        have : (i' + 1) * i.size ≤ q * i.size := Nat.mul_le_mul_right _ hi'
        rw [Nat.add_mul] at this
        omega
      have hm : (i' * i.size + j) % i.size = j := by rw [Nat.mul_comm, Nat.mul_add_mod, Nat.mod_eq_of_lt hj]
      have hj' : j < v0.cells.size := by omega
      have hv : (Builtin.zeroCells v0.cells q ++ Builtin.zeroCells v0.cells (gc - q)).getD (i' * i.size + j) undef = v0.cells[j] := by
        rw [Array.getD_eq_getD_getElem?, Array.getElem?_append_left (by rw [hzs]; exact hlt)]
        unfold Builtin.zeroCells
        rw [Array.getElem?_map, Array.getElem?_range, if_pos (by rw [h3]; exact hlt)]
        simp only [Option.map_some, Option.getD_some, h3, hm]
        exact getElem!_pos v0.cells j hj'
      rw [hv]
      refine ⟨h4 _ (Array.getElem_mem _), ?_⟩
      show v0.cells[j] = v0.cells.toList.getD j undef
      rw [getD_toList, Array.getD_eq_getD_getElem?, Array.getElem?_eq_getElem hj']
      rfl⟩)
  refine comes_made hr hd hrun2 ⟨_, _, _, rfl, hg1, setO_self _ _, Nat.le_refl _, fun _ => ⟨_, _, _, _, _, rfl, by omega, .inr ⟨w.heap.size, _, if_pos rfl, fun _ => by simp, alloc_heap w.drew w rfl _, ?_⟩⟩⟩
  rw [hsz]
  simp
theorem clr_ok (h : Rel E ρ σ a w) (hd : ∀ t, o.dst = some t → t < σ.N) (x : Operand) (sz : Nat) (z : List Value) (c : Call) (hcb : c.callee = .builtin .clear) (ho : o.op = .call c) (hc : comp P o = some (.clr sz z x)) {rd v ups}
    (k : (asem σ fr (.clr sz z x)).wp P σ.O fr fun a b c => a = rd ∧ b = v ∧ c = ups) : Comes' P E (σ.upd o.dst v ups) o a w := by
  have hx := aev_rel h x
  obtain ⟨callee, args, argTypes⟩ := c
  simp only at hcb
  subst hcb
  unfold comp at hc
  rw [ho] at hc
  simp only at hc
  split at hc <;> try (simp at hc; done)
  rename_i x' t ea et
  obtain ⟨args⟩ := args
  obtain ⟨argTypes⟩ := argTypes
  simp only at ea et
  subst ea et
  split at hc <;> try (simp at hc; done)
  rename_i el hu
  simp only [Option.map_eq_some_iff, AOp.clr.injEq] at hc
  obtain ⟨zz, hz, rfl, rfl, rfl⟩ := hc
  obtain ⟨i, v0, h1, h2, h3, h4, h5, rfl⟩ := zOf_some hz
  dsimp only at k
  replace k := wp_drop k
  simp only [asem] at k
  split at k
  · rename_i id ver off len e
    rw [e] at hx
    obtain ⟨A, cp, ob, e1, e2, e3, e4, e5⟩ := hx
    obtain ⟨ob', e3', k⟩ := k
    rw [e3] at e3'
    cases e3'
    cases ob with
    | map => exact k.1.elim
    | gone v => exact k.1.elim
    | var el size f => exact k.1.elim
    | arr zz' el' size ver' n f =>
      cases zz' with
      | app => exact k.1.elim
      | sh => exact k.1.elim
      | own rm =>
      obtain ⟨⟨rfl, rfl⟩, k⟩ := k
      obtain ⟨rfl, rfl⟩ := k
      obtain ⟨_, _, _, _, _, hob, hoff, hp⟩ := e5 rfl
      clear e5
      cases hob
      have hid : id < σ.next := by
        rcases Nat.lt_or_ge id σ.next with hl | hl
        · exact hl
        · rw [h.nx id hl] at e3; cases e3
      let nu : Nat → Value := fun q => v0.cells[q % v0.cells.size]!
      have hnu : ∀ q, (nu q).oneCell' = true ∧ nu q = v0.cells.toList.getD (q % i.size) undef := fun q => by
        have hlt : q % v0.cells.size < v0.cells.size := Nat.mod_lt _ (by omega)
        have e : nu q = v0.cells[q % v0.cells.size] := getElem!_pos v0.cells (q % v0.cells.size) hlt
        refine ⟨by rw [e]; exact h4 _ (Array.getElem_mem _), ?_⟩
        rw [e, ← h3, getD_toList, Array.getD_eq_getD_getElem?, Array.getElem?_eq_getElem hlt]
        rfl
      have hzc : (Builtin.zeroCells v0.cells len).toList = (List.range (len * i.size)).map nu := by
        unfold Builtin.zeroCells
        rw [Array.toList_map, Array.toList_range]
        simp only [nu, h3]
      rcases hp with ⟨p1, rfl, rfl, rfl⟩ | ⟨gb, cs, p1, p2, p3, p4⟩
      · have hn0 : n = 0 := by
          rcases h.ob id _ e3 with ⟨_, q⟩ | ⟨g', _, _, q1, _⟩
          · exact q
          · rw [p1] at q1; cases q1
        have hl0 : len = 0 := by omega
        subst hl0
        have hr : (execOp a.eval o).run P w = .ok (.value (.tuple #[])) w := by
          simp [execOp, ho, resolve, invoke, builtin, Builtin.clear_, run_underlying hu, e1, Result.andThen]
        obtain ⟨hr2, ext⟩ := h.one id hid (.arr (.own rm) el' i.size ver' n fun i q => if 0 ≤ i ∧ i < 0 + 0 then .val (v0.cells.toList.getD q undef) else f i q) none w (fun _ _ _ => rfl) (fun g' _ e => by cases e)
          (fun o g k ho _ _ hk => by rw [e3] at ho; cases ho; exact absurd hk (Nat.not_lt_zero _))
          (fun o ho => by
            rw [e3] at ho; cases ho
            exact ⟨Nat.le_refl _, fun _ => ⟨p1.symm, ⟨rfl, rfl, Nat.le_refl _⟩, fun g' cs2 e6 _ hg hh => ⟨cs2, hh, rfl⟩⟩⟩)
          (fun _ => .inl ⟨rfl, hn0⟩) (Nat.le_refl _) rfl rfl rfl
        exact comes_made hr2 hd hr (v := .im (.val _)) rfl
      · rcases h.ob id _ e3 with ⟨q1, -⟩ | ⟨g', cs2, cap, q1, q2, q3, q4, q5, q6⟩
        · rw [p1] at q1; cases q1
        rw [p1] at q1; cases q1
        rw [p3] at q2; cases q2
        have hfit : (off + len) * i.size ≤ cs.size := by
          rw [q3]
          exact Nat.mul_le_mul_right _ (by omega)
        rw [Nat.add_mul] at hfit
        have hrun : ∃ cs' : Array Value, (execOp a.eval o).run P w = .ok (.value (.tuple #[])) (w.setRow gb cs') ∧ cs'.size = cs.size ∧ ∀ q, cs'.getD q undef = if off * i.size ≤ q ∧ q < off * i.size + len * i.size then nu (q - off * i.size) else cs.getD q undef := by
          by_cases hl0 : len = 0
          · subst hl0
            refine ⟨cs, ?_, rfl, fun q => (if_neg (by omega)).symm⟩
            rw [setRow_self w gb cs el' (0, 0) p3]
            cases A <;> simp [execOp, ho, resolve, invoke, builtin, Builtin.clear_, run_underlying hu, e1, Result.andThen]
          · have hA := p2 (.inl (by omega))
            subst hA
            refine ⟨(cs.toList.take (off * i.size) ++ (List.range (len * i.size)).map nu ++ cs.toList.drop (off * i.size + len * i.size)).toArray, ?_, ?_, ?_⟩
            · have hst := run_storeCells_at (P := P) gb (off * i.size) el' ((List.range (len * i.size)).map nu) 0 cs w p3 (by simp; omega) (fun v hv => by
                obtain ⟨q, hq, rfl⟩ := List.mem_map.1 hv
                exact (hnu q).1)
              obtain ⟨l', rfl⟩ : ∃ l', len = l' + 1 := ⟨len - 1, by omega⟩
              simp only [List.length_map, List.length_range, Nat.add_zero] at hst
              have hz2 := run_zero (P := P) (w := w) h1 h2
              simp [execOp, ho, resolve, invoke, builtin, Builtin.clear_, run_underlying hu, e1, hz2, hzc, hst, Result.andThen]
            · simp; omega
            · intro q
              simp only [Array.getD_eq_getD_getElem?, List.getElem?_toArray]
              by_cases c1 : q < off * i.size
              · rw [if_neg (by omega), List.getElem?_append_left (by simp; omega), List.getElem?_append_left (by simp; omega), List.getElem?_take, if_pos c1]
                simp
              · by_cases c2 : q < off * i.size + len * i.size
                · rw [if_pos ⟨by omega, c2⟩, List.getElem?_append_left (by simp; omega), List.getElem?_append_right (by simp; omega)]
                  simp only [List.length_take, Array.length_toList, List.getElem?_map]
                  rw [List.getElem?_range (by omega)]
                  simp [show min (off * i.size) cs.size = off * i.size by omega]
                · rw [if_neg (by omega), List.getElem?_append_right (by simp; omega)]
                  simp only [List.length_append, List.length_take, Array.length_toList, List.getElem?_drop, List.length_map, List.length_range]
                  congr 1
                  rw [show off * i.size + len * i.size + (q - (min (off * i.size) cs.size + len * i.size)) = q by omega]
                  simp
        obtain ⟨cs', hr, hs', hg'⟩ := hrun
        have hlt : gb < w.heap.size := (Array.getElem?_eq_some_iff.1 p3).1
        obtain ⟨hr2, ext⟩ := h.one id hid (.arr (.own rm) el' i.size ver' n fun i q => if off ≤ i ∧ i < off + len then .val (v0.cells.toList.getD q undef) else f i q) (some gb) (w.setRow gb cs')
          (fun g' hg hn => setRow_other w gb g' cs' (fun e => hn _ e3 rfl (by rw [p1, e])))
          (fun g' _ e => by cases e; exact ⟨by simpa using hlt, .inl ⟨_, e3, rfl, p1⟩⟩)
          (fun o g k ho _ _ hk => by rw [e3] at ho; cases ho; exact absurd hk (Nat.not_lt_zero _))
          (fun o ho => by
            rw [e3] at ho; cases ho
            refine ⟨Nat.le_refl _, fun _ => ⟨p1.symm, ⟨rfl, rfl, Nat.le_refl _⟩, fun g' cs2 e6 _ hg hh => ?_⟩⟩
            rw [p1] at hg; cases hg
            rw [p3] at hh; cases hh
            exact ⟨cs', setRow_heap w gb cs cs' el' (0, 0) p3, hs'⟩)
          (fun ext => .inr ⟨gb, cs', cap, rfl, setRow_heap w gb cs cs' el' (0, 0) p3, hs'.trans q3, q4, ⟨q5.1, nofun, Room.same q5.2.2 fun k hk1 _ => by
            have h9 : (off + len) * i.size ≤ n * i.size := Nat.mul_le_mul_right _ (by omega)
            rw [Nat.add_mul] at h9
            rw [hg', if_neg (by omega)]⟩, fun i' q hi hq => by
            rw [hg']
            by_cases hc : off ≤ i' ∧ i' < off + len
            · have h1 : off * i.size ≤ i' * i.size := Nat.mul_le_mul_right _ hc.1
              have h2 : (i' + 1) * i.size ≤ (off + len) * i.size := Nat.mul_le_mul_right _ (by omega)
              rw [Nat.add_mul, Nat.add_mul] at h2
              rw [if_pos ⟨by omega, by omega⟩]
              dsimp only
              rw [if_pos hc]
              have e6 : i' * i.size + q - off * i.size = (i' - off) * i.size + q := by rw [Nat.sub_mul]; omega
              obtain ⟨a3, a4⟩ := hnu ((i' - off) * i.size + q)
              rw [e6]
              have d2 : ((i' - off) * i.size + q) % i.size = q := by rw [Nat.mul_comm, Nat.mul_add_mod, Nat.mod_eq_of_lt hq]
              rw [d2] at a4
              exact ⟨a3, a4⟩
            · dsimp only
              rw [if_neg hc, if_neg]
              · exact ⟨(q6 i' q hi hq).1, T.rel_mono ext.okb (q6 i' q hi hq).2⟩
              · rintro ⟨h1, h2⟩
                apply hc
                constructor
                · rcases Nat.lt_or_ge i' off with hlt | hge
                  · have : (i' + 1) * i.size ≤ off * i.size := Nat.mul_le_mul_right _ hlt
                    rw [Nat.add_mul] at this
                    omega
                  · exact hge
                · rcases Nat.lt_or_ge i' (off + len) with hlt | hge
                  · exact hlt
                  · have : (off + len) * i.size ≤ i' * i.size := Nat.mul_le_mul_right _ hge
                    rw [Nat.add_mul] at this
                    omega⟩)
          (by simp) rfl rfl rfl
        exact comes_made hr2 hd hr (v := .im (.val _)) rfl
  · exact k.1.elim
end
end Go.Proofs.Ytlmnhbobgfpanaa
