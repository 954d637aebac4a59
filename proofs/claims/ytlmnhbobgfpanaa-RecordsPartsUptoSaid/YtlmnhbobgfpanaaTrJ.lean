/-
  That the program's operations do what the states say (7): makes, cuts, appends.
-/
import Derived.Test.YtlmnhbobgfpanaaTrI
import Derived.Lib.AppendStr
namespace Go.Proofs.Ytlmnhbobgfpanaa
open Go.RowKit

section
variable {P : Program} {E : Env} {ρ : Pl} {σ : St} {a : Act} {w w' : World} {o : Oper} {fr : Nat} {K : Act → World → Prop} {Q : Exit → Act → World → Prop}

theorem mk_ok (h : Rel E ρ σ a w) (hf : σ.O fr = none) (hn : fr < σ.next) (hd : ∀ t, o.dst = some t → t < σ.N) (t : TypeId) (l c : Operand) (rm : Bool) (e sz : Nat) (z : List Value) (bytes : Nat) (ho : o.op = .makeSlice t l c) (hc : comp P o = some (.make rm e sz z bytes l c)) {rd v ups}
    (k : (asem σ fr (.make rm e sz z bytes l c)).wp P σ.O fr fun a b c => a = rd ∧ b = v ∧ c = ups) : Comes' P E (σ.upd o.dst v ups) o a w := by
  have hl := aev_rel h l
  have hcp := aev_rel h c
  simp only [asem] at k
  split at k
  rotate_left
  · exact k.1.elim
  rename_i kl n kc q e1 e2
  rw [e1] at hl
  rw [e2] at hcp
  have hl' : a.eval l = .int kl n := hl
  have hc' : a.eval c = .int kc q := hcp
  obtain ⟨⟨b1, b2, b3, b4⟩, -, rfl, rfl⟩ := k
  unfold comp at hc
  rw [ho] at hc
  simp only at hc
  split at hc <;> try (simp at hc; done)
  rename_i el hu
  simp only [Option.map_eq_some_iff, AOp.make.injEq, and_true] at hc
  obtain ⟨zz, hz, rfl, rfl, rfl, rfl, rfl⟩ := hc
  obtain ⟨i, v0, h1, h2, h3, h4, h5, rfl⟩ := zOf_some hz
  dsimp only at b4 ⊢
  have w1 : IntKind.i64.wrap n = n := IntWalk.i64_in _ (by omega)
  have w2 : IntKind.i64.wrap q = q := IntWalk.i64_in _ (by omega)
  have hq : (q.toNat : Int) = q := by omega
  have hb : ¬ q.toNat * i.bytes > roomBytes := by
    have : ((i.bytes * q.toNat : Nat) : Int) ≤ 140737488355328 := by rw [Int.natCast_mul, hq]; exact b4
    have e : i.bytes * q.toNat = q.toNat * i.bytes := Nat.mul_comm _ _
    unfold roomBytes
    omega
  obtain ⟨zc, hzs, hzr, hzg⟩ : ∃ zc : Array Value, zc.size = q.toNat * i.size ∧ (∀ w, (Instr.makeSlice t (.int kl n) (.int kc q)).run P w = .ok (.slice (some ⟨w.heap.size, 0, none⟩) n.toNat q.toNat) (w.alloc (.cells zc el))) ∧ ∀ i' j, i' < q.toNat → j < i.size → zc.getD (i' * i.size + j) undef = v0.cells.getD j undef := by
    have hg : ¬ (q < 0 ∨ 281474976710656 < (i.bytes : Int) * q) := by omega
    have r0 : Array.range 0 = #[] := rfl
    by_cases hc0 : q.toNat * i.size = 0
    · refine ⟨#[], by simp [hc0], fun w => ?_, fun i' j hi' hj => ?_⟩
      · simp [Instr.makeSlice, run_underlying hu, asInt, asIntOf, typeInfo, sizeOf, h1, w1, w2, hg, show ¬ n < 0 by omega, show ¬ q < n by omega, askRoom, hb, hc0, r0, newRow, Result.andThen]
      · have : 0 < q.toNat * i.size := Nat.mul_pos (by omega) h5
        omega
    · refine ⟨(Array.range (q.toNat * i.size)).map (v0.cells[· % v0.cells.size]!), by simp, fun w => ?_, fun i' j hi' hj => ?_⟩
      · simp [Instr.makeSlice, run_underlying hu, asInt, asIntOf, typeInfo, sizeOf, h1, w1, w2, hg, show ¬ n < 0 by omega, show ¬ q < n by omega, askRoom, hb, hc0, run_zero h1 h2, newRow, Result.andThen]
      · have hlt : i' * i.size + j < q.toNat * i.size := by
          have : (i' + 1) * i.size ≤ q.toNat * i.size := Nat.mul_le_mul_right _ hi'
          rw [Nat.add_mul] at this
          omega
        have hm : (i' * i.size + j) % v0.cells.size = j := by
          rw [h3, Nat.mul_comm, Nat.mul_add_mod, Nat.mod_eq_of_lt hj]
        rw [Array.getD_eq_getD_getElem?, Array.getElem?_map, Array.getElem?_range, if_pos hlt]
        simp only [Option.map_some, Option.getD_some, hm]
        rw [getElem!_pos _ _ (by omega), Array.getD_eq_getD_getElem?, Array.getElem?_eq_getElem (by omega)]
        rfl
  have hrun : (execOp a.eval o).run P w = .ok (.value (.slice (some ⟨w.heap.size, 0, none⟩) n.toNat q.toNat)) (w.alloc (.cells zc el)) := by
    simp [execOp, ho, hl', hc', hzr, Result.andThen]
  obtain ⟨hr, ext⟩ := h.new hf hn (.arr (if (P.underlyingId t != t) = true then .app else .own (rmOf v0.cells.toList)) el i.size 0 n.toNat fun _ j => .val (v0.cells.toList.getD j undef)) zc el w rfl rfl rfl rfl (fun ext =>
    .inr ⟨_, zc, q.toNat, rfl, alloc_heap w w rfl _, hzs, by omega, ⟨by unfold maxLen; omega, (fun h => by split at h <;> cases h), fun z h => by
        have hz : rmOf v0.cells.toList = some z := by
          split at h
          · cases h
          · exact Zz.own.inj h
        obtain ⟨z1, z2⟩ := rmOf_some hz
        have z3 : v0.cells.toList.length = i.size := by rw [Array.length_toList, h3]
        refine ⟨z1.trans z3, fun k _ hk2 => ?_⟩
        have hk3 : k / i.size < q.toNat := Nat.div_lt_of_lt_mul (by rw [Nat.mul_comm]; exact hk2)
        have hk4 : k % i.size < i.size := Nat.mod_lt _ h5
        have hk5 := hzg (k / i.size) (k % i.size) hk3 hk4
        rw [Nat.div_add_mod' k i.size] at hk5
        rw [hk5, z2 _ (by rw [z3]; exact hk4)]
        exact (getD_toList v0.cells _).symm⟩, fun i' j hi' hj => by
      rw [hzg i' j (by omega) hj]
      exact ⟨h4 _ (by rw [Array.getD_eq_getD_getElem?, Array.getElem?_eq_getElem (by omega)]; exact Array.getElem_mem _), (getD_toList v0.cells j).symm⟩⟩)
  refine comes_made hr hd hrun ⟨_, _, _, rfl, by omega, setO_self _ _, Nat.le_refl _, fun _ => ⟨_, _, _, _, _, rfl, by omega, .inr ⟨w.heap.size, zc, if_pos rfl, fun _ => by simp, alloc_heap w w rfl _, ?_⟩⟩⟩
  rw [hzs]
  simp

theorem bnd_wp {O : Ow} {d : Nat} {x : Option Operand} {k : Nat → AM} {R : V → List (Nat × Ob) → Prop} (h : Rel E ρ σ a w) (hk : (bnd σ d x k).wp P O fr fun _ b c => R b c) :
    ∃ m, (k m).wp P O fr (fun _ b c => R b c) ∧ ((x = none ∧ m = d) ∨ ∃ y kk, x = some y ∧ a.eval y = .int kk m) := by
  unfold bnd at hk
  cases x with
  | none => exact ⟨d, hk, .inl ⟨rfl, rfl⟩⟩
  | some y =>
    simp only at hk
    have hy := aev_rel h y
    split at hk
    · rename_i kk n e
      rw [e] at hy
      have hy' : a.eval y = .int kk n := hy
      obtain ⟨h0, hk⟩ := hk
      exact ⟨n.toNat, hk, .inr ⟨y, kk, rfl, by rw [hy']; congr 1; omega⟩⟩
    · exact hk.1.elim

theorem run_bounds {x y : Option Operand} {l m len cap : Nat} {isS : Bool} (hl : (x = none ∧ l = 0) ∨ ∃ q kk, x = some q ∧ a.eval q = .int kk l) (hm : (y = none ∧ m = len) ∨ ∃ q kk, y = some q ∧ a.eval q = .int kk m)
    (h1 : l ≤ m) (h2 : m ≤ cap) (w : World) : (Instr.sliceBounds isS len cap (x.map a.eval) (y.map a.eval) none).run P w = .ok (l, m, cap) w := by
  rcases hl with ⟨rfl, rfl⟩ | ⟨q, kk, rfl, e1⟩ <;> rcases hm with ⟨rfl, rfl⟩ | ⟨q', kk', rfl, e2⟩ <;>
    simp [Instr.sliceBounds, Instr.sliceBound, asIntOf, *] <;> omega

theorem slc_ok (h : Rel E ρ σ a w) (hd : ∀ t, o.dst = some t → t < σ.N) (t : TypeId) (x : Operand) (lo hi : Option Operand) (sz : Nat) (ho : o.op = .slice t x lo hi none) (hc : comp P o = some (.slc sz x lo hi)) {rd v ups}
    (k : (asem σ fr (.slc sz x lo hi)).wp P σ.O fr fun a b c => a = rd ∧ b = v ∧ c = ups) : Comes' P E (σ.upd o.dst v ups) o a w := by
  have hx := aev_rel h x
  replace k := wp_drop k
  have hrun : (∀ (A : Option Addr) (len c l m : Nat), a.eval x = .slice A len c → (∃ e j, P.underlying t = some (.slice e) ∧ P.info? e = some j ∧ sz = j.size) → ((lo = none ∧ l = 0) ∨ ∃ q kk, lo = some q ∧ a.eval q = .int kk l) → ((hi = none ∧ m = len) ∨ ∃ q kk, hi = some q ∧ a.eval q = .int kk m) → l ≤ m → m ≤ c →
      (execOp a.eval o).run P w = .ok (.value (.slice (if c = l then A else A.map (·.add (l * sz))) (m - l) (c - l))) w) ∧
      (∀ (s : ByteArray) (l m : Nat), a.eval x = .string s → P.underlying t = some .string → ((lo = none ∧ l = 0) ∨ ∃ q kk, lo = some q ∧ a.eval q = .int kk l) → ((hi = none ∧ m = s.size) ∨ ∃ q kk, hi = some q ∧ a.eval q = .int kk m) → l ≤ m → m ≤ s.size →
      (execOp a.eval o).run P w = .ok (.value (.string (s.extract l m))) w) := by
    refine ⟨fun A len c l m he ⟨e, j, hu, hj, hsz⟩ hl hm h1 h2 => ?_, fun s l m he hu hl hm h1 h2 => ?_⟩
    · have := run_bounds (P := P) (a := a) (isS := true) hl hm h1 h2 w
      subst hsz
      simp [execOp, ho, Instr.sliceAt, run_underlying hu, Instr.slice, he, this, sizeOf, typeInfo, hj, Result.andThen]
    · have := run_bounds (P := P) (a := a) (isS := false) hl hm h1 h2 w
      simp [execOp, ho, Instr.sliceAt, run_underlying hu, Instr.slice, he, this, Result.andThen]
  have hty : (∃ e j, P.underlying t = some (.slice e) ∧ P.info? e = some j ∧ sz = j.size ∧ sz ≠ 0) ∨ (P.underlying t = some .string ∧ sz = 0) := by
    unfold comp at hc
    rw [ho] at hc
    simp only at hc
    split at hc <;> try (simp at hc; done)
    · rename_i e hu
      split at hc <;> try (simp at hc; done)
      rename_i j hj
      split at hc <;> simp only [Option.some.injEq, AOp.slc.injEq, and_true, reduceCtorEq] at hc
      rename_i hj0
      exact .inl ⟨e, j, hu, hj, hc.symm, by omega⟩
    · rename_i hu
      simp only [Option.some.injEq, AOp.slc.injEq, and_true] at hc
      exact .inr ⟨hu, hc.symm⟩
  simp only [asem] at k
  split at k
  · rename_i s e
    rw [e] at hx
    obtain ⟨l, k, hl⟩ := bnd_wp (R := fun b c => b = v ∧ c = ups) h k
    obtain ⟨m, k, hm⟩ := bnd_wp (R := fun b c => b = v ∧ c = ups) h k
    obtain ⟨⟨h0, hlm, hms⟩, rfl, rfl⟩ := k
    rcases hty with ⟨e, j, hu, -, -, h1⟩ | ⟨hu, -⟩
    · omega
    · exact comes_value h hd (hrun.2 s l m hx hu hl hm hlm hms) (v := .im (.val _)) rfl
  · rename_i size n f e
    rw [e] at hx
    obtain ⟨A, c, e1, e2, e3⟩ := hx
    obtain ⟨l, k, hl⟩ := bnd_wp (R := fun b c => b = v ∧ c = ups) h k
    obtain ⟨m, k, hm⟩ := bnd_wp (R := fun b c => b = v ∧ c = ups) h k
    obtain ⟨⟨hz, rfl, hlm, hms⟩, rfl, rfl⟩ := k
    rcases hty with ⟨e, j, hu, hj, hsz, -⟩ | ⟨hu, h0⟩
    · refine comes_value h hd (hrun.1 A n c l m e1 ⟨e, j, hu, hj, hsz⟩ hl hm hlm (by omega)) ⟨_, _, rfl, by omega, fun i j hi hj => ?_⟩
      obtain ⟨ad, u, rfl, g1, g2, g3, g4⟩ := e3 (l + i) j (by omega) hj
      obtain ⟨ad', rfl', hs, _⟩ := addr_of_sl (by omega : 0 < n) (by omega : 0 < size) e3
      cases rfl'
      rw [if_neg (by omega)]
      refine ⟨ad.add (l * size), u, rfl, by rw [block_add, off_add, Nat.add_assoc, ← Nat.add_assoc (l * size), ← Nat.add_mul]; exact g1, ?_, g3, g4⟩
      rw [add_add _ _ _ hs, ← Nat.add_assoc, ← Nat.add_mul]
      exact g2
    · omega
  · rename_i size n m0 f e
    rw [e] at hx
    obtain ⟨A, c, e1, e2, e3⟩ := hx
    obtain ⟨l, k, hl⟩ := bnd_wp (R := fun b c => b = v ∧ c = ups) h k
    obtain ⟨m, k, hm⟩ := bnd_wp (R := fun b c => b = v ∧ c = ups) h k
    obtain ⟨⟨hz, rfl, hlm, hms⟩, rfl, rfl⟩ := k
    rcases hty with ⟨e, j, hu, hj, hsz, -⟩ | ⟨hu, h0⟩
    · refine comes_value h hd (hrun.1 A n c l m e1 ⟨e, j, hu, hj, hsz⟩ hl hm hlm (by omega)) ⟨_, _, rfl, by omega, fun i j hi hj => ?_⟩
      obtain ⟨ad, u, rfl, g1, g2, g3, g4⟩ := e3 (l + i) j (by omega) hj
      obtain ⟨ad', rfl', hs, _⟩ := addr_of_sl (by omega : 0 < m0) (by omega : 0 < size) e3
      cases rfl'
      rw [if_neg (by omega)]
      refine ⟨ad.add (l * size), u, rfl, by rw [block_add, off_add, Nat.add_assoc, ← Nat.add_assoc (l * size), ← Nat.add_mul]; exact g1, ?_, g3, g4⟩
      rw [add_add _ _ _ hs, ← Nat.add_assoc, ← Nat.add_mul]
      exact g2
    · omega
  · rename_i e
    rw [e] at hx
    obtain ⟨l, k, hl⟩ := bnd_wp (R := fun b c => b = v ∧ c = ups) h k
    obtain ⟨m, k, hm⟩ := bnd_wp (R := fun b c => b = v ∧ c = ups) h k
    obtain ⟨⟨hz, rfl, rfl⟩, rfl, rfl⟩ := k
    rcases hty with ⟨e, j, hu, hj, hsz, -⟩ | ⟨hu, h0⟩
    · refine comes_value h hd (hrun.1 none 0 0 0 0 hx ⟨e, j, hu, hj, hsz⟩ hl hm (by omega) (by omega)) (v := .im (.val _)) ?_
      simp
      rfl
    · omega
  · rename_i id ver off len e
    rw [e] at hx
    obtain ⟨A, c, ob, e1, e2, e3, e4, e5⟩ := hx
    obtain ⟨ob', e3', k⟩ := k
    rw [e3] at e3'
    cases e3'
    cases ob with
    | map => exact k.1.elim
    | gone v => exact k.1.elim
    | var el size f => exact k.1.elim
    | arr zz el size ver' n f =>
      obtain ⟨l, k, hl⟩ := bnd_wp (R := fun b c => b = v ∧ c = ups) h k
      obtain ⟨m, k, hm⟩ := bnd_wp (R := fun b c => b = v ∧ c = ups) h k
      obtain ⟨⟨hz, rfl, rfl, hlm, hmn⟩, rfl, rfl⟩ := k
      obtain ⟨_, _, _, _, _, hob, hoff, hp⟩ := e5 rfl
      cases hob
      rcases hty with ⟨e', j, hu, hj, hsz, -⟩ | ⟨hu, h0⟩
      rotate_left
      · omega
      rcases hp with ⟨p1, rfl, rfl, rfl⟩ | ⟨g, cs, p1, p2, p3, p4⟩
      · have hn0 : n = 0 := by
          rcases h.ob id _ e3 with ⟨_, q⟩ | ⟨g', _, _, q1, _⟩
          · exact q
          · rw [p1] at q1; cases q1
        obtain rfl : m = 0 := by omega
        obtain rfl : l = 0 := by omega
        refine comes_value h hd (hrun.1 none len 0 0 0 e1 ⟨e', j, hu, hj, hsz⟩ hl hm (by omega) (by omega)) ⟨none, 0, _, ?_, by omega, e3, Nat.le_refl _, fun _ => ⟨_, _, _, _, _, rfl, by omega, .inl ⟨p1, rfl, rfl, rfl⟩⟩⟩
        simp
      · rcases h.ob id _ e3 with ⟨q1, -⟩ | ⟨g', cs2, cap, q1, q2, q3, q4, q5, q6⟩
        · rw [p1] at q1; cases q1
        rw [p1] at q1; cases q1
        rw [p3] at q2; cases q2
        have hcap : off + c = cap := Nat.eq_of_mul_eq_mul_right hz (p4.trans q3)
        refine comes_value h hd (hrun.1 A len c l m e1 ⟨e', j, hu, hj, hsz⟩ hl hm (by omega) (by omega)) ⟨_, _, _, rfl, by omega, e3, Nat.le_refl _, fun _ => ⟨_, _, _, _, _, rfl, by omega, .inr ⟨g, cs, p1, fun hc => ?_, p3, ?_⟩⟩⟩
        · by_cases hl0 : l = 0
          · subst hl0
            have hA := p2 (by omega)
            subst hA
            have e0 : ∀ ad : Addr, ad.add 0 = ad := fun _ => rfl
            simp [e0]
          · rw [if_neg (by omega), p2 (.inl (by omega))]
            simp only [Option.map_some, add_mk, Nat.add_mul]
        · rw [← p4]
          congr 1
          omega
  · exact k.1.elim

theorem srcOf_wp {sz : Nat} {x : Operand} {k : Nat → (Nat → Nat → T) → AM} {R : V → List (Nat × Ob) → Prop} (h : Rel E ρ σ a w) (hk : (srcOf sz (aev σ x) k).wp P σ.O fr fun _ b c => R b c) :
    ∃ m g, (k m g).wp P σ.O fr (fun _ b c => R b c) ∧ ∃ A c, a.eval x = .slice A m c ∧ ∀ i j, i < m → j < sz → ∃ ad u, A = some ad ∧ w.cell? (ad.add (i * sz + j)) = some u ∧ u.oneCell' = true ∧ (g i j).rel (okb E.b ρ σ.O) w u := by
  have hx := aev_rel h x
  unfold srcOf at hk
  split at hk
  · rename_i size n f e
    rw [e] at hx
    obtain ⟨rfl, hk⟩ := hk
    obtain ⟨A, c, e1, e2, e3⟩ := hx
    exact ⟨n, f, hk, A, c, e1, fun i j hi hj => by obtain ⟨ad, u, g1, _, g2, g3, g4⟩ := e3 i j hi hj; exact ⟨ad, u, g1, g2, g3, g4⟩⟩
  · rename_i size n m f e
    rw [e] at hx
    obtain ⟨rfl, hk⟩ := hk
    obtain ⟨A, c, e1, e2, e3⟩ := hx
    exact ⟨n, f, hk, A, c, e1, fun i j hi hj => by obtain ⟨ad, u, g1, _, g2, g3, g4⟩ := e3 i j (Nat.lt_of_lt_of_le hi e2.1) hj; exact ⟨ad, u, g1, g2, g3, g4⟩⟩
  · rename_i e
    rw [e] at hx
    exact ⟨0, _, hk, none, 0, hx, fun i j hi => by omega⟩
  · rename_i id ver off len e
    rw [e] at hx
    obtain ⟨A, c, ob, e1, e2, e3, e4, e5⟩ := hx
    obtain ⟨ob', e3', hk⟩ := hk
    rw [e3] at e3'
    cases e3'
    cases ob with
    | map => exact hk.1.elim
    | gone v => exact hk.1.elim
    | var el size f => exact hk.1.elim
    | arr zz el size ver' n f =>
      obtain ⟨⟨rfl, rfl⟩, hk⟩ := hk
      obtain ⟨_, _, _, _, _, hob, hoff, hp⟩ := e5 rfl
      cases hob
      refine ⟨len, _, hk, A, c, e1, fun i j hi hj => ?_⟩
      rcases hp with ⟨p1, p2, p3, p4⟩ | ⟨g, cs, p1, p2, p3, p4⟩
      · omega
      · rcases h.ob id _ e3 with ⟨q1, -⟩ | ⟨g', cs2, cap, q1, q2, q3, q4, q5, q6⟩
        · rw [p1] at q1; cases q1
        rw [p1] at q1; cases q1
        rw [p3] at q2; cases q2
        obtain ⟨r1, r2⟩ := q6 (off + i) j (by omega) hj
        refine ⟨⟨g, off * size, none⟩, _, p2 (.inl (by omega)), ?_, r1, r2⟩
        rw [add_mk, ← Nat.add_assoc, ← Nat.add_mul, cell_of_row w g _ cs el (0, 0) p3]
        refine getD_some ?_
        have : (off + i + 1) * size ≤ cap * size := Nat.mul_le_mul_right _ (by omega)
        rw [Nat.add_mul] at this
        omega
  · exact hk.1.elim

theorem run_append_ty {t t' ty e e' : TypeId} (ht : P.underlying t = some (.slice e)) (ht' : P.underlying t' = some (.slice e')) (v x : Value) (w : World) : (Builtin.append_ #[t, t'] ty #[v, x]).run P w = (Builtin.append_ #[t, t] ty #[v, x]).run P w := by
  have a0 : ∀ q : TypeId, (#[t, q] : Array TypeId)[0]? = some t := fun _ => rfl
  have a1 : ∀ q : TypeId, (#[t, q] : Array TypeId)[1]? = some q := fun _ => rfl
  have b0 : (#[v, x] : Array Value)[0]? = some v := rfl
  have b1 : (#[v, x] : Array Value)[1]? = some x := rfl
  simp only [Builtin.append_, a0, a1, b0, b1, Sem.run_bind, run_underlying ht, Result.andThen_ok]
  cases v with
  | slice b l c =>
    simp only [Sem.run_bind]
    cases hs : (sizeOf e).run P w with
    | ok n w1 => simp only [Result.andThen_ok, run_underlying ht, run_underlying ht', Sem.run_pure]
    | _ => rfl
  | _ => rfl
theorem app_old {t ty e : TypeId} {i : TypeInfo} {z : Value} {sz bytes : Nat} (ht : P.underlying t = some (.slice e)) (hi : P.info? e = some i) (hz : i.zero = some z) (hsize : i.size = sz) (hby : i.bytes = bytes) (hsz : 0 < sz)
    {v : Value} {n : Nat} {xs : List Value} (hown : w.ownsRow 0 e sz v n xs) {ad : Addr} {m c : Nat} {news : List Value} (hl : news.length = m * sz) (hnews : ∀ j u, news[j]? = some u → w.cell? (ad.add j) = some u) (h1 : ∀ u ∈ news, u.oneCell' = true)
    (h63 : n + m ≤ maxLen) (hbytes : (n + m) * bytes ≤ 140737488355328) {v' : Value} (hr : (Builtin.append_ #[t, t] ty #[v, .slice (some ad) m c]).run P w = .ok v' w') {g k : Nat} (hg : v.ownBlock = some g) (hk : k < n * sz) :
    look w' g k = look w g k := by
  subst hsize hby
  have hsmall : n + m ≤ 9223372036854775807 := by simp only [maxLen] at h63; omega
  rcases hown.2 with ⟨rfl, _⟩ | ⟨q, cap, cur, rfl, _, hq, hnc, _, hcs, _⟩
  · cases hg
  · obtain rfl : q = g := Option.some.inj hg
    have hle : n * i.size ≤ cur.size := by rw [hcs]; exact Nat.mul_le_mul_right _ hnc
    by_cases hroom : n + m ≤ cap
    · have hfit : n * i.size + news.length ≤ cur.size := by rw [hl, hcs, ← Nat.add_mul]; exact Nat.mul_le_mul_right _ hroom
      have h2 := run_append_room (P := P) (ty := ty) w t e i ht hi q n cap cur hq ad m c news hl hnews h1 hroom hfit
      rw [h2] at hr
      cases hr
      refine Prod.ext ?_ ((frozen_row (setRow_heap w q cur _ e _ hq)).trans (frozen_row hq).symm)
      show World.cell? _ _ = World.cell? _ _
      rw [cell_of_row _ q k _ e (0, 0) (setRow_heap w q cur _ e _ hq), cell_of_row w q k cur e (0, 0) hq]
      simp only [List.getElem?_toArray]
      rw [List.append_assoc, List.getElem?_append_left (by rw [List.length_take, Array.length_toList]; omega), List.getElem?_take, if_pos hk, Array.getElem?_toList]
    · have h2 := run_append_grow (P := P) (ty := ty) w t e i z ht hi hz ⟨q, 0, none⟩ n cap xs hown.1 (hown.cells (g := q) rfl) ad m c news hl hnews (by omega) (by omega) (growslice_fits (by omega) hbytes)
      rw [h2] at hr
      cases hr
      exact look_of_block (Go.heap_alloc_old w.drew _ (Array.getElem?_eq_some_iff.1 hq).1)
theorem getD_zeroCells {z : Array Value} {n k : Nat} (hk : k < n * z.size) : (Builtin.zeroCells z n).getD k undef = z.toList.getD (k % z.size) undef := by
  have hz : 0 < z.size := by
    rcases Nat.eq_zero_or_pos z.size with h | h
    · rw [h] at hk; omega
    · exact h
  unfold Builtin.zeroCells
  rw [Array.getD_eq_getD_getElem?, Array.getElem?_map, Array.getElem?_range, if_pos hk]
  have hm := Nat.mod_lt k hz
  simp only [Option.map_some, Option.getD_some]
  rw [getElem!_pos z _ hm, List.getD_eq_getElem?_getD, List.getElem?_eq_getElem (by simpa using hm)]
  simp
theorem app_room {t ty e : TypeId} {i : TypeInfo} {z : Value} {sz bytes : Nat} (ht : P.underlying t = some (.slice e)) (hi : P.info? e = some i) (hz : i.zero = some z) (hsize : i.size = sz) (hby : i.bytes = bytes) (hzs : z.cells.size = sz) (hsz : 0 < sz)
    {v : Value} {n : Nat} {xs : List Value} (hown : w.ownsRow 0 e sz v n xs) {ad : Addr} {m c : Nat} {news : List Value} (hl : news.length = m * sz) (hnews : ∀ j u, news[j]? = some u → w.cell? (ad.add j) = some u) (h1 : ∀ u ∈ news, u.oneCell' = true)
    (h63 : n + m ≤ maxLen) (hbytes : (n + m) * bytes ≤ 140737488355328) {v' : Value} (hr : (Builtin.append_ #[t, t] ty #[v, .slice (some ad) m c]).run P w = .ok v' w') {zr : List Zc} (hzr : rmOf z.cells.toList = some zr) (hR : RoomW w v e sz n zr) :
    RoomW w' v' e sz (n + m) zr := by
  subst hsize hby
  have hsmall : n + m ≤ 9223372036854775807 := by simp only [maxLen] at h63; omega
  obtain ⟨z1, z2⟩ := rmOf_some hzr
  have tail : ∀ (q : Nat) (ol : List Value), ol.length = (n + m) * i.size → ∀ k, (n + m) * i.size ≤ k → k < (ol.toArray ++ Builtin.zeroCells z.cells q).size → (ol.toArray ++ Builtin.zeroCells z.cells q).getD k undef = (zr.getD (k % i.size) .ptr).val := by
    intro q ol hol k h2 h3
    simp only [Array.size_append, List.size_toArray, size_zeroCells, hzs] at h3
    rw [Array.getD_eq_getD_getElem?, Array.getElem?_append_right (by simpa [hol] using h2), ← Array.getD_eq_getD_getElem?, List.size_toArray, hol, getD_zeroCells (by rw [hzs]; omega), hzs]
    have e1 : (k - (n + m) * i.size) % i.size = k % i.size := by
      conv => rhs; rw [show k = (k - (n + m) * i.size) + (n + m) * i.size by omega]
      rw [Nat.add_mul_mod_self_right]
    rw [e1, ← z2 _ (by rw [Array.length_toList, hzs]; exact Nat.mod_lt _ hsz)]
  rcases hown.2 with ⟨rfl, rfl⟩ | ⟨q, cap, cur, rfl, _, hq, hnc, _, hcs, _⟩
  · rcases Nat.eq_zero_or_pos m with rfl | hm
    · have hn : news = [] := List.eq_nil_of_length_eq_zero (by simpa using hl)
      have : (Builtin.append_ #[t, t] ty #[.slice none 0 0, .slice (some ad) 0 c]).run P w = .ok (.slice none 0 0) w := by
        simp [Builtin.append_, run_underlying ht, sizeOf, typeInfo, hi, Builtin.lenOf, Builtin.firstCells, loadCells, loadCellsFrom]
      rw [this] at hr
      cases hr
      intro g cs hg
      cases hg
    · have h2 := run_append_nil (P := P) w t ty e i z ht hi hz ad m c news hl hnews (by omega) (by omega) (by have hb := hbytes; simp only [Nat.zero_add] at hb; omega)
      rw [h2] at hr
      cases hr
      intro g cs hg hh k h3 h4
      obtain rfl : w.heap.size = g := Option.some.inj hg
      have hh := (Go.heap_alloc_new w.drew _).symm.trans hh
      simp only [Option.some.injEq, Obj.cells.injEq] at hh
      obtain ⟨rfl, _⟩ := hh
      exact tail _ news (by rw [hl, Nat.zero_add]) k h3 h4
  · by_cases hroom : n + m ≤ cap
    · have hfit : n * i.size + news.length ≤ cur.size := by rw [hl, hcs, ← Nat.add_mul]; exact Nat.mul_le_mul_right _ hroom
      have h2 := run_append_room (P := P) (ty := ty) w t e i ht hi q n cap cur hq ad m c news hl hnews h1 hroom hfit
      rw [h2] at hr
      cases hr
      intro g cs hg hh k h3 h4
      obtain rfl : q = g := Option.some.inj hg
      rw [setRow_heap w q cur _ e _ hq] at hh
      simp only [Option.some.injEq, Obj.cells.injEq] at hh
      obtain ⟨rfl, _⟩ := hh
      have hn1 : n * i.size + m * i.size ≤ k := by rw [← Nat.add_mul]; exact h3
      simp only [List.size_toArray, List.length_append, List.length_take, List.length_drop, Array.length_toList] at h4
      have := hR q cur rfl hq k (by omega) (by omega)
      rw [← this, Array.getD_eq_getD_getElem?, Array.getD_eq_getD_getElem?, List.getElem?_toArray, List.getElem?_append_right (by simp only [List.length_append, List.length_take, Array.length_toList]; omega), List.getElem?_drop]
      simp only [List.length_append, List.length_take, Array.length_toList]
      rw [Array.getElem?_toList, show n * i.size + news.length + (k - (min (n * i.size) cur.size + news.length)) = k by omega]
    · have h2 := run_append_grow (P := P) (ty := ty) w t e i z ht hi hz ⟨q, 0, none⟩ n cap xs hown.1 (hown.cells (g := q) rfl) ad m c news hl hnews (by omega) (by omega) (growslice_fits (by omega) hbytes)
      rw [h2] at hr
      cases hr
      intro g cs hg hh k h3 h4
      obtain rfl : w.heap.size = g := Option.some.inj hg
      have hh := (Go.heap_alloc_new w.drew _).symm.trans hh
      simp only [Option.some.injEq, Obj.cells.injEq] at hh
      obtain ⟨rfl, _⟩ := hh
      have e1 : xs.toArray ++ news.toArray = (xs ++ news).toArray := by simp
      rw [e1] at h4 ⊢
      exact tail _ (xs ++ news) (by rw [List.length_append, hown.1, hl, Nat.add_mul]) k h3 h4
theorem run_app {t ty e : TypeId} {i : TypeInfo} {z : Value} {sz bytes : Nat} (ht : P.underlying t = some (.slice e)) (hi : P.info? e = some i) (hz : i.zero = some z) (hsize : i.size = sz) (hby : i.bytes = bytes) (hzs : z.cells.size = sz) (hsz : 0 < sz)
    {v : Value} {n : Nat} {xs : List Value} (hown : w.ownsRow 0 e sz v n xs) {A : Option Addr} {m c : Nat} {nu : Nat → Value} (hsrc : ∀ k, k < m * sz → ∃ ad, A = some ad ∧ w.cell? (ad.add k) = some (nu k) ∧ (nu k).oneCell' = true)
    (h63 : n + m ≤ maxLen) (hbytes : (n + m) * bytes ≤ 140737488355328) :
    ∃ v' w', (Builtin.append_ #[t, t] ty #[v, .slice A m c]).run P w = .ok v' w' ∧ w'.ownsRow 0 e sz v' (n + m) (xs ++ (List.range (m * sz)).map nu) ∧ w.grownBy w' v.ownBlock ∧
      (v' = .slice none 0 0 ↔ v = .slice none 0 0 ∧ m = 0) ∧ (v'.ownBlock = v.ownBlock ∨ v'.ownBlock = some w.heap.size) ∧
      (∀ g k, v.ownBlock = some g → k < n * sz → look w' g k = look w g k) ∧ ∀ zr, rmOf z.cells.toList = some zr → RoomW w v e sz n zr → RoomW w' v' e sz (n + m) zr := by
  cases A with
  | none =>
    have hm : m = 0 := by
      rcases Nat.eq_zero_or_pos m with h0 | h0
      · exact h0
      · obtain ⟨ad, e, _⟩ := hsrc 0 (Nat.mul_pos h0 hsz)
        cases e
    subst hm
    refine ⟨v, w, ?_, by simpa using hown, World.grownBy.refl w _, by simp, .inl rfl, fun _ _ _ _ => rfl, fun _ _ h => h⟩
    rcases hown.2 with ⟨rfl, rfl⟩ | ⟨g, cap, cur, rfl, _, _, hnc, _⟩
    · simp [Builtin.append_, run_underlying ht, sizeOf, typeInfo, hi, Builtin.lenOf, Builtin.firstCells]
    · simp [Builtin.append_, run_underlying ht, sizeOf, typeInfo, hi, Builtin.lenOf, Builtin.firstCells, hnc, storeCells]
  | some ad =>
    have hnw : ∀ (j : Nat) (u : Value), ((List.range (m * sz)).map nu)[j]? = some u → w.cell? (ad.add j) = some u := fun j u hu => by
      have hj : j < m * sz := by
        have := (List.getElem?_eq_some_iff.1 hu).1
        simpa using this
      obtain ⟨ad', e1, e2, _⟩ := hsrc j hj
      cases e1
      rw [e2]
      rw [List.getElem?_map, List.getElem?_range hj] at hu
      exact hu
    have hn1 : ∀ u ∈ (List.range (m * sz)).map nu, u.oneCell' = true := fun u hu => by
      obtain ⟨k, hk, rfl⟩ := List.mem_map.1 hu
      exact (hsrc k (by simpa using hk)).choose_spec.2.2
    obtain ⟨v', w', r1, r2, r3, r4, r5⟩ := run_append_own_at (P := P) w 0 t ty e i z sz bytes ht hi hz hsize hby hzs hsz v n xs hown ad m c _ (by simp) hnw hn1 h63 hbytes (Nat.zero_le _)
    exact ⟨v', w', r1, r2, r3, r4, r5, fun g k hg hk => app_old (P := P) ht hi hz hsize hby hsz hown (by simp) hnw hn1 h63 hbytes r1 hg hk, fun zr q1 q2 => app_room (P := P) ht hi hz hsize hby hzs hsz hown (by simp) hnw hn1 h63 hbytes r1 q1 q2⟩

def AppRun (P : Program) (w : World) (t t' ty e : TypeId) (sz : Nat) (zr : Option (List Zc)) (x : Value) (m : Nat) (nu : Nat → Value) (v : Value) (n : Nat) (xs : List Value) : Prop :=
  ∃ v' w', (Builtin.append_ #[t, t'] ty #[v, x]).run P w = .ok v' w' ∧ w'.ownsRow 0 e sz v' (n + m) (xs ++ (List.range (m * sz)).map nu) ∧ w.grownBy w' v.ownBlock ∧
      (v' = .slice none 0 0 ↔ v = .slice none 0 0 ∧ m = 0) ∧ (v'.ownBlock = v.ownBlock ∨ v'.ownBlock = some w.heap.size) ∧
      (∀ g k, v.ownBlock = some g → k < n * sz → look w' g k = look w g k) ∧ ∀ z, zr = some z → RoomW w v e sz n z → RoomW w' v' e sz (n + m) z
theorem nums_str (s : ByteArray) : (List.range (s.size * 1)).map (fun k => Value.int .u8 (bAt s k)) = Lib.strCells s := by
  refine List.ext_getElem (by simp [Lib.strCells_length]) fun k h1 h2 => ?_
  have hk : k < s.data.toList.length := by simpa [Lib.strCells_length] using h1
  simp only [List.getElem_map, List.getElem_range, Lib.strCells, bAt, List.getD_eq_getElem?_getD, List.getElem?_eq_getElem hk, Option.getD_some]
theorem run_app_str {t u ty e : TypeId} {i : TypeInfo} (ht : P.underlying t = some (.slice e)) (hu : P.underlying u = some .string) (hi : P.info? e = some i) (hz : i.zero = some (.int .u8 0)) (hsize : i.size = 1) (hby : i.bytes = 1)
    {v : Value} {n : Nat} {xs : List Value} (hown : w.ownsRow 0 e 1 v n xs) (s : ByteArray) (h63 : n + s.size ≤ maxLen) (hbytes : n + s.size ≤ 140737488355328) :
    AppRun P w t u ty e 1 none (.string s) s.size (fun k => .int .u8 (bAt s k)) v n xs := by
  obtain ⟨v', w', hr, h1, h2, h3⟩ := Lib.run_append_own_string (P := P) w 0 t u ty e i ht hu hi hz hsize hby v n xs hown s h63 hbytes (Nat.zero_le _)
  have hsmall : n + s.size ≤ 9223372036854775807 := by simp only [maxLen] at h63; omega
  have hxl : xs.length = n := by simpa using hown.1
  refine ⟨v', w', hr, by rw [nums_str]; exact h1, h2, h3, ?_, ?_, nofun⟩
  · rcases hown.2 with ⟨rfl, rfl⟩ | ⟨g, cap, cur, rfl, _, hg, hnc, hcm, hcs, htake⟩
    · by_cases hm : s.size = 0
      · exact .inl (by rw [h3.2 ⟨rfl, hm⟩])
      · have h4 := run_append_nil_string (P := P) (ty := ty) w t u e i (.int .u8 0) ht hu hi hz s (by omega) (by omega) (by rw [hby]; omega)
        rw [h4] at hr
        cases hr
        exact .inr rfl
    · by_cases hroom : n + s.size ≤ cap
      · have h4 := Lib.run_append_room_string (P := P) (ty := ty) w t u e i ht hu hi hsize g n cap cur hg s hroom (by rw [hcs]; omega)
        rw [h4] at hr
        cases hr
        exact .inl rfl
      · have h4 := Lib.run_append_grow_string (P := P) (ty := ty) w t u e i (.int .u8 0) ht hu hi hz ⟨g, 0, none⟩ n cap xs (by rw [hsize]; simpa using hxl) (hown.cells (g := g) rfl) s (by omega) (by omega) (by rw [hby]; exact growslice_fits (by omega) (by omega))
        rw [h4] at hr
        cases hr
        exact .inr rfl
  · intro q k hq hk
    rcases hown.2 with ⟨rfl, rfl⟩ | ⟨g, cap, cur, rfl, _, hg, hnc, hcm, hcs, htake⟩
    · cases hq
    · obtain rfl : g = q := Option.some.inj hq
      by_cases hroom : n + s.size ≤ cap
      · have h4 := Lib.run_append_room_string (P := P) (ty := ty) w t u e i ht hu hi hsize g n cap cur hg s hroom (by rw [hcs]; omega)
        rw [h4] at hr
        cases hr
        refine Prod.ext ?_ ((frozen_row (setRow_heap w g cur _ e _ hg)).trans (frozen_row hg).symm)
        show World.cell? _ _ = World.cell? _ _
        rw [cell_of_row _ g k _ e (0, 0) (setRow_heap w g cur _ e _ hg), cell_of_row w g k cur e (0, 0) hg]
        simp only [List.getElem?_toArray]
        rw [List.append_assoc, List.getElem?_append_left (by rw [List.length_take, Array.length_toList]; omega), List.getElem?_take, if_pos (by omega), Array.getElem?_toList]
      · have h4 := Lib.run_append_grow_string (P := P) (ty := ty) w t u e i (.int .u8 0) ht hu hi hz ⟨g, 0, none⟩ n cap xs (by rw [hsize]; simpa using hxl) (hown.cells (g := g) rfl) s (by omega) (by omega) (by rw [hby]; exact growslice_fits (by omega) (by omega))
        rw [h4] at hr
        cases hr
        exact look_of_block (Go.heap_alloc_old w.drew _ (Array.getElem?_eq_some_iff.1 hg).1)
theorem run_app_src {t ty e : TypeId} {i : TypeInfo} {z : Value} {sz bytes : Nat} (ht : P.underlying t = some (.slice e)) (hi : P.info? e = some i) (hz : i.zero = some z) (hsize : i.size = sz) (hby : i.bytes = bytes) (hzs : z.cells.size = sz) (hsz : 0 < sz)
    {ok : Sees} {v : Value} {n : Nat} {xs : List Value} {g : Nat → Nat → T} (hown : w.ownsRow 0 e sz v n xs)
    {x : Value} {m : Nat} (hsrc : ∃ A c, x = .slice A m c ∧ ∀ i j, i < m → j < sz → ∃ ad u, A = some ad ∧ w.cell? (ad.add (i * sz + j)) = some u ∧ u.oneCell' = true ∧ (g i j).rel ok w u)
    (h63 : n + m ≤ maxLen) (hbytes : (n + m) * bytes ≤ 140737488355328) :
    ∃ nu : Nat → Value, (∀ k, k < m * sz → (nu k).oneCell' = true ∧ (g (k / sz) (k % sz)).rel ok w (nu k)) ∧ AppRun P w t t ty e sz (rmOf z.cells.toList) x m nu v n xs := by
  obtain ⟨A, c, rfl, hsrc⟩ := hsrc
  have hex : ∀ k, ∃ u, k < m * sz → ∃ ad, A = some ad ∧ w.cell? (ad.add k) = some u ∧ u.oneCell' = true ∧ (g (k / sz) (k % sz)).rel ok w u := fun k => by
    by_cases hk : k < m * sz
    · obtain ⟨ad, u, g1, g2, g3, g4⟩ := hsrc (k / sz) (k % sz) (Nat.div_lt_of_lt_mul (by rw [Nat.mul_comm]; exact hk)) (Nat.mod_lt _ hsz)
      have e : k / sz * sz + k % sz = k := by rw [Nat.mul_comm]; exact Nat.div_add_mod k sz
      rw [e] at g2
      exact ⟨u, fun _ => ⟨ad, g1, g2, g3, g4⟩⟩
    · exact ⟨undef, fun h => absurd h hk⟩
  obtain ⟨nu, hnu⟩ := Classical.axiomOfChoice hex
  exact ⟨nu, fun k hk => by obtain ⟨ad, a1, a2, a3, a4⟩ := hnu k hk; exact ⟨a3, a4⟩, run_app (P := P) (ty := ty) (c := c) ht hi hz hsize hby hzs hsz hown (A := A) (m := m) (nu := nu) (fun k hk => by obtain ⟨ad, a1, a2, a3, _⟩ := hnu k hk; exact ⟨ad, a1, a2, a3⟩) h63 hbytes⟩

theorem app_core (zz : Zz) (hzz : zz ≠ .sh) (h : Rel E ρ σ a w) {t t' ty e : TypeId} {sz : Nat} (hsz : 0 < sz)
    {id : Nat} (hid : id < σ.next) {v : Value} {n ver' : Nat} {xs : List Value} {zr : Option (List Zc)} (hzr : ∀ z, zz = .own (some z) → zr = some z ∧ z.length = sz ∧ RoomW w v e sz n z) {f g : Nat → Nat → T} (hown : w.ownsRow 0 e sz v n xs)
    (hold : ∀ i j, i < n → j < sz → (xs.getD (i * sz + j) undef).oneCell' = true ∧ (f i j).rel (okb E.b ρ σ.O) w (xs.getD (i * sz + j) undef))
    (hloc : (v = .slice none 0 0 ∧ n = 0 ∧ ∀ o, σ.O id = some o → o.live = true → ρ id = none) ∨ ∃ g c o, v = .slice (some ⟨g, 0, none⟩) n c ∧ ρ id = some g ∧ σ.O id = some o ∧ o.live = true)
    (hver : ∀ o, σ.O id = some o → o.ver < ver') (hlo : ∀ o, σ.O id = some o → o.lo ≤ n * sz ∧ (o.lo ≠ 0 → zz = .app))
    {x : Value} {m : Nat} {nu : Nat → Value} (hnu : ∀ k, k < m * sz → (nu k).oneCell' = true ∧ (g (k / sz) (k % sz)).rel (okb E.b ρ σ.O) w (nu k)) (hrunx : AppRun P w t t' ty e sz zr x m nu v n xs) :
    ∃ v' w' p, (Builtin.append_ #[t, t'] ty #[v, x]).run P w = .ok v' w' ∧
      Rel E (pset ρ id p) (σ.setO id (.arr zz e sz ver' (n + m) fun i j => if i < n then f i j else g (i - n) j)) a w' ∧
      (V.buf id ver' 0 (n + m)).rel E.b (pset ρ id p) (σ.setO id (.arr zz e sz ver' (n + m) fun i j => if i < n then f i j else g (i - n) j)).O w' v' := by
  obtain ⟨v', w', hrun, hown', hgb, hnil, hblk, hst, hrm⟩ := hrunx
  have hxl : xs.length = n * sz := hown.1
  have hlist : ∀ i j, i < n + m → j < sz → ((xs ++ (List.range (m * sz)).map nu).getD (i * sz + j) undef).oneCell' = true ∧
      ((if i < n then f i j else g (i - n) j) : T).rel (okb E.b ρ σ.O) w ((xs ++ (List.range (m * sz)).map nu).getD (i * sz + j) undef) := by
    intro i j hi' hj
    by_cases hin : i < n
    · have hlt : i * sz + j < xs.length := by
        have : (i + 1) * sz ≤ n * sz := Nat.mul_le_mul_right _ hin
        rw [Nat.add_mul] at this
        omega
      rw [if_pos hin, List.getD_eq_getElem?_getD, List.getElem?_append_left hlt, ← List.getD_eq_getElem?_getD]
      exact hold i j hin hj
    · have hk : (i - n) * sz + j < m * sz := by
        have : (i - n + 1) * sz ≤ m * sz := Nat.mul_le_mul_right _ (by omega)
        rw [Nat.add_mul] at this
        omega
      have hge : xs.length ≤ i * sz + j := by
        have : n * sz ≤ i * sz := Nat.mul_le_mul_right _ (by omega)
        omega
      have e1 : i * sz + j - xs.length = (i - n) * sz + j := by
        rw [hxl, Nat.sub_mul]
        have : n * sz ≤ i * sz := Nat.mul_le_mul_right _ (by omega)
        omega
      obtain ⟨a3, a4⟩ := hnu _ hk
      rw [if_neg hin, List.getD_eq_getElem?_getD, List.getElem?_append_right hge, e1, List.getElem?_map, List.getElem?_range hk]
      have e2 : ((i - n) * sz + j) / sz = i - n := by
        rw [Nat.mul_comm, Nat.mul_add_div hsz, Nat.div_eq_of_lt hj, Nat.add_zero]
      have e3 : ((i - n) * sz + j) % sz = j := by
        rw [Nat.mul_comm, Nat.mul_add_mod, Nat.mod_eq_of_lt hj]
      rw [e2, e3] at a4
      exact ⟨a3, a4⟩
  -- where the new row lies
  have hnew : ∃ p : Option Nat, (p = none ∧ v' = .slice none 0 0 ∧ n + m = 0) ∨ ∃ g' cap cur, p = some g' ∧ v' = .slice (some ⟨g', 0, none⟩) (n + m) cap ∧ w'.heap[g']? = some (.cells cur e (0, 0)) ∧ n + m ≤ cap ∧ cap ≤ maxLen ∧ cur.size = cap * sz ∧ cur.toList.take ((n + m) * sz) = xs ++ (List.range (m * sz)).map nu := by
    rcases hown'.2 with ⟨b1, b2⟩ | ⟨g', cap, cur, b1, _, b3, b4, b5, b6, b7⟩
    · exact ⟨none, .inl ⟨rfl, b1, b2⟩⟩
    · exact ⟨some g', .inr ⟨g', cap, cur, rfl, b1, b3, b4, b5, b6, b7⟩⟩
  obtain ⟨p, hp⟩ := hnew
  have hob : ∀ g', p = some g' → v'.ownBlock = some g' := by
    intro g' hg'
    rcases hp with ⟨b1, _⟩ | ⟨g'', cap, cur, b1, b2, _⟩
    · rw [b1] at hg'; cases hg'
    · rw [b1] at hg'; cases hg'
      rw [b2]; rfl
  obtain ⟨hr, ext⟩ := h.one id hid (.arr zz e sz ver' (n + m) fun i j => if i < n then f i j else g (i - n) j) p w'
    (fun g0 hg0 hne => hgb.block g0 hg0 (fun he => by
      rcases hloc with ⟨rfl, _, _⟩ | ⟨g1, c1, o1, rfl, l2, l3, l4⟩
      · cases he
      · simp only [Value.ownBlock, Option.some.injEq] at he
        exact hne o1 l3 l4 (by rw [l2, he])))
    (fun g' _ hg' => by
      have hlt : g' < w'.heap.size := by
        rcases hp with ⟨b1, _⟩ | ⟨g'', cap, cur, b1, b2, b3, _⟩
        · rw [b1] at hg'; cases hg'
        · rw [b1] at hg'; cases hg'
          exact (Array.getElem?_eq_some_iff.1 b3).1
      refine ⟨hlt, ?_⟩
      have := hob g' hg'
      rcases hblk with hb | hb
      · rw [this] at hb
        rcases hloc with ⟨rfl, _, _⟩ | ⟨g1, c1, o1, rfl, l2, l3, l4⟩
        · cases hb
        · simp only [Value.ownBlock, Option.some.injEq] at hb
          exact .inl ⟨o1, l3, l4, by rw [l2, hb]⟩
      · rw [this] at hb
        cases hb
        exact .inr (Nat.le_refl _))
    (fun o g k ho hl hg hk => by
      obtain ⟨l1, l2⟩ := hlo o ho
      rcases hloc with ⟨_, _, q⟩ | ⟨g1, c1, o1, rfl, q1, q2, q3⟩
      · rw [q o ho hl] at hg; cases hg
      · rw [hg] at q1; cases q1
        refine ⟨hst g k rfl (by omega), fun _ _ => ?_⟩
        have hzz := l2 (by omega)
        subst hzz
        show k < (n + m) * sz
        rw [Nat.add_mul]; omega)
    (fun o ho => ⟨Nat.le_of_lt (hver o ho), fun e => by
      have e' : ver' = o.ver := e
      have := hver o ho
      omega⟩)
    (fun ext => by
      rcases hp with ⟨b1, b2, b3⟩ | ⟨g', cap, cur, b1, b2, b3, b4, b5, b6, b7⟩
      · exact .inl ⟨b1, b3⟩
      · refine .inr ⟨g', cur, cap, b1, b3, b6, b4, ⟨b5, fun h => absurd h hzz, fun z hz => ?_⟩, fun i j hi' hj => ?_⟩
        · obtain ⟨r1, r2, r3⟩ := hzr z hz
          exact ⟨r2, fun k k1 k2 => hrm z r1 r3 g' cur (by rw [b2]; rfl) b3 k k1 (by rw [b6]; exact k2)⟩
        obtain ⟨c1, c2⟩ := hlist i j hi' hj
        have hlt : i * sz + j < (n + m) * sz := by
          have : (i + 1) * sz ≤ (n + m) * sz := Nat.mul_le_mul_right _ hi'
          rw [Nat.add_mul] at this
          omega
        have e1 : cur.getD (i * sz + j) undef = (xs ++ (List.range (m * sz)).map nu).getD (i * sz + j) undef := by
          rw [← b7, List.getD_eq_getElem?_getD, List.getElem?_take, if_pos hlt, ← List.getD_eq_getElem?_getD, getD_toList]
        rw [e1]
        exact ⟨c1, T.rel_mono ext.okb c2⟩)
    hgb.size hgb.os hgb.tape hgb.output
  refine ⟨v', w', p, hrun, hr, ?_⟩
  rcases hp with ⟨b1, b2, b3⟩ | ⟨g', cap, cur, b1, b2, b3, b4, b5, b6, b7⟩
  · exact ⟨none, 0, _, by rw [b2, b3], by omega, setO_self _ _, Nat.le_refl _, fun _ => ⟨_, _, _, _, _, rfl, by omega, .inl ⟨by simp [pset, b1], rfl, rfl, rfl⟩⟩⟩
  · exact ⟨_, cap, _, b2, b4, setO_self _ _, Nat.le_refl _, fun _ => ⟨_, _, _, _, _, rfl, by omega, .inr ⟨g', cur, by simp [pset, b1], fun _ => by simp, b3, by rw [b6, Nat.zero_add]⟩⟩⟩

theorem app_ok (h : Rel E ρ σ a w) (hf : σ.O fr = none) (hn : fr < σ.next) (hd : ∀ t, o.dst = some t → t < σ.N) (c : Call) (e sz : Nat) (z : List Value) (bytes : Nat) (s x : Operand) (hcb : c.callee = .builtin .append) (ho : o.op = .call c) (hc : comp P o = some (.app e sz z bytes s x)) {rd v ups}
    (k : (asem σ fr (.app e sz z bytes s x)).wp P σ.O fr fun a b c => a = rd ∧ b = v ∧ c = ups) : Comes' P E (σ.upd o.dst v ups) o a w := by
  have hs := aev_rel h s
  obtain ⟨callee, args, argTypes⟩ := c
  simp only at hcb
  subst hcb
  unfold comp at hc
  rw [ho] at hc
  simp only at hc
  split at hc <;> try (simp at hc; done)
  rename_i s' x' t t' ea et
  obtain ⟨args⟩ := args
  obtain ⟨argTypes⟩ := argTypes
  simp only at ea et
  subst ea et
  split at hc <;> try (simp at hc; done)
  rename_i el hu
  split at hc
  rotate_left
  · exfalso
    (repeat' (split at hc)) <;> simp at hc
  rename_i hst
  obtain ⟨el', hu'⟩ : ∃ el', P.underlying t' = some (.slice el') := by
    unfold srcT at hst
    split at hst
    · rename_i q hq; exact ⟨q, hq⟩
    · cases hst
  simp only [Option.map_eq_some_iff, AOp.app.injEq] at hc
  obtain ⟨zz, hz, rfl, rfl, rfl, rfl, rfl, rfl⟩ := hc
  obtain ⟨i, v0, h1, h2, h3, h4, h5, rfl⟩ := zOf_some hz
  have hrun : ∀ v' w', (Builtin.append_ #[t, t] o.type #[a.eval s', a.eval x']).run P w = .ok v' w' → (execOp a.eval o).run P w = .ok (.value v') w' := fun v' w' hr => by
    simp [execOp, ho, resolve, invoke, builtin, run_append_ty hu hu', hr, Result.andThen]
  replace k := wp_drop k
  simp only [asem] at k
  split at k
  · rename_i id ver off len e
    rw [e] at hs
    obtain ⟨A, c, ob, e1, e2, e3, e4, e5⟩ := hs
    obtain ⟨ob', e3', k⟩ := k
    rw [e3] at e3'
    cases e3'
    cases ob with
    | map => exact k.1.elim
    | gone v => exact k.1.elim
    | var el' size f => exact k.1.elim
    | arr zz' el' size ver' n f =>
      obtain ⟨⟨hne, rfl, rfl, hlen, rfl, rfl⟩, k⟩ := k
      obtain ⟨m, g, k, hsrc⟩ := srcOf_wp (R := fun b c => b = v ∧ c = ups) h k
      obtain ⟨⟨b1, b2⟩, rfl, rfl⟩ := k
      obtain ⟨_, _, _, _, _, hob, hoff, hp⟩ := e5 rfl
      cases hob
      have hid : id < σ.next := by
        rcases Nat.lt_or_ge id σ.next with hl | hl
        · exact hl
        · rw [h.nx id hl] at e3; cases e3
      rcases hp with ⟨p1, rfl, rfl, _⟩ | ⟨g', cs, p1, p2, p3, p4⟩
      · have hl0 : len = 0 := by
          rcases h.ob id _ e3 with ⟨_, q⟩ | ⟨g', _, _, q1, _⟩
          · omega
          · rw [p1] at q1; cases q1
        subst hl0
        obtain ⟨nu, hnu, hrunx⟩ := run_app_src (ty := o.type) hu h1 h2 rfl rfl h3 h5 (World.ownsRow_nil w 0 _ _) hsrc (by simpa using b1) (by simpa using b2)
        obtain ⟨v', w', p, r1, r2, r3⟩ := app_core (t' := t) (ty := o.type) (ver' := ver' + 1) (f := f) (zz'.gr (rmOf v0.cells.toList)) (Zz.gr_sh hne) h h5 hid (fun z hz => ⟨(Zz.gr_own hz).2, (by rw [(rmOf_some (Zz.gr_own hz).2).1, Array.length_toList, h3]), fun _ _ hb => by cases hb⟩) (World.ownsRow_nil w 0 _ _) (fun i j hi => by omega) (.inl ⟨rfl, rfl, fun _ _ _ => p1⟩) (fun o ho => by rw [e3] at ho; cases ho; simp [Ob.ver]) (fun o ho => by rw [e3] at ho; cases ho; first | (rcases hlen with rfl | ⟨rfl, _⟩ <;> first | (cases zz' <;> simp [Ob.lo, Zz.gr]; done) | simp [Ob.lo, Zz.gr]) | (cases zz' <;> simp [Ob.lo, Zz.gr])) hnu hrunx
        rw [← e1] at r1
        exact comes_made r2 hd (hrun _ _ r1) r3
      · rcases h.ob id _ e3 with ⟨q1, -⟩ | ⟨g2, cs2, cap, q1, q2, q3, q4, q5, q6⟩
        · rw [p1] at q1; cases q1
        rw [p1] at q1; cases q1
        rw [p3] at q2; cases q2
        have hA := p2 (.inr rfl)
        rw [Nat.zero_mul] at hA
        subst hA
        have hcap : c = cap := by
          have := p4.trans q3
          rw [Nat.zero_add] at this
          exact Nat.eq_of_mul_eq_mul_right h5 this
        subst hcap
        have hln : len ≤ n := by rcases hlen with rfl | ⟨_, hq⟩ <;> omega
        have q4 : len ≤ c := Nat.le_trans hln q4
        have hle : len * i.size ≤ c * i.size := Nat.mul_le_mul_right _ q4
        obtain ⟨nu, hnu, hrunx⟩ := run_app_src (ty := o.type) hu h1 h2 rfl rfl h3 h5 (v := .slice (some ⟨g', 0, none⟩) len c) (xs := cs.toList.take (len * i.size)) (n := len) ⟨by simp; omega, .inr ⟨g', c, cs, rfl, Nat.zero_le _, p3, q4, q5.1, q3, rfl⟩⟩ hsrc b1 b2
        obtain ⟨v', w', p, r1, r2, r3⟩ := app_core (t' := t) (ty := o.type) (ver' := ver' + 1) (f := f) (zz'.gr (rmOf v0.cells.toList)) (Zz.gr_sh hne) h h5 hid (v := .slice (some ⟨g', 0, none⟩) len c) (xs := cs.toList.take (len * i.size)) (n := len) (fun z hz => by
            obtain ⟨z1, z2⟩ := Zz.gr_own hz
            subst z1
            obtain rfl : len = n := by
              rcases hlen with hl | ⟨hl, _⟩
              · exact hl
              · cases hl
            obtain ⟨r1, r2⟩ := q5.2.2 z rfl
            refine ⟨z2, r1, fun g cs' hb hh k k1 k2 => ?_⟩
            obtain rfl : g' = g := Option.some.inj hb
            rw [p3] at hh
            cases hh
            exact r2 k k1 (by rw [← q3]; exact k2))
          ⟨by simp; omega, .inr ⟨g', c, cs, rfl, Nat.zero_le _, p3, q4, q5.1, q3, rfl⟩⟩ (fun i' j hi hj => by
            have hlt : i' * i.size + j < len * i.size := by
              have : (i' + 1) * i.size ≤ len * i.size := Nat.mul_le_mul_right _ hi
              rw [Nat.add_mul] at this
              omega
            rw [List.getD_eq_getElem?_getD, List.getElem?_take, if_pos hlt, ← List.getD_eq_getElem?_getD, getD_toList]
            exact q6 i' j (Nat.lt_of_lt_of_le hi hln) hj) (.inr ⟨g', c, _, rfl, p1, e3, by cases zz' <;> first | rfl | exact absurd rfl hne⟩) (fun o ho => by rw [e3] at ho; cases ho; simp [Ob.ver]) (fun o ho => by rw [e3] at ho; cases ho; first | (rcases hlen with rfl | ⟨rfl, _⟩ <;> first | (cases zz' <;> simp [Ob.lo, Zz.gr]; done) | simp [Ob.lo, Zz.gr]) | (cases zz' <;> simp [Ob.lo, Zz.gr])) hnu hrunx
        rw [← e1] at r1
        exact comes_made r2 hd (hrun _ _ r1) r3
  · rename_i e
    rw [e] at hs
    have hs' : a.eval s' = .slice none 0 0 := hs
    obtain ⟨m, g, k, hsrc⟩ := srcOf_wp (R := fun b c => b = v ∧ c = ups) h k
    obtain ⟨⟨b1, b2⟩, rfl, rfl⟩ := k
    obtain ⟨nu, hnu, hrunx⟩ := run_app_src (ty := o.type) hu h1 h2 rfl rfl h3 h5 (World.ownsRow_nil w 0 _ _) hsrc (by simpa using b1) (by simpa using b2)
    obtain ⟨v', w', p, r1, r2, r3⟩ := app_core (t' := t) (ty := o.type) (ver' := 0) (f := g) (g := g) (.own (rmOf v0.cells.toList)) (nofun) h h5 hn (fun z hz => by
      simp only [Zz.own.injEq] at hz
      exact ⟨hz, (by rw [(rmOf_some hz).1, Array.length_toList, h3]), fun _ _ hb => by cases hb⟩) (World.ownsRow_nil w 0 _ _) (fun i j hi => by omega) (.inl ⟨rfl, rfl, fun o ho => by rw [hf] at ho; cases ho⟩) (fun o ho => by rw [hf] at ho; cases ho) (fun o ho => by rw [hf] at ho; cases ho) hnu hrunx
    rw [← hs'] at r1
    have e0 : (fun i j => if i < 0 then g i j else g (i - 0) j) = g := by funext i j; simp
    rw [e0, Nat.zero_add] at r2 r3
    exact comes_made r2 hd (hrun _ _ r1) r3
  · exact k.1.elim
theorem apps_ok (h : Rel E ρ σ a w) (hf : σ.O fr = none) (hn : fr < σ.next) (hd : ∀ t, o.dst = some t → t < σ.N) (c : Call) (e : Nat) (s x : Operand) (hcb : c.callee = .builtin .append) (ho : o.op = .call c) (hc : comp P o = some (.apps e s x)) {rd v ups}
    (k : (asem σ fr (.apps e s x)).wp P σ.O fr fun a b c => a = rd ∧ b = v ∧ c = ups) : Comes' P E (σ.upd o.dst v ups) o a w := by
  have hs := aev_rel h s
  have hx := aev_rel h x
  obtain ⟨callee, args, argTypes⟩ := c
  simp only at hcb
  subst hcb
  unfold comp at hc
  rw [ho] at hc
  simp only at hc
  split at hc <;> try (simp at hc; done)
  rename_i s' x' t t' ea et
  obtain ⟨args⟩ := args
  obtain ⟨argTypes⟩ := argTypes
  simp only at ea et
  subst ea et
  split at hc <;> try (simp at hc; done)
  rename_i el hu
  split at hc
  · simp at hc
  split at hc
  rotate_left
  · exfalso
    (repeat' (split at hc)) <;> simp at hc
  simp only [Option.some.injEq, AOp.apps.injEq] at hc
  rename_i hst
  obtain ⟨rfl, rfl, rfl⟩ := hc
  obtain ⟨i, hu', h1, h2, h3, h4⟩ : ∃ i, P.underlying t' = some .string ∧ P.info? el = some i ∧ i.zero = some (.int .u8 0) ∧ i.size = 1 ∧ i.bytes = 1 := by
    unfold strT at hst
    split at hst
    · rename_i i hq1 hq2
      split at hst
      · rename_i n hz
        simp only [Bool.and_eq_true, beq_iff_eq] at hst
        obtain ⟨rfl, e1, e2⟩ := hst
        exact ⟨i, hq1, hq2, hz, e1, e2⟩
      · cases hst
    · cases hst
  have hrun : ∀ v' w', (Builtin.append_ #[t, t'] o.type #[a.eval s', a.eval x']).run P w = .ok v' w' → (execOp a.eval o).run P w = .ok (.value v') w' := fun v' w' hr => by
    simp [execOp, ho, resolve, invoke, builtin, hr, Result.andThen]
  have hnu : ∀ q : ByteArray, ∀ k, k < q.size * 1 → (Value.int .u8 (bAt q k)).oneCell' = true ∧ (T.val (.int .u8 (bAt q (k / 1)))).rel (okb E.b ρ σ.O) w (Value.int .u8 (bAt q k)) := fun q k _ => ⟨rfl, by rw [Nat.div_one]; exact rfl⟩
  replace k := wp_drop k
  simp only [asem] at k
  split at k
  · rename_i q ex
    rw [ex] at hx
    have hx' : a.eval x' = .string q := hx
    split at k
    · rename_i id ver off len e
      rw [e] at hs
      obtain ⟨A, c, ob, e1, e2, e3, e4, e5⟩ := hs
      obtain ⟨ob', e3', k⟩ := k
      rw [e3] at e3'
      cases e3'
      cases ob with
      | map => exact k.1.elim
      | gone v => exact k.1.elim
      | var el' size f => exact k.1.elim
      | arr zz' el' size ver' n f =>
        obtain ⟨⟨hne, rfl, rfl, rfl, rfl, rfl⟩, ⟨b1, b2⟩, rfl, rfl⟩ := k
        obtain ⟨_, _, _, _, _, hob, hoff, hp⟩ := e5 rfl
        cases hob
        have hid : id < σ.next := by
          rcases Nat.lt_or_ge id σ.next with hl | hl
          · exact hl
          · rw [h.nx id hl] at e3; cases e3
        rcases hp with ⟨p1, rfl, rfl, _⟩ | ⟨g', cs, p1, p2, p3, p4⟩
        · have hl0 : len = 0 := by
            rcases h.ob id _ e3 with ⟨_, q⟩ | ⟨g', _, _, q1, _⟩
            · exact q
            · rw [p1] at q1; cases q1
          subst hl0
          obtain ⟨v', w', p, r1, r2, r3⟩ := app_core (t := t) (t' := t') (ty := o.type) (ver' := ver' + 1) (f := f) (g := fun i _ => .val (.int .u8 (bAt q i))) zz'.nr (Zz.nr_sh hne) h Nat.one_pos hid (fun z hz => absurd hz (zz'.nr_ne z)) (World.ownsRow_nil w 0 _ _) (fun i j hi => by omega) (.inl ⟨rfl, rfl, fun _ _ _ => p1⟩) (fun o ho => by rw [e3] at ho; cases ho; simp [Ob.ver]) (fun o ho => by rw [e3] at ho; cases ho; cases zz' <;> simp [Ob.lo])
            (hnu q) (run_app_str (ty := o.type) hu hu' h1 h2 h3 h4 (World.ownsRow_nil w 0 _ _) q b1 b2)
          rw [← e1, ← hx'] at r1
          exact comes_made r2 hd (hrun _ _ r1) r3
        · rcases h.ob id _ e3 with ⟨q1, -⟩ | ⟨g2, cs2, cap, q1, q2, q3, q4, q5, q6⟩
          · rw [p1] at q1; cases q1
          rw [p1] at q1; cases q1
          rw [p3] at q2; cases q2
          have hA := p2 (.inr rfl)
          rw [Nat.zero_mul] at hA
          subst hA
          have hcap : c = cap := by omega
          subst hcap
          have hown : w.ownsRow 0 el' 1 (.slice (some ⟨g', 0, none⟩) len c) len (cs.toList.take (len * 1)) := ⟨by simp; omega, .inr ⟨g', c, cs, rfl, Nat.zero_le _, p3, q4, q5.1, q3, rfl⟩⟩
          obtain ⟨v', w', p, r1, r2, r3⟩ := app_core (t := t) (t' := t') (ty := o.type) (ver' := ver' + 1) (f := f) (g := fun i _ => .val (.int .u8 (bAt q i))) zz'.nr (Zz.nr_sh hne) h Nat.one_pos hid (fun z hz => absurd hz (zz'.nr_ne z)) hown (fun i' j hi hj => by
              have hlt : i' * 1 + j < len * 1 := by omega
              rw [List.getD_eq_getElem?_getD, List.getElem?_take, if_pos hlt, ← List.getD_eq_getElem?_getD, getD_toList]
              exact q6 i' j hi hj) (.inr ⟨g', c, _, rfl, p1, e3, by cases zz' <;> first | rfl | exact absurd rfl hne⟩) (fun o ho => by rw [e3] at ho; cases ho; simp [Ob.ver]) (fun o ho => by rw [e3] at ho; cases ho; cases zz' <;> simp [Ob.lo, Zz.nr])
              (hnu q) (run_app_str (ty := o.type) hu hu' h1 h2 h3 h4 hown q b1 b2)
          rw [← e1, ← hx'] at r1
          exact comes_made r2 hd (hrun _ _ r1) r3
    · rename_i e
      rw [e] at hs
      have hs' : a.eval s' = .slice none 0 0 := hs
      obtain ⟨⟨b1, b2⟩, rfl, rfl⟩ := k
      obtain ⟨v', w', p, r1, r2, r3⟩ := app_core (t := t) (t' := t') (ty := o.type) (e := el) (ver' := 0) (f := fun i _ => .val (.int .u8 (bAt q i))) (g := fun i _ => .val (.int .u8 (bAt q i))) (.own none) (nofun) h Nat.one_pos hn (nofun) (World.ownsRow_nil w 0 _ _) (fun i j hi => by omega) (.inl ⟨rfl, rfl, fun o ho => by rw [hf] at ho; cases ho⟩) (fun o ho => by rw [hf] at ho; cases ho) (fun o ho => by rw [hf] at ho; cases ho)
        (hnu q) (run_app_str (ty := o.type) hu hu' h1 h2 h3 h4 (World.ownsRow_nil w 0 _ _) q (by rw [Nat.zero_add]; exact b1) (by rw [Nat.zero_add]; exact b2))
      rw [← hs', ← hx'] at r1
      have e0 : (fun i j => if i < 0 then (fun i _ => T.val (.int .u8 (bAt q i))) i j else (fun i _ => T.val (.int .u8 (bAt q i))) (i - 0) j) = fun (i : Nat) (_ : Nat) => T.val (.int .u8 (bAt q i)) := by funext i j; simp
      rw [e0, Nat.zero_add] at r2 r3
      exact comes_made r2 hd (hrun _ _ r1) r3
    · exact k.1.elim
  · exact k.1.elim
end
end Go.Proofs.Ytlmnhbobgfpanaa
