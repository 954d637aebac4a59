/-
  That a typed call does what the untyped one does. General; nothing of this program.
-/
import Derived.Test.YtlmnhbobgfpanaaDaH
namespace Go.Proofs.Ytlmnhbobgfpanaa
open Go.RowKit

theorem mk_len : ∀ (s : Sh) (x : den s.ty) (k : Nat), s.chain = true → (s.mk x k).1.length = s.len := by
  intro s
  induction s with
  | nil => intro x k _; rfl
  | cons a b _ ih2 => intro x k h; simp only [Sh.mk, Sh.len, List.length_cons]; rw [ih2 _ _ h]
  | _ => intro x k h; cases h
theorem V.cell_ren (u : V) (r : Nat → Nat) (t : Nat) : (u.ren r).cell t = (u.cell t).ren r := by
  cases u with
  | im t' =>
    cases t' <;> rfl
  | _ => rfl
theorem mkP_cnt (pp : Nat → Nat) : ∀ (s : Sh) (x : den s.ty) (k : Nat), (s.mkP pp x k).2.2 = k + s.cnt ∧ (s.mkP pp x k).2.1.map (·.1) = List.range' k s.cnt := by
  intro s
  induction s with
  | own zz e τ => intro x k; exact ⟨rfl, rfl⟩
  | box e n l ih =>
    intro x k
    obtain ⟨h1, h2⟩ := ih x (k + 1)
    exact ⟨by simp only [Sh.mkP, Sh.cnt, h1]; omega, by simp only [Sh.mkP, Sh.cnt, List.map_cons, h2]; rfl⟩
  | agg n l ih => intro x k; exact ih x k
  | tup n l ih => intro x k; exact ih x k
  | ifc t s ih => intro x k; exact ih x k
  | clo fn n l m c ih1 ih2 =>
    intro x k
    obtain ⟨h1, h2⟩ := ih1 x.1 k
    obtain ⟨h3, h4⟩ := ih2 x.2 (l.mkP pp x.1 k).2.2
    refine ⟨by simp only [Sh.mkP, Sh.cnt]; omega, ?_⟩
    rw [h1] at h4
    simp only [Sh.mkP, Sh.cnt, List.map_append, h2, h1, h4]
    exact List.range'_append_1 ..
  | cons a b ih1 ih2 =>
    intro x k
    obtain ⟨h1, h2⟩ := ih1 x.1 k
    obtain ⟨h3, h4⟩ := ih2 x.2 (a.mkP pp x.1 k).2.2
    refine ⟨by simp only [Sh.mkP, Sh.cnt]; omega, ?_⟩
    rw [h1] at h4
    simp only [Sh.mkP, Sh.cnt, List.map_append, h2, h1, h4]
    exact List.range'_append_1 ..
  | _ => intro x k; exact ⟨rfl, rfl⟩
theorem mk_renP (rr pp : Nat → Nat) : ∀ (s : Sh) (x : den s.ty) (k k' : Nat), (∀ i ∈ s.ptrs, rr i = pp i) → (∀ j, j < s.cnt → rr (k + j) = k' + j) →
    (∀ i, (dl (s.mk x k).1 i).toV.ren rr = (dl (s.mkP pp x k').1 i).toV) ∧ (s.mk x k).2.1.map (fun q => (rr q.1, q.2.toOb.ren rr)) = dups (s.mkP pp x k').2.1 := by
  intro s
  have one : ∀ {v v' : DV} {i : Nat}, v.toV.ren rr = v'.toV → (dl [v] i).toV.ren rr = (dl [v'] i).toV := fun {v v' i} h => by
    cases i with
    | zero => exact h
    | succ i => rfl
  induction s with
  | own zz e τ =>
    intro x k k' _ h
    have h0 := h 0 (by simp [Sh.cnt])
    simp only [Nat.add_zero] at h0
    refine ⟨fun i => one ?_, ?_⟩
    · simp only [DV.toV, V.ren, h0]
    · simp only [Sh.mk, Sh.mkP, List.map_cons, List.map_nil, h0]; rfl
  | mown ag κ τ =>
    intro x k k' _ h
    have h0 := h 0 (by simp [Sh.cnt])
    simp only [Nat.add_zero] at h0
    refine ⟨fun i => one ?_, ?_⟩
    · simp only [DV.toV, V.ren, h0]
    · simp only [Sh.mk, Sh.mkP, List.map_cons, List.map_nil, h0]; rfl
  | box e n l ih =>
    intro x k k' hp h
    have h0 := h 0 (by simp [Sh.cnt])
    simp only [Nat.add_zero] at h0
    obtain ⟨h1, h2⟩ := ih x (k + 1) (k' + 1) hp fun j hj => by
      have := h (j + 1) (by simp only [Sh.cnt]; omega)
      rw [show k + 1 + j = k + (j + 1) by omega, this]; omega
    refine ⟨fun i => one ?_, ?_⟩
    · simp only [DV.toV, V.ren, h0]
    · simp only [Sh.mk, Sh.mkP, List.map_cons, h0, h2]
      congr 2
      simp only [DOb.toOb, Ob.ren]
      congr 1
      exact funext h1
  | ptr id => intro x k k' hp _; exact ⟨fun i => one (by simp only [DV.toV, V.ren, hp id (by simp [Sh.ptrs])]), rfl⟩
  | agg n l ih =>
    intro x k k' hp h
    obtain ⟨h1, h2⟩ := ih x k k' hp h
    refine ⟨fun i => one ?_, h2⟩
    simp only [DV.toV, V.ren]
    congr 1
    exact funext h1
  | tup n l ih =>
    intro x k k' hp h
    obtain ⟨h1, h2⟩ := ih x k k' hp h
    refine ⟨fun i => one ?_, h2⟩
    simp only [DV.toV, V.ren]
    congr 1
    exact funext h1
  | ifc t s ih =>
    intro x k k' hp h
    obtain ⟨h1, h2⟩ := ih x k k' hp h
    refine ⟨fun i => one ?_, h2⟩
    simp only [DV.toV, V.ren]
    congr 1
    exact h1 0
  | clo fn n l m c ih1 ih2 =>
    intro x k k' hp h
    simp only [Sh.ptrs, List.mem_append] at hp
    have c1 := mk_cnt l x.1 k
    have c2 := mkP_cnt pp l x.1 k'
    obtain ⟨h1, h2⟩ := ih1 x.1 k k' (fun i hi => hp i (.inl hi)) fun j hj => h j (by simp only [Sh.cnt]; omega)
    obtain ⟨h3, h4⟩ := ih2 x.2 (l.mk x.1 k).2.2 (l.mkP pp x.1 k').2.2 (fun i hi => hp i (.inr hi)) fun j hj => by
      rw [c1.1, c2.1]
      have := h (l.cnt + j) (by simp only [Sh.cnt]; omega)
      rw [show k + l.cnt + j = k + (l.cnt + j) by omega, this]; omega
    refine ⟨fun i => one ?_, ?_⟩
    · simp only [DV.toV, V.ren]
      congr 1
      · exact funext h1
      · exact funext h3
    · simp only [Sh.mk, Sh.mkP, List.map_append, h2, h4, dups]
  | cons a b ih1 ih2 =>
    intro x k k' hp h
    simp only [Sh.ptrs, List.mem_append] at hp
    have c1 := mk_cnt a x.1 k
    have c2 := mkP_cnt pp a x.1 k'
    obtain ⟨h1, h2⟩ := ih1 x.1 k k' (fun i hi => hp i (.inl hi)) fun j hj => h j (by simp only [Sh.cnt]; omega)
    obtain ⟨h3, h4⟩ := ih2 x.2 (a.mk x.1 k).2.2 (a.mkP pp x.1 k').2.2 (fun i hi => hp i (.inr hi)) fun j hj => by
      rw [c1.1, c2.1]
      have := h (a.cnt + j) (by simp only [Sh.cnt]; omega)
      rw [show k + a.cnt + j = k + (a.cnt + j) by omega, this]; omega
    refine ⟨fun i => ?_, ?_⟩
    · cases i with
      | zero => simp only [Sh.mk, Sh.mkP, dl_cons_zero]; exact h1 0
      | succ i => simp only [Sh.mk, Sh.mkP, dl_cons_succ]; exact h3 i
    · simp only [Sh.mk, Sh.mkP, List.map_append, h2, h4, dups]
  | nil => intro x k k' _ _; exact ⟨fun i => rfl, rfl⟩
  | hole τ => intro x k k' _ _; exact ⟨fun i => one rfl, rfl⟩
  | nilp => intro x k k' _ _; exact ⟨fun i => one rfl, rfl⟩
  | nils => intro x k k' _ _; exact ⟨fun i => one rfl, rfl⟩
  | nilv kd => intro x k k' _ _; exact ⟨fun i => one rfl, rfl⟩
  | cst g t => intro x k k' _ _; exact ⟨fun i => one rfl, rfl⟩
  | look l => intro x k k' _ _; exact ⟨fun i => one rfl, rfl⟩
  | alt q a b => intro x k k' _ _; exact ⟨fun i => one ((altV_ok q a b x).1 _), rfl⟩
  | dead => intro x k k' _ _; exact ⟨fun i => one rfl, rfl⟩
theorem mk_lt (m : Nat) : ∀ (s : Sh) (x : den s.ty) (k : Nat), s.ptrs = [] → k + s.cnt ≤ m → (∀ i, (dl (s.mk x k).1 i).toV.lt m) ∧ ∀ q ∈ (s.mk x k).2.1, q.2.toOb.lt m := by
  intro s
  have one : ∀ {v : DV} {i : Nat}, v.toV.lt m → (dl [v] i).toV.lt m := fun {v i} h => by
    cases i with
    | zero => exact h
    | succ i => trivial
  induction s with
  | own zz e τ =>
    intro x k _ h
    refine ⟨fun i => one ?_, fun q hq => ?_⟩
    · simp only [DV.toV, V.lt]; simp only [Sh.cnt] at h; omega
    · obtain rfl : q = (k, .arr zz e τ 0 x) := by simpa [Sh.mk] using hq
      trivial
  | mown ag κ τ =>
    intro x k _ h
    refine ⟨fun i => one ?_, fun q hq => ?_⟩
    · simp only [DV.toV, V.lt]; simp only [Sh.cnt] at h; omega
    · obtain rfl : q = (k, .map ag κ τ x) := by simpa [Sh.mk] using hq
      trivial
  | box e n l ih =>
    intro x k hp h
    simp only [Sh.cnt] at h
    obtain ⟨h1, h2⟩ := ih x (k + 1) hp (by omega)
    refine ⟨fun i => one ?_, fun q hq => ?_⟩
    · simp only [DV.toV, V.lt]; omega
    · simp only [Sh.mk] at hq
      rcases List.mem_cons.1 hq with rfl | hq
      · exact fun j _ => h1 j
      · exact h2 q hq
  | ptr id => intro x k hp _; simp [Sh.ptrs] at hp
  | agg n l ih => intro x k hp h; obtain ⟨h1, h2⟩ := ih x k hp h; exact ⟨fun i => one (fun j _ => h1 j), h2⟩
  | tup n l ih => intro x k hp h; obtain ⟨h1, h2⟩ := ih x k hp h; exact ⟨fun i => one (fun j _ => h1 j), h2⟩
  | ifc t s ih => intro x k hp h; obtain ⟨h1, h2⟩ := ih x k hp h; exact ⟨fun i => one (h1 0), h2⟩
  | clo fn n l mm c ih1 ih2 =>
    intro x k hp h
    simp only [Sh.ptrs, List.append_eq_nil_iff] at hp
    simp only [Sh.cnt] at h
    have c1 := mk_cnt l x.1 k
    obtain ⟨h1, h2⟩ := ih1 x.1 k hp.1 (by omega)
    obtain ⟨h3, h4⟩ := ih2 x.2 (l.mk x.1 k).2.2 hp.2 (by omega)
    refine ⟨fun i => one ⟨fun j _ => h1 j, fun j _ => h3 j⟩, fun q hq => ?_⟩
    rcases List.mem_append.1 hq with hq | hq
    · exact h2 q hq
    · exact h4 q hq
  | cons a b ih1 ih2 =>
    intro x k hp h
    simp only [Sh.ptrs, List.append_eq_nil_iff] at hp
    simp only [Sh.cnt] at h
    have c1 := mk_cnt a x.1 k
    obtain ⟨h1, h2⟩ := ih1 x.1 k hp.1 (by omega)
    obtain ⟨h3, h4⟩ := ih2 x.2 (a.mk x.1 k).2.2 hp.2 (by omega)
    refine ⟨fun i => ?_, fun q hq => ?_⟩
    · cases i with
      | zero => simp only [Sh.mk, dl_cons_zero]; exact h1 0
      | succ i => simp only [Sh.mk, dl_cons_succ]; exact h3 i
    · rcases List.mem_append.1 hq with hq | hq
      · exact h2 q hq
      · exact h4 q hq
  | nil => intro x k _ _; exact ⟨fun i => trivial, fun q hq => by cases hq⟩
  | hole τ => intro x k _ _; exact ⟨fun i => one (by trivial), fun q hq => by cases hq⟩
  | nilp => intro x k _ _; exact ⟨fun i => one (by trivial), fun q hq => by cases hq⟩
  | nils => intro x k _ _; exact ⟨fun i => one (by trivial), fun q hq => by cases hq⟩
  | nilv kd => intro x k _ _; exact ⟨fun i => one (by trivial), fun q hq => by cases hq⟩
  | cst g t => intro x k _ _; exact ⟨fun i => one (by trivial), fun q hq => by cases hq⟩
  | look l => intro x k _ _; exact ⟨fun i => one (by trivial), fun q hq => by cases hq⟩
  | alt q a b => intro x k _ _; exact ⟨fun i => one ((altV_ok q a b x).2.2 _), fun q hq => by cases hq⟩
  | dead => intro x k _ _; exact ⟨fun i => one (by trivial), fun q hq => by cases hq⟩
theorem cellT_flat : ∀ (τ : Tp) (x : den τ) (j : Nat), τ.flat = true → (cellT τ x j).flat := by
  intro τ
  induction τ with
  | pair a b ih1 ih2 =>
    intro x j h
    simp only [Tp.flat, Bool.and_eq_true] at h
    simp only [cellT]
    split
    · exact ih1 _ _ h.1
    · exact ih2 _ _ h.2
  | sl q e ih =>
    intro x j h
    simp only [Tp.flat, Bool.and_eq_true] at h
    have hq : q ≠ .any := fun e => by subst e; exact absurd h.1 (by decide)
    cases j with
    | zero => exact ⟨hq, fun i j _ _ => ih _ _ h.2⟩
    | succ j => trivial
  | _ => intro x j _; cases j <;> trivial
theorem mapT_flat {ag : Bool} {sz : Nat} {f : Nat → T} (h : ∀ j, (f j).flat) : (mapT ag sz f).flat := by
  cases ag with
  | true => exact fun j _ => h j
  | false => exact h 0
theorem mk_flat : ∀ (s : Sh) (x : den s.ty) (k : Nat), s.flat = true → (∀ i, (dl (s.mk x k).1 i).toV.flat ∧ ∀ t, ((dl (s.mk x k).1 i).cell t).toV.flat) ∧ ∀ q ∈ (s.mk x k).2.1, q.2.toOb.flat := by
  intro s
  have one : ∀ {v : DV} {i : Nat}, (v.toV.flat ∧ ∀ t, (v.cell t).toV.flat) → (dl [v] i).toV.flat ∧ ∀ t, ((dl [v] i).cell t).toV.flat := fun {v i} h => by
    cases i with
    | zero => exact h
    | succ i => exact ⟨trivial, fun t => trivial⟩
  induction s with
  | hole τ => intro x k h; exact ⟨fun i => one ⟨cellT_flat τ x 0 h, fun t => cellT_flat τ x 0 h⟩, fun q hq => by cases hq⟩
  | own zz e τ =>
    intro x k h
    refine ⟨fun i => one ⟨trivial, fun t => trivial⟩, fun q hq => ?_⟩
    obtain rfl : q = (k, .arr zz e τ 0 x) := by simpa [Sh.mk] using hq
    simp only [Sh.flat, Bool.and_eq_true] at h
    exact ⟨Zz.alive_ne h.1, fun i j _ _ => cellT_flat τ _ j h.2⟩
  | mown ag κ τ =>
    intro x k h
    refine ⟨fun i => one ⟨trivial, fun t => trivial⟩, fun q hq => ?_⟩
    obtain rfl : q = (k, .map ag κ τ x) := by simpa [Sh.mk] using hq
    simp only [Sh.flat] at h
    exact fun i _ => mapT_flat fun j => cellT_flat τ _ j h
  | box e n l ih =>
    intro x k h
    obtain ⟨h1, h2⟩ := ih x (k + 1) h
    refine ⟨fun i => one ⟨trivial, fun t => trivial⟩, fun q hq => ?_⟩
    simp only [Sh.mk] at hq
    rcases List.mem_cons.1 hq with rfl | hq
    · exact fun j _ => (h1 j).1
    · exact h2 q hq
  | agg n l ih => intro x k h; obtain ⟨h1, h2⟩ := ih x k h; exact ⟨fun i => one ⟨fun j _ => (h1 j).1, fun t => (h1 t).1⟩, h2⟩
  | tup n l ih =>
    intro x k h
    obtain ⟨h1, h2⟩ := ih x k h
    exact ⟨fun i => one ⟨fun j _ => (h1 j).1, fun t j _ => (h1 j).1⟩, h2⟩
  | ifc t s ih => intro x k h; obtain ⟨h1, h2⟩ := ih x k h; exact ⟨fun i => one ⟨(h1 0).1, fun t => (h1 0).1⟩, h2⟩
  | clo fn n l mm c ih1 ih2 =>
    intro x k h
    simp only [Sh.flat, Bool.and_eq_true] at h
    obtain ⟨h1, h2⟩ := ih1 x.1 k h.1
    obtain ⟨h3, h4⟩ := ih2 x.2 (l.mk x.1 k).2.2 h.2
    refine ⟨fun i => one ⟨⟨fun j _ => (h1 j).1, fun j _ => (h3 j).1⟩, fun t => ⟨fun j _ => (h1 j).1, fun j _ => (h3 j).1⟩⟩, fun q hq => ?_⟩
    rcases List.mem_append.1 hq with hq | hq
    · exact h2 q hq
    · exact h4 q hq
  | cons a b ih1 ih2 =>
    intro x k h
    simp only [Sh.flat, Bool.and_eq_true] at h
    obtain ⟨h1, h2⟩ := ih1 x.1 k h.1
    obtain ⟨h3, h4⟩ := ih2 x.2 (a.mk x.1 k).2.2 h.2
    refine ⟨fun i => ?_, fun q hq => ?_⟩
    · cases i with
      | zero => simp only [Sh.mk, dl_cons_zero]; exact h1 0
      | succ i => simp only [Sh.mk, dl_cons_succ]; exact h3 i
    · rcases List.mem_append.1 hq with hq | hq
      · exact h2 q hq
      · exact h4 q hq
  | nil => intro x k _; exact ⟨fun i => ⟨trivial, fun t => trivial⟩, fun q hq => by cases hq⟩
  | ptr id => intro x k _; exact ⟨fun i => one ⟨by trivial, fun t => by trivial⟩, fun q hq => by cases hq⟩
  | nilp => intro x k _; exact ⟨fun i => one ⟨by trivial, fun t => by trivial⟩, fun q hq => by cases hq⟩
  | nils => intro x k _; exact ⟨fun i => one ⟨by trivial, fun t => by trivial⟩, fun q hq => by cases hq⟩
  | nilv kd => intro x k _; exact ⟨fun i => one ⟨by trivial, fun t => by trivial⟩, fun q hq => by cases hq⟩
  | cst g t => intro x k h; cases h
  | look l => intro x k h; cases h
  | alt q a b ih1 ih2 =>
    intro x k h
    simp only [Sh.flat, Bool.and_eq_true] at h
    refine ⟨fun i => one ?_, fun q hq => by cases hq⟩
    have h0 := altV_P (q := q) (x := x) (P := fun w => w.flat ∧ ∀ t, (w.cell t).flat) ⟨trivial, fun t => trivial⟩ (fun _ _ => ⟨((ih1 x.2.1 0 h.1).1 0).1, fun t => by rw [cell_toV]; exact ((ih1 x.2.1 0 h.1).1 0).2 t⟩) (fun _ _ => ⟨((ih2 x.2.2 0 h.2).1 0).1, fun t => by rw [cell_toV]; exact ((ih2 x.2.2 0 h.2).1 0).2 t⟩)
    exact ⟨h0.1, fun t => by rw [← cell_toV]; exact h0.2 t⟩
  | dead => intro x k _; exact ⟨fun i => one ⟨by trivial, fun t => by trivial⟩, fun q hq => by cases hq⟩

theorem V.cell_sh (u : V) (d : Nat → Nat) (t : Nat) : (u.sh d).cell t = (u.cell t).sh d := by
  cases u with
  | im t' =>
    cases t' <;> rfl
  | _ => rfl
theorem V.lt_sh {m : Nat} {d : Nat → Nat} : ∀ {v : V}, v.lt m → (v.sh d).lt m
  | .agg _ _, h => fun j hj => V.lt_sh (h j hj)
  | .tup _ _, h => fun j hj => V.lt_sh (h j hj)
  | .buf _ _ _ _, h => h
  | .ptr _ _ _ _, h => h
  | .ifc _ v, h => V.lt_sh (v := v) h
  | .clo _ _ _ _ _, h => ⟨fun j hj => V.lt_sh (h.1 j hj), fun j hj => V.lt_sh (h.2 j hj)⟩
  | .dead, _ => trivial
  | .im _, _ => trivial
  | .elem _ _ _ _ _ _, _ => trivial
  | .mp _, h => h
  | .vsl _ _, h => h
theorem Ob.lt_sh {m k : Nat} {d : Nat → Nat} {o : Ob} (h : o.lt m) : (o.sh d k).lt m := by
  cases o with
  | var e s f => exact fun j hj => V.lt_sh (h j hj)
  | _ => trivial
theorem mk_sh (d : Nat → Nat) : ∀ (s : Sh) (x : den s.ty) (k : Nat), (∀ i ∈ s.ptrs, d i = 0) → (∀ j, j < s.cnt → d (k + j) = 0) →
    (∀ i, (dl (s.mk x k).1 i).toV.sh d = (dl (s.mk x k).1 i).toV) ∧ ∀ q ∈ (s.mk x k).2.1, q.2.toOb.sh d q.1 = q.2.toOb := by
  intro s
  have one : ∀ {v : DV} {i : Nat}, v.toV.sh d = v.toV → (dl [v] i).toV.sh d = (dl [v] i).toV := fun {v i} h => by
    cases i with
    | zero => exact h
    | succ i => rfl
  induction s with
  | own zz e τ =>
    intro x k _ h
    have h0 := h 0 (by simp [Sh.cnt])
    simp only [Nat.add_zero] at h0
    refine ⟨fun i => one ?_, fun q hq => ?_⟩
    · simp only [DV.toV, V.sh, h0]
    · obtain rfl : q = (k, .arr zz e τ 0 x) := by simpa [Sh.mk] using hq
      simp only [DOb.toOb, Ob.sh, h0]
  | mown ag κ τ =>
    intro x k _ h
    refine ⟨fun i => one rfl, fun q hq => ?_⟩
    obtain rfl : q = (k, .map ag κ τ x) := by simpa [Sh.mk] using hq
    rfl
  | box e n l ih =>
    intro x k hp h
    have h0 := h 0 (by simp [Sh.cnt])
    simp only [Nat.add_zero] at h0
    obtain ⟨h1, h2⟩ := ih x (k + 1) hp fun j hj => by
      have := h (j + 1) (by simp only [Sh.cnt]; omega)
      rwa [show k + 1 + j = k + (j + 1) by omega]
    refine ⟨fun i => one ?_, fun q hq => ?_⟩
    · simp only [DV.toV, V.sh, h0]
    · simp only [Sh.mk] at hq
      rcases List.mem_cons.1 hq with rfl | hq
      · simp only [DOb.toOb, Ob.sh]
        congr 1
        exact funext h1
      · exact h2 q hq
  | ptr id => intro x k hp _; exact ⟨fun i => one (by simp only [DV.toV, V.sh, hp id (by simp [Sh.ptrs])]), fun q hq => by cases hq⟩
  | agg n l ih =>
    intro x k hp h
    obtain ⟨h1, h2⟩ := ih x k hp h
    refine ⟨fun i => one ?_, h2⟩
    simp only [DV.toV, V.sh]
    congr 1
    exact funext h1
  | tup n l ih =>
    intro x k hp h
    obtain ⟨h1, h2⟩ := ih x k hp h
    refine ⟨fun i => one ?_, h2⟩
    simp only [DV.toV, V.sh]
    congr 1
    exact funext h1
  | ifc t s ih =>
    intro x k hp h
    obtain ⟨h1, h2⟩ := ih x k hp h
    refine ⟨fun i => one ?_, h2⟩
    simp only [DV.toV, V.sh]
    congr 1
    exact h1 0
  | clo fn n l m c ih1 ih2 =>
    intro x k hp h
    simp only [Sh.ptrs, List.mem_append] at hp
    have c1 := mk_cnt l x.1 k
    obtain ⟨h1, h2⟩ := ih1 x.1 k (fun i hi => hp i (.inl hi)) fun j hj => h j (by simp only [Sh.cnt]; omega)
    obtain ⟨h3, h4⟩ := ih2 x.2 (l.mk x.1 k).2.2 (fun i hi => hp i (.inr hi)) fun j hj => by
      rw [c1.1]
      have := h (l.cnt + j) (by simp only [Sh.cnt]; omega)
      rwa [show k + l.cnt + j = k + (l.cnt + j) by omega]
    refine ⟨fun i => one ?_, fun q hq => ?_⟩
    · simp only [DV.toV, V.sh]
      congr 1
      · exact funext h1
      · exact funext h3
    · rcases List.mem_append.1 hq with hq | hq
      · exact h2 q hq
      · exact h4 q hq
  | cons a b ih1 ih2 =>
    intro x k hp h
    simp only [Sh.ptrs, List.mem_append] at hp
    have c1 := mk_cnt a x.1 k
    obtain ⟨h1, h2⟩ := ih1 x.1 k (fun i hi => hp i (.inl hi)) fun j hj => h j (by simp only [Sh.cnt]; omega)
    obtain ⟨h3, h4⟩ := ih2 x.2 (a.mk x.1 k).2.2 (fun i hi => hp i (.inr hi)) fun j hj => by
      rw [c1.1]
      have := h (a.cnt + j) (by simp only [Sh.cnt]; omega)
      rwa [show k + a.cnt + j = k + (a.cnt + j) by omega]
    refine ⟨fun i => ?_, fun q hq => ?_⟩
    · cases i with
      | zero => simp only [Sh.mk, dl_cons_zero]; exact h1 0
      | succ i => simp only [Sh.mk, dl_cons_succ]; exact h3 i
    · rcases List.mem_append.1 hq with hq | hq
      · exact h2 q hq
      · exact h4 q hq
  | nil => intro x k _ _; exact ⟨fun i => rfl, fun q hq => by cases hq⟩
  | hole τ => intro x k _ _; exact ⟨fun i => one rfl, fun q hq => by cases hq⟩
  | nilp => intro x k _ _; exact ⟨fun i => one rfl, fun q hq => by cases hq⟩
  | nils => intro x k _ _; exact ⟨fun i => one rfl, fun q hq => by cases hq⟩
  | nilv kd => intro x k _ _; exact ⟨fun i => one rfl, fun q hq => by cases hq⟩
  | cst g t => intro x k _ _; exact ⟨fun i => one rfl, fun q hq => by cases hq⟩
  | look l => intro x k _ _; exact ⟨fun i => one rfl, fun q hq => by cases hq⟩
  | alt q a b => intro x k _ _; exact ⟨fun i => one ((altV_ok q a b x).2.1 _), fun q hq => by cases hq⟩
  | dead => intro x k _ _; exact ⟨fun i => one rfl, fun q hq => by cases hq⟩
def Ent.args (en : Ent) (x : den en.ash.ty) : List V := (en.ash.mk x 0).1.map DV.toV
def Ent.os (en : Ent) (x : den en.ash.ty) : List DOb := (en.ash.mk x 0).2.1.map (·.2)
def Ent.ros (en : Ent) (x : den en.ash.ty) (y : den en.osh.ty) : List DOb := (en.os x).zipIdx.map fun p => rootD (some p.1) (dl (en.osh.mk y (en.os x).length).1 p.2)
def Ent.new (en : Ent) (x : den en.ash.ty) (y : den en.osh.ty) (z : den en.vsh.ty) : List (Nat × DOb) := (en.osh.mk y (en.os x).length).2.1 ++ (en.vsh.mk z (en.osh.mk y (en.os x).length).2.2).2.1
def Ent.val (en : Ent) (x : den en.ash.ty) (y : den en.osh.ty) (z : den en.vsh.ty) : DV := dl (en.vsh.mk z (en.osh.mk y (en.os x).length).2.2).1 0
def Ent.Good (P : Program) (en : Ent) : Prop := ∀ x y z, en.p x = some (y, z) →
  FC P en.f ((en.os x).map DOb.toOb) (en.args x) ⟨(en.ros x y).map DOb.toOb, (en.new x y z).map (·.2.toOb), (en.val x y z).toV⟩

structure Scrib (Z : Nat → Nat → Prop) (w w' : World) : Prop where
  size : w.heap.size ≤ w'.heap.size
  os : w'.os = w.os
  tape : w'.tape = w.tape
  output : w'.output = w.output
  block : ∀ g, g < w.heap.size → (∀ k, ¬ Z g k) → w'.heap[g]? = w.heap[g]?
def SlotHas (ag : Bool) (τ : Tp) (x : den τ) (ok : Sees) (w : World) (v : Value) : Prop :=
  if ag = true then ∃ cs : Array Value, v = .agg cs ∧ cs.size = τ.size ∧ ∀ j, j < τ.size → (cellT τ x j).rel ok w (cs.getD j undef) else (cellT τ x 0).rel ok w v
def RoomC (z : List Zc) (ok : Sees) (w : World) (v : Value) : Prop :=
  ∃ A n c, v = .slice A n c ∧ n ≤ c ∧ c ≤ maxLen ∧ ((A = none ∧ c = 0) ∨ ∃ g cs e, A = some ⟨g, 0, none⟩ ∧ w.heap[g]? = some (.cells cs e (0, 0)) ∧ cs.size = c * z.length ∧
    ∀ k, n * z.length ≤ k → k < c * z.length → ok .new g k ∧ cs.getD k undef = (z.getD (k % z.length) .ptr).val)
def Spo.Good (P : Program) (s : Spo) : Prop := Enters P s.f ∧ ∀ (x : den s.τ) (ok : Sees) (v : Value) (w : World), s.p x = true → Mono ok → (∀ g k k', ok .old g k → ¬ ok .new g k') → Glb ok (fun _ => none) (fun _ => none) w → SlotHas s.ag s.τ x ok w v → (∀ z, s.rm = some z → RoomC z ok w v) →
  Calls P s.f #[v] w fun e w' => (∃ r, e = .returned r) ∧ Scrib (fun g k => ok .new g k) w w'

def Hint.GoodS (P : Program) : Hint → Prop
  | .spo s => s.Good P
  | _ => True
def Hint.Good (P : Program) : Hint → Prop
  | .ent en => en.Good P
  | .either a b => a.Good P ∧ b.Good P
  | _ => True
theorem Hint.pick_good {P : Program} {f : FuncId} : ∀ {h : Hint}, h.Good P → (h.pick f).Good P := by
  intro h
  induction h with
  | either a b _ ih2 =>
    rintro ⟨h1, h2⟩
    cases a with
    | ent e =>
      show (cond (Nat.beq e.f f) (Hint.ent e) (b.pick f)).Good P
      cases Nat.beq e.f f with
      | true => exact h1
      | false => exact ih2 h2
    | _ => exact ih2 h2
  | _ => intro h; exact h
structure Shown (σ : DSt) (s : Sh) (f : Nat → DV) (x : den s.ty) (srcs : List (Option Nat)) (vws : List Nat) (k : Nat) : Prop where
  len : srcs.length = (s.mk x k).2.1.length
  le : ∀ (r d : Nat → Nat) (O2 : Ow) (vw : List Nat), (∀ id ∈ vws, id ∈ vw ∧ O2 id = σ.st.O id) → (∀ q ∈ (s.mk x k).2.1.zip srcs, q.2 = some (r q.1.1) ∧ d q.1.1 = verD (σ.O (r q.1.1))) →
    (∀ i, V.shown O2 vw r (f i).toV ((dl (s.mk x k).1 i).toV.sh d)) ∧
    ∀ q ∈ (s.mk x k).2.1.zip srcs, ∃ o, σ.O (r q.1.1) = some o ∧ OLe o.toOb ((q.1.2.toOb.sh d q.1.1).ren r)
section
variable {R : Type} {σ : DSt} {r : R}
theorem plain_ptrs : ∀ {s : Sh}, s.plain = true → s.ptrs = [] := by
  intro s
  induction s with
  | box e n l ih => intro h; exact ih h
  | agg n l ih => intro h; exact ih h
  | tup n l ih => intro h; exact ih h
  | ifc t s ih => intro h; exact ih h
  | clo fn n l m c ih1 ih2 =>
    intro h
    simp only [Sh.plain, Bool.and_eq_true] at h
    simp only [Sh.ptrs, ih1 h.1, ih2 h.2, List.append_nil]
  | cons a b ih1 ih2 =>
    intro h
    simp only [Sh.plain, Bool.and_eq_true] at h
    simp only [Sh.ptrs, ih1 h.1, ih2 h.2, List.append_nil]
  | ptr id => intro h; cases h
  | _ => intro _; rfl
def isKind : Bool → DOb → Prop
  | true, .var .. => True
  | false, .arr _ _ _ v _ => v = 0
  | false, .map .. => True
  | _, _ => False
theorem mk_kinds : ∀ {s : Sh} {x : den s.ty} {k : Nat}, s.plain = true → s.kinds.length = (s.mk x k).2.1.length ∧ ∀ q ∈ (s.mk x k).2.1.zip s.kinds, isKind q.2 q.1.2 := by
  intro s
  have two : ∀ {l l' : List (Nat × DOb)} {b b' : List Bool}, b.length = l.length → (∀ q ∈ l.zip b, isKind q.2 q.1.2) → b'.length = l'.length → (∀ q ∈ l'.zip b', isKind q.2 q.1.2) →
      (b ++ b').length = (l ++ l').length ∧ ∀ q ∈ (l ++ l').zip (b ++ b'), isKind q.2 q.1.2 := fun {l l' b b'} h1 h2 h3 h4 => by
    refine ⟨by simp [h1, h3], fun q hq => ?_⟩
    rw [List.zip_append h1.symm] at hq
    rcases List.mem_append.1 hq with hq | hq
    · exact h2 q hq
    · exact h4 q hq
  induction s with
  | box e n l ih =>
    intro x k h
    obtain ⟨h1, h2⟩ := ih (x := x) (k := k + 1) h
    refine ⟨by simp [Sh.mk, Sh.kinds, h1], fun q hq => ?_⟩
    simp only [Sh.mk, Sh.kinds, List.zip_cons_cons] at hq
    rcases List.mem_cons.1 hq with rfl | hq
    · trivial
    · exact h2 q hq
  | own zz e τ =>
    intro x k h
    refine ⟨rfl, fun q hq => ?_⟩
    obtain rfl : q = ((k, .arr zz e τ 0 x), false) := by simpa [Sh.mk, Sh.kinds] using hq
    exact rfl
  | mown ag κ τ =>
    intro x k h
    refine ⟨rfl, fun q hq => ?_⟩
    obtain rfl : q = ((k, .map ag κ τ x), false) := by simpa [Sh.mk, Sh.kinds] using hq
    exact trivial
  | agg n l ih => intro x k h; exact ih h
  | tup n l ih => intro x k h; exact ih h
  | ifc t s ih => intro x k h; exact ih h
  | clo fn n l m c ih1 ih2 =>
    intro x k h
    simp only [Sh.plain, Bool.and_eq_true] at h
    obtain ⟨a1, a2⟩ := ih1 (x := x.1) (k := k) h.1
    obtain ⟨b1, b2⟩ := ih2 (x := x.2) (k := (l.mk x.1 k).2.2) h.2
    exact two a1 a2 b1 b2
  | cons a b ih1 ih2 =>
    intro x k h
    simp only [Sh.plain, Bool.and_eq_true] at h
    obtain ⟨a1, a2⟩ := ih1 (x := x.1) (k := k) h.1
    obtain ⟨b1, b2⟩ := ih2 (x := x.2) (k := (a.mk x.1 k).2.2) h.2
    exact two a1 a2 b1 b2
  | ptr => intro x k h; cases h
  | _ => intro x k _; exact ⟨rfl, fun q hq => by cases hq⟩
theorem fits_shown {s : Sh} {f : Nat → DV} {x : den s.ty} {srcs : List (Option Nat)} {k : Nat} (hp : s.plain = true) (h : Fits .no σ s f x srcs k) : Shown σ s f x srcs [] k where
  len := h.len
  le r d O2 vw _ hq := by
    obtain ⟨h1, h2⟩ := h.le rfl r d hp hq
    exact ⟨fun i => .le _ _ (h1 i), h2⟩
theorem shown_one {s : Sh} {f : Nat → DV} {x : den s.ty} {k : Nat} {v : DV} {vws : List Nat} (h1 : (s.mk x k).1 = [v]) (h2 : (s.mk x k).2.1 = [])
    (hv : ∀ (r d : Nat → Nat) (O2 : Ow) (vw : List Nat), (∀ id ∈ vws, id ∈ vw ∧ O2 id = σ.st.O id) → V.shown O2 vw r (f 0).toV (v.toV.sh d)) : Shown σ s f x [] vws k where
  len := by rw [h2]; rfl
  le r d O2 vw hw _ := by
    rw [h1, h2]
    refine ⟨fun i => ?_, fun q hq => by cases hq⟩
    cases i with
    | zero => exact hv r d O2 vw hw
    | succ i => exact .le _ _ (VLe_dead _)
theorem cells_plain : ∀ {l : Sh}, l.cells = true → l.plain = true := by
  intro l
  induction l with
  | nil => intro _; rfl
  | cons a b _ ih =>
    intro h
    cases a with
    | hole τ =>
      simp only [Sh.cells, Bool.and_eq_true] at h
      simp only [Sh.plain, ih h.2, Bool.true_and]
    | _ => cases h
  | _ => intro h; cases h
theorem cells_mk : ∀ {l : Sh}, l.cells = true → ∀ (x : den l.ty) (k : Nat), (l.mk x k).2 = ([], k) ∧ ∀ j, j < l.ty.size → (dl (l.mk x k).1 j).toV = .im (cellT l.ty x j) := by
  intro l
  induction l with
  | nil => intro _ x k; exact ⟨rfl, fun j hj => absurd hj (Nat.not_lt_zero _)⟩
  | cons a b _ ih =>
    intro h x k
    cases a with
    | hole τ =>
      simp only [Sh.cells, Bool.and_eq_true] at h
      have h1 := nbeq h.1
      obtain ⟨h2, h3⟩ := ih h.2 x.2 k
      refine ⟨by simp only [Sh.mk, h2]; rfl, fun j hj => ?_⟩
      have hs : (Sh.cons (.hole τ) b).ty.size = τ.size + b.ty.size := rfl
      rw [hs] at hj
      simp only [Sh.ty, cellT]
      cases j with
      | zero => rw [if_pos (by omega)]; rfl
      | succ j =>
        rw [if_neg (by omega), h1, Nat.add_sub_cancel]
        exact h3 j (by omega)
    | _ => cases h
  | _ => intro h; cases h
theorem get_shown : ∀ {s : Sh} {f : Nat → DV} {K : den s.ty → List (Option Nat) → List Nat → Option R}, s.plain = true → s.get σ .view f K = some r →
    ∃ x srcs vws, K x srcs vws = some r ∧ (∀ id ∈ vws, (∃ zz e τ v l, σ.O id = some (.arr zz e τ v l)) ∨ ∃ e n g, σ.O id = some (.var e n g)) ∧ ∀ k, Shown σ s f x srcs vws k := by
  intro s
  -- what is no aggregate is found as elsewhere
  have other : ∀ {s : Sh} {f : Nat → DV} {K : den s.ty → List (Option Nat) → List Nat → Option R}, s.plain = true → s.get σ .no f K = some r →
      ∃ x srcs vws, K x srcs vws = some r ∧ (∀ id ∈ vws, (∃ zz e τ v l, σ.O id = some (.arr zz e τ v l)) ∨ ∃ e n g, σ.O id = some (.var e n g)) ∧ ∀ k, Shown σ s f x srcs vws k := fun hp h => by
    obtain ⟨x, srcs, h1, h2⟩ := get_fits (by simp) h
    exact ⟨x, srcs, [], h1, (fun id hid => by cases hid), fun k => fits_shown hp (h2 k)⟩
  induction s with
  | hole τ =>
    intro f K hp h
    cases hf : f 0 with
    | buf id ver off len w =>
      simp only [Sh.get, hf, Md.sees, Md.col, cond_true] at h
      cases ho : σ.O id with
      | none => simp [ho] at h
      | some o =>
        simp only [ho] at h
        cases o with
        | arr zz e τ' ver' l =>
          have h0 := cond_some h; clear h; obtain ⟨hv, h⟩ := h0
          simp only [Bool.and_eq_true] at hv
          obtain rfl := nbeq hv.1
          cases hc : castLe (.sl .any τ') τ (subl (τ := τ') l off len w) with
          | none => simp [hc] at h
          | some y =>
            simp only [hc] at h
            have h0 := cond_some h; clear h; obtain ⟨hw, h⟩ := h0
            obtain ⟨he, rfl⟩ := castLe_some hc
            obtain ⟨h1, h2⟩ := subl_le l off len w hw
            refine ⟨_, [], [id], h, fun id' hid => ?_, fun k => shown_one rfl rfl fun rr d O2 vw hO => ?_⟩
            · obtain rfl : id' = id := by simpa using hid
              exact .inl ⟨_, _, _, _, _, ho⟩
            · obtain ⟨q1, q2⟩ := hO id (by simp)
              rw [hf]
              exact .view id ver' off len e τ'.size l.length (rowsT τ' l) _ (by rw [q2, O_st_some ho]; rfl) q1 (T.le_trans (sl_le h1 fun i j hi _ => T.le_of_eq (by simp only [rowsT]; rw [h2 i hi])) (Tp.leb_cell he _ 0))
        | _ => cases h
    | _ => exact other hp (by simpa only [Sh.get, hf] using h)
  | agg n l ih =>
    intro f K hp h
    simp only [Sh.get] at h
    split at h
    · rename_i n' g hf
      have h0 := cond_some h; clear h; obtain ⟨hn, h⟩ := h0
      obtain rfl := nbeq hn
      obtain ⟨x, srcs, vws, h, hw, hx⟩ := ih hp h
      refine ⟨x, srcs, vws, h, hw, fun k => ⟨(hx k).len, fun rr d O2 vw hO hq => ?_⟩⟩
      obtain ⟨c1, c2⟩ := (hx k).le rr d O2 vw hO hq
      refine ⟨fun i => ?_, c2⟩
      cases i with
      | zero => rw [hf]; exact .agg _ _ _ fun j _ => c1 j
      | succ i => exact .le _ _ (VLe_dead _)
    · cases h
  | cons a b ih1 ih2 =>
    intro f K hp h
    simp only [Sh.plain, Bool.and_eq_true] at hp
    simp only [Sh.get] at h
    obtain ⟨x, srcs, vws, h, hw, hx⟩ := ih1 hp.1 h
    obtain ⟨y, srcs', vws', h, hw', hy⟩ := ih2 hp.2 h
    refine ⟨(x, y), srcs ++ srcs', vws ++ vws', h, fun id hid => ?_, fun k => ?_⟩
    · rcases List.mem_append.1 hid with hid | hid
      · exact hw id hid
      · exact hw' id hid
    have hx := hx k
    have hy := hy (a.mk x k).2.2
    have hz : (Sh.mk (.cons a b) (x, y) k).2.1.zip (srcs ++ srcs') = (a.mk x k).2.1.zip srcs ++ (b.mk y (a.mk x k).2.2).2.1.zip srcs' := by
      simp only [Sh.mk]
      exact List.zip_append hx.len.symm
    refine ⟨by simp [Sh.mk, hx.len, hy.len], fun rr d O2 vw hO hq => ?_⟩
    · rw [hz] at hq ⊢
      obtain ⟨c1, c2⟩ := hx.le rr d O2 vw (fun id hid => hO id (List.mem_append_left _ hid)) fun q hq' => hq q (List.mem_append_left _ hq')
      obtain ⟨d1, d2⟩ := hy.le rr d O2 vw (fun id hid => hO id (List.mem_append_right _ hid)) fun q hq' => hq q (List.mem_append_right _ hq')
      refine ⟨fun i => ?_, fun q hq' => ?_⟩
      · cases i with
        | zero => simp only [Sh.mk, dl_cons_zero]; exact c1 0
        | succ i => simp only [Sh.mk, dl_cons_succ]; exact d1 i
      · rcases List.mem_append.1 hq' with hq' | hq'
        · exact c2 q hq'
        · exact d2 q hq'
  | own => intro f K hp h; exact other hp h
  | mown => intro f K hp h; exact other hp h
  | ptr => intro f K hp; cases hp
  | box e n l => intro f K hp h; exact other hp h
  | nilp => intro f K hp h; exact other hp h
  | nils => intro f K hp h; exact other hp h
  | nilv kd => intro f K hp h; exact other hp h
  | cst g t => intro f K hp h; exact other hp h
  | look l ih =>
    intro f K hp h
    simp only [Sh.get] at h
    split at h
    · rename_i id' hf
      simp only [Md.looks, Bool.true_and] at h
      have h0 := cond_some h; clear h; obtain ⟨hcl, h⟩ := h0
      cases ho : σ.O id' with
      | none => simp [ho] at h
      | some o =>
        simp only [ho] at h
        cases o with
        | var e n g =>
          have h0 := cond_some h; clear h; obtain ⟨hn, h⟩ := h0
          obtain rfl := nbeq hn
          obtain ⟨x, srcs, vws, h, hw, hx⟩ := ih (cells_plain hcl) h
          have hlen := (hx 0).len
          rw [(cells_mk hcl x 0).1] at hlen
          obtain rfl := List.length_eq_zero_iff.1 hlen
          refine ⟨x, [], id' :: vws, h, fun q hq => ?_, fun k => shown_one rfl rfl fun rr d O2 vw hO => ?_⟩
          · rcases List.mem_cons.1 hq with rfl | hq
            · exact .inr ⟨_, _, _, ho⟩
            · exact hw q hq
          · obtain ⟨q1, q2⟩ := hO id' (List.mem_cons_self)
            obtain ⟨c1, _⟩ := (hx k).le rr d O2 vw (fun q hq => hO q (List.mem_cons_of_mem _ hq)) (fun q hq => by rw [(cells_mk hcl x k).1] at hq; cases hq)
            rw [hf]
            refine V.shown.look (O := O2) id' 0 l.ty.size e (fun j => (g j).toV) (rowsT l.ty [x]) (by rw [q2, O_st_some ho]; rfl) q1 fun j hj => ?_
            have := c1 j
            rw [(cells_mk hcl x k).2 j hj] at this
            exact this
        | arr z e τ' ver l' => simp [Md.shares] at h
        | map => cases h
        | gone v => cases h
    · rename_i τ' l' hf
      refine other hp ?_
      simp only [Sh.get, hf]
      exact h
    · cases h
  | alt q a b => intro f K hp h; exact other hp h
  | tup n l => intro f K hp h; exact other hp h
  | clo fn n l m c => intro f K hp h; exact other hp h
  | ifc t s => intro f K hp h; exact other hp h
  | dead => intro f K hp h; exact other hp h
  | nil => intro f K hp h; exact other hp h

theorem getD_mem_idx {α : Type} {l : List α} {j : Nat} {d a : α} (h : l[j]? = some a) : l.getD j d = a := by
  rw [List.getD_eq_getElem?_getD, h]; rfl
def imOf : DV → Option ((τ : Tp) × den τ)
  | .im τ x => some ⟨τ, x⟩
  | _ => none
theorem mk_im (p : Nat → Nat) : ∀ (s : Sh) (x : den s.ty) (k k' i : Nat), imOf (dl (s.mk x k).1 i) = imOf (dl (s.mkP p x k').1 i) := by
  intro s
  have one : ∀ {u v : DV} {i : Nat}, imOf u = imOf v → imOf (dl [u] i) = imOf (dl [v] i) := fun {u v i} h => by
    cases i with
    | zero => exact h
    | succ i => rfl
  induction s with
  | cons a b ih1 ih2 =>
    intro x k k' i
    simp only [Sh.mk, Sh.mkP]
    cases i with
    | zero => exact ih1 _ _ _ _
    | succ i => exact ih2 _ _ _ _
  | nil => intro x k k' i; rfl
  | _ => intro x k k' i; exact one rfl
theorem rootD_im {z : Zz} {e : TypeId} {τ : Tp} {v : Nat} {l : List (den τ)} {d d' : DV} (h : imOf d = imOf d') : rootD (some (.arr z e τ v l)) d = rootD (some (.arr z e τ v l)) d' := by
  cases d with
  | im τ1 x1 =>
    cases d' with
    | im τ2 x2 => cases h; rfl
    | _ => cases h
  | _ =>
    cases d' with
    | im τ2 x2 => cases h
    | _ => rfl
theorem rootD_cases (z : Zz) (e : TypeId) (τ : Tp) (v : Nat) (l : List (den τ)) (d : DV) : (∃ (q : Qc) (τ' : Tp) (l' : List (den τ')), d = .im (.sl q τ') l' ∧ (τ'.size = τ.size ∧ z.alive = true) ∧ rootD (some (.arr z e τ v l)) d = .arr z e τ' v l') ∨ rootD (some (.arr z e τ v l)) d = .gone (v + 1) := by
  cases d with
  | im τ' x =>
    cases τ' with
    | sl q τ'' =>
      simp only [rootD]
      cases hb : (Nat.beq τ''.size τ.size && z.alive) with
      | true =>
        have h2 := hb
        simp only [Bool.and_eq_true] at h2
        exact .inl ⟨q, τ'', x, rfl, ⟨nbeq h2.1, h2.2⟩, rfl⟩
      | false => exact .inr rfl
    | _ => exact .inr rfl
  | _ => exact .inr rfl
theorem rootD_same {z : Zz} {e : TypeId} {τ τ' : Tp} {v : Nat} {l : List (den τ)} {l' : List (den τ')} {d d' : DV} (hi : imOf d = imOf d') (hs : τ'.size = τ.size) (dd : Nat → Nat) (k : Nat) (rr : Nat → Nat) (hd : v = dd k) :
    ((rootD (some (.arr z e τ 0 l)) d).toOb.sh dd k).ren rr = (rootD (some (.arr z e τ' v l')) d').toOb := by
  subst hd
  rw [← rootD_im hi]
  cases d with
  | im τ1 x =>
    cases τ1 with
    | sl q τ2 =>
      simp only [rootD, hs]
      cases hb : (Nat.beq τ2.size τ.size && z.alive) with
      | true => simp only [cond_true, DOb.toOb, Ob.sh, Ob.ren, Nat.zero_add]
      | false => simp only [cond_false, DOb.toOb, Ob.sh, Ob.ren]; congr 1; omega
    | _ => simp only [rootD, DOb.toOb, Ob.sh, Ob.ren]; congr 1; omega
  | _ => simp only [rootD, DOb.toOb, Ob.sh, Ob.ren]; congr 1; omega
theorem dcall_ok {P : Program} {fr : Nat} {f : FuncId} {evs : List DV} {h : Hint} {K : List Nat → DV → List (Nat × DOb) → Option R} (hg : h.Good P) (e : dcall σ fr f evs h K = some r) :
    ∃ rd v ups, K rd v ups = some r ∧ (AM.call f (evs.map DV.toV)).wp P σ.st.O fr fun a b c => a = rd ∧ b = v.toV ∧ c = dups ups := by
  unfold dcall at e
  split at e
  · rename_i en
    have e0 := cond_some e; clear e; obtain ⟨hn, e⟩ := e0
    simp only [Bool.and_eq_true] at hn
    obtain ⟨n1, n2, n3⟩ := hn
    obtain rfl := nbeq n1
    have n2 := nbeq n2
    unfold Ent.wf at n3
    simp only [Bool.and_eq_true] at n3
    obtain ⟨w1, w2, w34, w5⟩ := n3
    have w5 := nble w5
    have w3 : ∀ i ∈ en.osh.ptrs, en.ash.kinds.getD i false = true := fun i hi => List.all_eq_true.1 w34 i (List.mem_append_left _ hi)
    have w4 : ∀ i ∈ en.vsh.ptrs, en.ash.kinds.getD i false = true := fun i hi => List.all_eq_true.1 w34 i (List.mem_append_right _ hi)
    obtain ⟨x, s, u, e, hu, hx⟩ := get_shown w2 e
    have e0 := cond_some e; clear e; obtain ⟨hnd, e⟩ := e0
    simp only [Bool.and_eq_true] at hnd
    obtain ⟨hsome, hnd, hdisj⟩ := hnd
    have hnd := nodupN_ok hnd
    cases hp : en.p x with
    | none => rw [hp] at e; cases e
    | some yz =>
      obtain ⟨y, z⟩ := yz
      rw [hp] at e
      simp only [Option.bind_some, Sh.normK_eq] at e
      have hx := hx 0
      have fc := hg x y z hp
      refine ⟨_, _, _, e, ?_⟩
      -- the objects that are handed over
      have hs : s = (s.filterMap id).map some := by
        have : ∀ l : List (Option Nat), (l.all Option.isSome = true) → l = (l.filterMap id).map some := fun l => by
          induction l with
          | nil => intro _; rfl
          | cons q l ih =>
            intro hl
            simp only [List.all_cons, Bool.and_eq_true] at hl
            obtain ⟨i, rfl⟩ := Option.isSome_iff_exists.1 hl.1
            simp only [List.filterMap_cons, id, List.map_cons]
            rw [← ih hl.2]
        exact this s hsome
      generalize hids : s.filterMap id = ids at *
      obtain ⟨cn1, cn2⟩ := mk_cnt en.ash x 0
      have hlen : ids.length = (en.ash.mk x 0).2.1.length := by rw [← hx.len, hs, List.length_map]
      have hcnt : ids.length = en.ash.cnt := by rw [hlen, ← List.length_map (f := (·.1)), cn2, List.length_range']
      have hos : (en.os x).length = ids.length := by unfold Ent.os; rw [List.length_map, hlen]
      let rr := rn ids fr
      have hrr : ∀ j (hj : j < ids.length), rr j = ids[j] := fun j hj => by
        show rn ids fr j = _
        simp only [rn, if_pos hj, List.getD_eq_getElem?_getD, List.getElem?_eq_getElem hj, Option.getD_some]
      have hrr2 : ∀ j, rr (ids.length + j) = fr + j := fun j => by
        show rn ids fr _ = _
        simp only [rn, if_neg (show ¬ ids.length + j < ids.length by omega)]; omega
      -- how often each row was written
      let d : Nat → Nat := fun j => if j < ids.length then verD (σ.O (ids.getD j 0)) else 0
      have hd : ∀ j (hj : j < ids.length), d j = verD (σ.O ids[j]) := fun j hj => by
        show (if j < ids.length then _ else _) = _
        rw [if_pos hj, List.getD_eq_getElem?_getD, List.getElem?_eq_getElem hj]; rfl
      have hd0 : ∀ j, ids.length ≤ j → d j = 0 := fun j hj => if_neg (by omega)
      have hobj : ∀ j (hj : j < ids.length), ∃ o, (en.ash.mk x 0).2.1[j]? = some (j, o) ∧ ((j, o), some ids[j]) ∈ (en.ash.mk x 0).2.1.zip s := fun j hj => by
        have h1 : j < (en.ash.mk x 0).2.1.length := by omega
        have h2 : ((en.ash.mk x 0).2.1.map (·.1))[j]? = some j := by rw [cn2, List.getElem?_range' (by omega)]; simp
        rw [List.getElem?_map, List.getElem?_eq_getElem h1] at h2
        simp only [Option.map_some, Option.some.injEq] at h2
        refine ⟨((en.ash.mk x 0).2.1[j]).2, by rw [List.getElem?_eq_getElem h1]; congr 1; exact Prod.ext h2 rfl, ?_⟩
        rw [List.mem_iff_getElem?]
        refine ⟨j, ?_⟩
        rw [List.getElem?_zip_eq_some]
        refine ⟨by rw [List.getElem?_eq_getElem h1]; congr 1; exact Prod.ext h2 rfl, ?_⟩
        rw [hs, List.getElem?_map, List.getElem?_eq_getElem hj]; rfl
      have hzip : ∀ q ∈ (en.ash.mk x 0).2.1.zip s, q.2 = some (rr q.1.1) ∧ d q.1.1 = verD (σ.O (rr q.1.1)) := fun q hq => by
        obtain ⟨j, hj, e⟩ := List.getElem_of_mem hq
        have := List.getElem?_eq_getElem hj
        rw [List.getElem?_zip_eq_some, e] at this
        have hj' : j < ids.length := by rw [List.length_zip] at hj; omega
        obtain ⟨o, h1, _⟩ := hobj j hj'
        rw [h1] at this
        have h3 := this.1
        simp only [Option.some.injEq] at h3
        rw [← h3]
        simp only
        rw [hrr j hj', hd j hj']
        have h4 := this.2
        rw [hs, List.getElem?_map, List.getElem?_eq_getElem hj'] at h4
        exact ⟨by simpa using h4.symm, rfl⟩
      let osS : List Ob := ((en.os x).map DOb.toOb).zipIdx.map fun p => p.1.sh d p.2
      let rosS : List Ob := ((en.ros x y).map DOb.toOb).zipIdx.map fun p => p.1.sh d p.2
      have hshL : ∀ (l : List Ob) (k : Nat), (l.zipIdx.map fun p => p.1.sh d p.2)[k]? = (l[k]?).map (Ob.sh d k) := fun l k => by
        rw [List.getElem?_map, List.getElem?_zipIdx]
        cases l[k]? with
        | none => rfl
        | some o => simp
      let O2 : Ow := fun id => if id ∈ ids then (osS[ids.idxOf id]?).map fun o => o.ren rr else σ.st.O id
      have hO2in : ∀ j (hj : j < ids.length), ∀ o, (en.ash.mk x 0).2.1[j]? = some (j, o) → O2 ids[j] = some ((o.toOb.sh d j).ren rr) := fun j hj o ho => by
        show (if ids[j] ∈ ids then _ else _) = _
        rw [if_pos (List.getElem_mem _), hnd.idxOf_getElem j hj, hshL]
        unfold Ent.os
        rw [List.map_map, List.getElem?_map, ho]; rfl
      have hO2out : ∀ id, id ∉ ids → O2 id = σ.st.O id := fun id hid => if_neg hid
      -- those handed over are as they are told
      obtain ⟨-, l2⟩ := hx.le rr d σ.st.O u (fun id hid => ⟨hid, rfl⟩) hzip
      have hvar : ∀ j (hj : j < ids.length), ∀ o, (en.ash.mk x 0).2.1[j]? = some (j, o) → ∃ o1, σ.O ids[j] = some o1 ∧ OLe o1.toOb ((o.toOb.sh d j).ren rr) := fun j hj o ho => by
        obtain ⟨o', h1, h2⟩ := hobj j hj
        rw [ho] at h1
        cases h1
        obtain ⟨o1, k1, k2⟩ := l2 _ h2
        simp only [hrr j hj] at k1
        exact ⟨o1, k1, k2⟩
      have hdis : ∀ id ∈ u, id ∉ ids := fun id hid => by
        have := List.all_eq_true.1 hdisj id hid
        simp only [Bool.and_eq_true] at this
        simpa using this.1
      have hrow : (en.osh.flat && en.vsh.flat) = false → ∀ id ∈ u, ∃ zz e τ v l, σ.O id = some (.arr zz e τ v l) := fun hff id hid => by
        have := List.all_eq_true.1 hdisj id hid
        simp only [Bool.and_eq_true, hff, Bool.or_false] at this
        rcases hu id hid with h | ⟨_, _, _, h⟩
        · exact h
        · rw [h] at this; cases this.2
      obtain ⟨l1, -⟩ := hx.le rr d O2 u (fun id hid => ⟨hid, hO2out id (hdis id hid)⟩) hzip
      obtain ⟨m1, m2⟩ := mk_lt ids.length en.ash x 0 (plain_ptrs w2) (by omega)
      obtain ⟨kk1, kk2⟩ := mk_kinds (s := en.ash) (x := x) (k := 0) w2
      let qq : Nat → Nat := fun i => ids.getD i 0
      have hkl : ∀ i, en.ash.kinds.getD i false = true → i < ids.length := fun i hi => by
        rcases Nat.lt_or_ge i en.ash.kinds.length with h1 | h1
        · omega
        · rw [List.getD_eq_getElem?_getD, List.getElem?_eq_none h1] at hi; cases hi
      have hqq : ∀ i, en.ash.kinds.getD i false = true → rr i = qq i := fun i hi => by
        show rn ids fr i = _
        simp only [rn, if_pos (hkl i hi)]; rfl
      obtain ⟨r1, r2⟩ := mk_renP rr qq en.osh y ids.length fr (fun i hi => hqq i (w3 i hi)) fun j _ => hrr2 j
      have co1 := mk_cnt en.osh y ids.length
      have co2 := mkP_cnt qq en.osh y fr
      obtain ⟨r3, r4⟩ := mk_renP rr qq en.vsh z (en.osh.mk y ids.length).2.2 (en.osh.mkP qq y fr).2.2 (fun i hi => hqq i (w4 i hi)) fun j _ => by
        rw [co1.1, co2.1, Nat.add_assoc, hrr2]; omega
      have cv1 := mk_cnt en.vsh z (en.osh.mk y ids.length).2.2
      have hkind : ∀ j (hj : j < ids.length), ∀ o, (en.ash.mk x 0).2.1[j]? = some (j, o) → (∃ e n f, o = .var e n f) ∨ (∃ zz e τ l, o = .arr zz e τ 0 l) ∨ ∃ ag κ τ l, o = .map ag κ τ l := fun j hj o ho => by
        have hkj : j < en.ash.kinds.length := by omega
        have := kk2 ((j, o), en.ash.kinds[j]) (by
          rw [List.mem_iff_getElem?]
          exact ⟨j, by rw [List.getElem?_zip_eq_some]; exact ⟨ho, List.getElem?_eq_getElem hkj⟩⟩)
        cases o with
        | var e n f => exact .inl ⟨e, n, f, rfl⟩
        | arr zz e τ v l =>
          cases hb : en.ash.kinds[j] with
          | true => rw [hb] at this; exact this.elim
          | false => rw [hb] at this; obtain rfl : v = 0 := this; exact .inr (.inl ⟨zz, e, τ, l, rfl⟩)
        | map ag κ τ l => exact .inr (.inr ⟨ag, κ, τ, l, rfl⟩)
        | gone v =>
          cases hb : en.ash.kinds[j] with
          | true => rw [hb] at this; exact this.elim
          | false => rw [hb] at this; exact this.elim
      -- the two kinds
      have hboth : ∀ j (hj : j < ids.length), ∀ o, (en.ash.mk x 0).2.1[j]? = some (j, o) → (d j = 0 ∧ ∃ e n g g', σ.O ids[j] = some (.var e n g) ∧ o = .var e n g') ∨ (∃ zz e τ l τ' l', o = .arr zz e τ 0 l ∧ σ.O ids[j] = some (.arr zz e τ' (d j) l') ∧ τ'.size = τ.size) ∨ (d j = 0 ∧ ∃ ag κ τ l ag' κ' τ' l', o = .map ag κ τ l ∧ σ.O ids[j] = some (.map ag' κ' τ' l')) := fun j hj o ho => by
        obtain ⟨o1, k1, k2⟩ := hvar j hj o ho
        have hdj := hd j hj
        rw [k1] at hdj
        rcases hkind j hj o ho with ⟨e, n, g', rfl⟩ | ⟨zz, e, τ, l, rfl⟩ | ⟨ag, κ, τ, l, rfl⟩
        · cases o1 with
          | var e1 n1 g =>
            obtain ⟨rfl, rfl, _⟩ := k2
            exact .inl ⟨hdj, _, _, _, _, k1, rfl⟩
          | _ => exact k2.elim
        · cases o1 with
          | arr zz1 e1 τ1 v1 l1 =>
            have hdj : d j = v1 := hdj
            obtain ⟨rfl, rfl, k3, _⟩ := k2
            exact .inr (.inl ⟨_, _, _, _, _, _, rfl, by rw [hdj]; exact k1, k3.symm⟩)
          | _ => exact k2.elim
        · cases o1 with
          | map ag1 κ1 τ1 l1 => exact .inr (.inr ⟨hdj, _, _, _, _, _, _, _, _, rfl, k1⟩)
          | _ => exact k2.elim
      have hdk : ∀ i, en.ash.kinds.getD i false = true → d i = 0 := fun i hi => by
        have hil := hkl i hi
        obtain ⟨o, h1, _⟩ := hobj i hil
        rcases hboth i hil o h1 with ⟨h3, _⟩ | ⟨zz, e, τ, l, τ', l', rfl, _⟩ | ⟨h3, _⟩
        · exact h3
        · have hkj : i < en.ash.kinds.length := by omega
          have := kk2 ((i, .arr zz e τ 0 l), en.ash.kinds[i]) (by
            rw [List.mem_iff_getElem?]
            exact ⟨i, by rw [List.getElem?_zip_eq_some]; exact ⟨h1, List.getElem?_eq_getElem hkj⟩⟩)
          have hk : en.ash.kinds[i] = true := by rw [← hi, List.getD_eq_getElem?_getD, List.getElem?_eq_getElem hkj]; rfl
          rw [hk] at this; exact this.elim
        · exact h3
      obtain ⟨t1, t2⟩ := mk_sh d en.osh y ids.length (fun i hi => hdk i (w3 i hi)) fun j _ => hd0 _ (by omega)
      obtain ⟨t3, t4⟩ := mk_sh d en.vsh z (en.osh.mk y ids.length).2.2 (fun i hi => hdk i (w4 i hi)) fun j _ => hd0 _ (by rw [co1.1]; omega)
      have hroslen : (en.ros x y).length = ids.length := by unfold Ent.ros; rw [List.length_map, List.length_zipIdx, hos]
      have hros : ∀ j (hj : j < ids.length), ∀ o, (en.ash.mk x 0).2.1[j]? = some (j, o) → (en.ros x y)[j]? = some (rootD (some o) (dl (en.osh.mk y ids.length).1 j)) := fun j hj o h1 => by
        unfold Ent.ros
        rw [hos, List.getElem?_map, List.getElem?_zipIdx]
        unfold Ent.os
        rw [List.getElem?_map, h1]
        simp
      have hnewlen : (en.new x y z).length = en.osh.cnt + en.vsh.cnt := by
        unfold Ent.new
        rw [hos, List.length_append, ← List.length_map (f := (·.1)), co1.2, List.length_range', ← List.length_map (f := (·.1)) (as := (en.vsh.mk z _).2.1), cv1.2, List.length_range']
      have hnewnames : (en.new x y z).map (·.1) = List.range' ids.length (en.osh.cnt + en.vsh.cnt) := by
        unfold Ent.new
        rw [hos, List.map_append, co1.2, cv1.2, co1.1]
        exact List.range'_append_1 ..
      have hnewsh : ∀ q ∈ en.new x y z, q.2.toOb.sh d q.1 = q.2.toOb := fun q hq => by
        unfold Ent.new at hq
        rw [hos] at hq
        rcases List.mem_append.1 hq with hq | hq
        · exact t2 q hq
        · exact t4 q hq
      have hnewat : ∀ j, ((en.new x y z).map (·.2.toOb))[j]? = (((en.new x y z).map (·.2.toOb))[j]?).map (Ob.sh d (ids.length + j)) := fun j => by
        rw [List.getElem?_map]
        cases hj : (en.new x y z)[j]? with
        | none => rfl
        | some q =>
          have h2 : ((en.new x y z).map (·.1))[j]? = some (ids.length + j) := by
            have hjl : j < (en.new x y z).length := (List.getElem?_eq_some_iff.1 hj).1
            rw [hnewnames, List.getElem?_range' (by omega)]; simp
          rw [List.getElem?_map, hj] at h2
          simp only [Option.map_some, Option.some.injEq] at h2
          simp only [Option.map_some, Option.some.injEq]
          rw [← h2]
          exact (hnewsh q (List.mem_of_getElem? hj)).symm
      let rS : Ret := ⟨rosS, (en.new x y z).map (·.2.toOb), (en.val x y z).toV⟩
      have hrosSlen : rosS.length = ids.length := by
        show List.length (List.map _ (List.zipIdx (List.map _ _))) = _
        rw [List.length_map, List.length_zipIdx, List.length_map, hroslen]
      have fcS : FC P en.f osS ((en.args x).map (V.sh d)) rS := by
        refine fc.shift (fun k => hshL _ k) (fun k => ?_) ?_ ?_ (fun k o ho => ?_) (fun k o ho => ?_)
        · show (rosS ++ _)[k]? = Option.map _ ((_ ++ _)[k]?)
          by_cases hk : k < ids.length
          · rw [List.getElem?_append_left (by omega), List.getElem?_append_left (by rw [List.length_map]; omega)]
            exact hshL _ k
          · rw [List.getElem?_append_right (by omega), List.getElem?_append_right (by rw [List.length_map]; omega), hrosSlen, List.length_map, hroslen]
            have := hnewat (k - ids.length)
            rw [show ids.length + (k - ids.length) = k by omega] at this
            exact this
        · show (en.val x y z).toV = (en.val x y z).toV.sh d
          unfold Ent.val
          rw [hos]
          exact (t3 0).symm
        · show rosS.length = ((en.ros x y).map DOb.toOb).length
          rw [hrosSlen, List.length_map, hroslen]
        · have ho' : ((en.os x).map DOb.toOb)[k]? = some o := ho
          unfold Ent.os at ho'
          rw [List.map_map, List.getElem?_map] at ho'
          obtain ⟨q, h1, rfl⟩ := Option.map_eq_some_iff.1 ho'
          have hk : k < ids.length := by
            have := (List.getElem?_eq_some_iff.1 h1).1
            omega
          obtain ⟨o', h2, _⟩ := hobj k hk
          rw [h2] at h1
          cases h1
          rcases hboth k hk o' h2 with ⟨h3, e, n, g, g', _, rfl⟩ | ⟨zz, e, τ, l, τ', l', rfl, _⟩ | ⟨h3, ag, κ, τ, l, ag', κ', τ', l', rfl, _⟩
          · show 0 = 0 + d k
            rw [h3]
          · rfl
          · show 0 = 0 + d k
            rw [h3]
        · have ho' : ((en.ros x y).map DOb.toOb ++ (en.new x y z).map (·.2.toOb))[k]? = some o := ho
          by_cases hk : k < ids.length
          · rw [List.getElem?_append_left (by rw [List.length_map]; omega), List.getElem?_map] at ho'
            obtain ⟨o', h2, _⟩ := hobj k hk
            rw [hros k hk o' h2] at ho'
            simp only [Option.map_some, Option.some.injEq] at ho'
            subst ho'
            rcases hboth k hk o' h2 with ⟨h3, e, n, g, g', _, rfl⟩ | ⟨zz, e, τ, l, τ', l', rfl, _⟩ | ⟨h3, ag, κ, τ, l, ag', κ', τ', l', rfl, _⟩
            · show 0 = 0 + d k
              rw [h3]
            · rcases rootD_cases zz e τ 0 l (dl (en.osh.mk y ids.length).1 k) with ⟨_, τ2, l2, _, _, e1⟩ | e1 <;> rw [e1] <;> rfl
            · rfl
          · have h0 := hd0 k (by omega)
            cases o with
            | var e s f => show 0 = 0 + d k; rw [h0]
            | arr zz e s v n f => rfl
            | map ag s n q f => show 0 = 0 + d k; rw [h0]
            | gone v => rfl
      let c : CallInfo := ⟨ids, u, en.osh.flat && en.vsh.flat, (en.args x).map (V.sh d), osS, rS⟩
      refine ⟨c, ⟨O2, fun id => ?_, hO2out, ⟨fcS, ?_, fun j e v he hv => ?_, fun v hv => ?_, hnd, ?_, ?_, fun k o ho => ?_, fun id hid => ⟨hdis id hid, ?_⟩, fun hk => ?_, ?_⟩⟩, ?_, ?_, ?_⟩
      · by_cases hid : id ∈ ids
        · obtain ⟨j, hj, rfl⟩ := List.getElem_of_mem hid
          obtain ⟨o, h1, _⟩ := hobj j hj
          obtain ⟨o1, k1, k3⟩ := hvar j hj o h1
          rw [hO2in j hj o h1, O_st_some k1]
          exact k3
        · rw [hO2out id hid]; exact PLe.refl _
      · show ((en.args x).map (V.sh d)).length = _
        unfold Ent.args
        rw [List.length_map, List.length_map, mk_len _ _ _ w1, List.length_map, n2]
      · have hv' : ((en.args x).map (V.sh d))[j]? = some v := hv
        unfold Ent.args at hv'
        rw [List.map_map, List.getElem?_map] at hv'
        rw [List.getElem?_map] at he
        obtain ⟨ev, h1, rfl⟩ := Option.map_eq_some_iff.1 he
        obtain ⟨vv, h2, rfl⟩ := Option.map_eq_some_iff.1 hv'
        have := l1 j
        have d1 : dl evs j = ev := getD_mem_idx h1
        have d2 : dl (en.ash.mk x 0).1 j = vv := getD_mem_idx h2
        rw [d1, d2] at this
        exact this
      · have hv' : v ∈ (en.args x).map (V.sh d) := hv
        unfold Ent.args at hv'
        rw [List.map_map] at hv'
        obtain ⟨vv, h2, rfl⟩ := List.mem_map.1 hv'
        obtain ⟨j, hj, rfl⟩ := List.getElem_of_mem h2
        have := m1 j
        have d2 : dl (en.ash.mk x 0).1 j = (en.ash.mk x 0).1[j] := getD_mem_idx (List.getElem?_eq_getElem hj)
        rw [d2] at this
        exact V.lt_sh this
      · show osS.length = ids.length
        show List.length (List.map _ (List.zipIdx (List.map _ _))) = _
        rw [List.length_map, List.length_zipIdx, List.length_map, hos]
      · show rosS.length = osS.length
        rw [hrosSlen]
        show _ = List.length (List.map _ (List.zipIdx (List.map _ _)))
        rw [List.length_map, List.length_zipIdx, List.length_map, hos]
      · have ho' : osS[k]? = some o := ho
        rw [hshL] at ho'
        obtain ⟨o0, ho'', rfl⟩ := Option.map_eq_some_iff.1 ho'
        unfold Ent.os at ho''
        rw [List.map_map, List.getElem?_map] at ho''
        obtain ⟨q, h1, rfl⟩ := Option.map_eq_some_iff.1 ho''
        have hk : k < ids.length := by
          have := (List.getElem?_eq_some_iff.1 h1).1
          omega
        obtain ⟨o', h2, _⟩ := hobj k hk
        rw [h2] at h1
        cases h1
        refine ⟨?_, Ob.lt_sh (m2 (k, o') (List.mem_of_getElem? h2))⟩
        rw [show c.ids.getD k 0 = ids[k] from getD_mem_idx (List.getElem?_eq_getElem hk)]
        exact hO2in k hk o' h2
      · cases hff : (en.osh.flat && en.vsh.flat) with
        | false =>
          obtain ⟨zz, e', τ, v, l, ho⟩ := hrow hff id hid
          exact .inl ⟨_, _, _, _, _, _, by rw [hO2out id (hdis id hid), O_st_some ho]; rfl⟩
        | true =>
          rcases hu id hid with ⟨zz, e', τ, v, l, ho⟩ | ⟨e', n, g, ho⟩
          · exact .inl ⟨_, _, _, _, _, _, by rw [hO2out id (hdis id hid), O_st_some ho]; rfl⟩
          · exact .inr ⟨hff, _, _, _, by rw [hO2out id (hdis id hid), O_st_some ho]; rfl⟩
      · have hk' : (en.osh.flat && en.vsh.flat) = true := hk
        simp only [Bool.and_eq_true] at hk'
        obtain ⟨f1, f2⟩ := mk_flat en.osh y ids.length hk'.1
        obtain ⟨f3, f4⟩ := mk_flat en.vsh z (en.osh.mk y ids.length).2.2 hk'.2
        refine ⟨?_, fun o ho => ?_⟩
        · show (en.val x y z).toV.flat
          unfold Ent.val
          rw [hos]
          exact (f3 0).1
        · have ho' : o ∈ rosS ++ (en.new x y z).map (·.2.toOb) := ho
          rcases List.mem_append.1 ho' with ho' | ho'
          · obtain ⟨k, hk, rfl⟩ := List.getElem_of_mem ho'
            have hk2 : k < ids.length := by omega
            have h1 := List.getElem?_eq_getElem hk
            obtain ⟨o', h2, _⟩ := hobj k hk2
            have h3 : rosS[k]? = some ((rootD (some o') (dl (en.osh.mk y ids.length).1 k)).toOb.sh d k) := (hshL _ k).trans (by rw [List.getElem?_map, hros k hk2 o' h2]; rfl)
            have h4 : some rosS[k] = some ((rootD (some o') (dl (en.osh.mk y ids.length).1 k)).toOb.sh d k) := h1.symm.trans h3
            rw [Option.some.inj h4]
            rcases hboth k hk2 o' h2 with ⟨_, e, n, g, g', _, rfl⟩ | ⟨zz, e, τ, l, τ', l', rfl, _⟩ | ⟨_, ag, κ, τ, l, ag', κ', τ', l', rfl, _⟩
            · intro t _
              show ((DV.cell _ t).toV.sh d).flat
              rw [← cell_toV, ← V.cell_sh, t1, cell_toV]
              exact (f1 _).2 t
            · rcases rootD_cases zz e τ 0 l (dl (en.osh.mk y ids.length).1 k) with ⟨_, τ2, l2, e2, ea, e1⟩ | e1
              · have := (f1 k).1
                rw [e2] at this
                rw [e1]
                exact ⟨Zz.alive_ne ea.2, fun i j hi hj => this.2 i j hi hj⟩
              · rw [e1]; trivial
            · trivial
          · obtain ⟨q, hq, rfl⟩ := List.mem_map.1 ho'
            unfold Ent.new at hq
            rw [hos] at hq
            rcases List.mem_append.1 hq with hq | hq
            · exact f2 q hq
            · exact f4 q hq
      · show ((en.new x y z).map (·.2.toOb)).length ≤ 16
        rw [List.length_map, hnewlen]
        exact w5
      · rfl
      · show (en.val x y z).toV.ren rr = _
        unfold Ent.val
        rw [hos]
        exact r3 0
      · show c.ups σ.st.O fr = _
        unfold CallInfo.ups
        simp only [dups, List.map_append]
        rw [← List.append_assoc, ← List.append_assoc]
        congr 1
        · show ((c.r.os ++ c.r.new).zipIdx.map fun p => (rn c.ids fr p.2, p.1.ren (rn c.ids fr))) = _
          have hsplit : (c.r.os ++ c.r.new).zipIdx = c.r.os.zipIdx ++ c.r.new.zipIdx ids.length := by
            rw [List.zipIdx_append]
            congr 2
            show 0 + rosS.length = _
            rw [hrosSlen, Nat.zero_add]
          rw [hsplit, List.map_append, List.append_assoc]
          congr 1
          · -- what was handed over
            apply List.ext_getElem?
            intro j
            have hcr : c.r.os = rosS := rfl
            rw [hcr]
            simp only [List.getElem?_map, List.getElem?_zipIdx, Nat.zero_add]
            by_cases hj : j < ids.length
            · obtain ⟨o, h1, _⟩ := hobj j hj
              have h3 : rosS[j]? = some ((rootD (some o) (dl (en.osh.mk y ids.length).1 j)).toOb.sh d j) := by
                exact (hshL _ j).trans (by rw [List.getElem?_map, hros j hj o h1]; rfl)
              rw [h3, List.getElem?_eq_getElem hj]
              simp only [Option.map_some, Option.some.injEq]
              refine Prod.ext (hrr j hj) ?_
              rcases hboth j hj o h1 with ⟨_, e, n, g, g', k1, rfl⟩ | ⟨zz, e, τ, l, τ', l', rfl, k1, k2⟩ | ⟨h0, ag, κ, τ, l, ag', κ', τ', l', rfl, k1⟩
              · simp only [k1, rootD, DOb.toOb, Ob.sh, Ob.ren]
                congr 1
                funext t
                rw [← cell_toV, ← cell_toV, ← V.cell_sh, t1, ← V.cell_ren]
                congr 1
                exact r1 j
              · rw [k1]
                exact rootD_same (mk_im qq en.osh y _ _ j) k2 d j rr rfl
              · simp only [k1, rootD, DOb.toOb, Ob.sh, Ob.ren, h0]
            · have h1 : rosS[j]? = none := List.getElem?_eq_none (by omega)
              have h2 : ids[j]? = none := List.getElem?_eq_none (by omega)
              rw [h1, h2]; rfl
          · -- what is new
            have hnew : c.r.new.zipIdx ids.length = (en.new x y z).map fun q => (q.2.toOb, q.1) := by
              apply List.ext_getElem?
              intro j
              rw [List.getElem?_zipIdx]
              show Option.map _ (((en.new x y z).map (·.2.toOb))[j]?) = _
              rw [List.getElem?_map, List.getElem?_map]
              by_cases hj : j < (en.new x y z).length
              · have h2 : ((en.new x y z).map (·.1))[j]? = some (ids.length + j) := by
                  rw [hnewnames, List.getElem?_range' (by omega)]; simp
                rw [List.getElem?_map, List.getElem?_eq_getElem hj] at h2
                simp only [Option.map_some, Option.some.injEq] at h2
                rw [List.getElem?_eq_getElem hj]
                simp only [Option.map_some, h2]
              · rw [List.getElem?_eq_none (by omega)]; rfl
            rw [hnew, List.map_map]
            unfold Ent.new
            rw [hos, List.map_append]
            have q1 : ((fun p : Ob × Nat => (rn c.ids fr p.2, p.1.ren (rn c.ids fr))) ∘ fun q : Nat × DOb => (q.2.toOb, q.1)) = fun q : Nat × DOb => (rr q.1, q.2.toOb.ren rr) := rfl
            rw [q1, r2, r4]
        · show (if c.keep = true then [] else c.vw.map fun id => (id, shareO (σ.st.O id))) = _
          show (if (en.osh.flat && en.vsh.flat) = true then [] else u.map fun id => (id, shareO (σ.st.O id))) = _
          cases hff : en.osh.flat && en.vsh.flat with
          | true => rfl
          | false =>
            simp only [cond_false, Bool.false_eq_true, if_false, List.map_map]
            refine List.map_congr_left fun id hid => ?_
            obtain ⟨zz, e', τ, v, l, ho⟩ := hrow hff id hid
            simp only [Function.comp, ho, shownD, O_st_some ho, shareO, DOb.toOb]
  · cases e
end
end Go.Proofs.Ytlmnhbobgfpanaa
