/-
  beats.Pack: its entry.
-/
import Derived.Test.YtahamggipcikgaaPkW
namespace Go.Proofs.Ytahamggipcikgaa
open Go.RowKit
theorem pk_enters : Enters Try.prog 6 := ⟨_, Try.func6, by kernel_rfl, by kernel_rfl⟩
theorem pk_args {vs : Array Value} (h : vs.size = 2) : vs = #[vs.getD 0 undef, vs.getD 1 undef] := by
  apply Array.ext
  · simpa using h
  · intro i hi1 hi2
    have hi : i = 0 ∨ i = 1 := by simp at hi2; omega
    rcases hi with rfl | rfl <;> simp [Array.getD_eq_getD_getElem?, hi1]
theorem pl_at {α β γ : Type} {s : Nat} (f : α × β → List γ) (hf : ∀ p, (f p).length = s) : ∀ (a : List α) (b : List β) (i j : Nat) (x : α) (y : β), a[i]? = some x → b[i]? = some y → j < s → ((a.zip b).flatMap f)[i * s + j]? = (f (x, y))[j]?
  | [], _, i, j, x, y, h, _, _ => by simp at h
  | _ :: _, [], i, j, x, y, _, h, _ => by simp at h
  | a :: l, b :: m, 0, j, x, y, h1, h2, hj => by
    simp only [List.getElem?_cons_zero, Option.some.injEq] at h1 h2
    subst h1 h2
    rw [List.zip_cons_cons, List.flatMap_cons, Nat.zero_mul, Nat.zero_add, List.getElem?_append_left (by rw [hf]; exact hj)]
  | a :: l, b :: m, i + 1, j, x, y, h1, h2, hj => by
    rw [List.zip_cons_cons, List.flatMap_cons, List.getElem?_append_right (by rw [hf, Nat.succ_mul]; omega), hf]
    have : (i + 1) * s + j - s = i * s + j := by rw [Nat.succ_mul]; omega
    rw [this]
    exact pl_at f hf l m i j x y (by simpa using h1) (by simpa using h2) hj
set_option maxRecDepth 100000 in
theorem gPack (fu : Nat) : (ePack fu).Good Try.prog := by
  rintro ⟨(fr : Int), (l : List WR), ⟨⟩⟩ y z hp
  have hp : pPack fu (fr, l, ()) = some (y, z) := hp
  unfold pPack at hp
  by_cases hl : l.length ≤ 1048576
  case neg => simp [hl] at hp
  rw [show decide (l.length ≤ 1048576) = true from decide_eq_true hl] at hp
  simp only [cond_true] at hp
  cases hr : Bq.p12 fu (fr, l, ()) with
  | none => rw [hr] at hp; cases hp
  | some e' =>
  obtain ⟨⟨⟩, (e : Int)⟩ := e'
  rw [hr] at hp
  simp only [Option.bind_some] at hp
  obtain ⟨ps, hz, hq, hne⟩ : ∃ ps, some ((), ps, e, ()) = some (y, z) ∧ (e = 0 → packsq fu fr l keysq = some ps) ∧ (e ≠ 0 → ps = []) := by
    by_cases he : e = 0
    · rw [show (e != 0) = false by simp [he]] at hp
      simp only [cond_false] at hp
      cases hk : packsq fu fr l keysq with
      | none => rw [hk] at hp; cases hp
      | some ps =>
        rw [hk] at hp
        exact ⟨ps, by rw [he]; exact hp, fun _ => rfl, fun h => absurd he h⟩
    · rw [show (e != 0) = true by simp [he]] at hp
      exact ⟨[], hp, fun h => absurd h he, fun _ => rfl⟩
  obtain ⟨rfl, rfl⟩ := Prod.mk.inj (Option.some.inj hz)
  clear hz hp
  refine ⟨pk_enters, fun ok ρ w vs hgl h1 h2 h3 h4 h5 => ?_⟩
  obtain ⟨A, c, e0, hn, hf⟩ : (T.sl 15 l.length (rowsT pkT l)).rel (okb ok ρ (lol [])) w (vs.getD 1 undef) := h5 1 _ rfl
  have e1 : vs.getD 0 undef = .int .i64 fr := h5 0 _ rfl
  rw [pk_args h4, e0, e1]
  have hT : (T.sl 15 l.length (rowsT pkT l)).rel (allB w) w (.slice A l.length c) := T.rel_mono (fun g k hg _ => ⟨rfl, hg⟩) (⟨A, c, rfl, hn, hf⟩ : (T.sl 15 l.length (rowsT pkT l)).rel (okb ok ρ (lol [])) w (.slice A l.length c))
  refine (pk_walk w rfl hl hT hr (ps := ps) hq).mono ?_
  rintro e' w' ⟨v, ps', rfl, hbl, hpk, hne', hq'⟩
  obtain rfl : ps' = ps := by
    by_cases he : e = 0
    · exact hq' he
    · rw [hne' he, hne he]
  clear hne hne' hq hq'
  obtain ⟨ds, d1, d2, d3⟩ := hpk
  let o1 : Ob := (DOb.arr .own pkP pkK 0 ps').toOb
  have main : ∃ p : Option Nat, (∀ g, p = some g → v.ownBlock = some g) ∧ ((p = none ∧ v = .slice none 0 0 ∧ ps'.length = 0) ∨ ∃ g cap cur, p = some g ∧ v = .slice (some ⟨g, 0, none⟩) ps'.length cap ∧ w.heap.size ≤ g ∧ w'.heap[g]? = some (.cells cur pkP (0, 0)) ∧ ps'.length ≤ cap ∧ cap ≤ maxLen ∧ cur.size = cap * 4 ∧ cur.toList.take (ps'.length * 4) = (ps'.zip ds).flatMap pcs) := by
    rcases d2.2 with ⟨q, q'⟩ | ⟨g, cap, cur, q, q1, q2, q3, q4, q5, q6⟩
    · exact ⟨none, fun g h => (by cases h), .inl ⟨rfl, q, q'⟩⟩
    · exact ⟨some g, fun g' h => (by cases h; rw [q]; rfl), .inr ⟨g, cap, cur, rfl, q, q1, q2, q3, q4, q5, q6⟩⟩
  obtain ⟨p, hpo, hmain⟩ := main
  let ρ' : Pl := fun k => if k = 0 then p else ρ k
  have hin : ∀ {k : Nat} {o : Ob}, lol [o1] k = some o → k = 0 ∧ o = o1 := fun {k o} h => by
    rcases k with _ | k
    · exact ⟨rfl, (Option.some.inj h).symm⟩
    · simp [lol] at h
  have hown : ∀ {g : Nat}, own ρ' (lol [o1]) g → p = some g := fun {g} ⟨id, o, a1, a2, a3⟩ => by
    obtain ⟨rfl, rfl⟩ := hin a1
    exact a3
  have hge : ∀ {g : Nat}, p = some g → w.heap.size ≤ g ∧ g < w'.heap.size := fun {g} h => d2.lt g (hpo g h)
  show ∃ ρ' x, Ending.returned (Value.tuple #[v, .int .i64 e]) = .returned x ∧ ([] : List Ob).length = ([] : List Ob).length ∧
    (V.tup 2 fun j => (dl [DV.buf 0 0 0 ps'.length true, .im (.int .i64) e] j).toV).rel (Env.b ⟨w, ρ, lol [], ok⟩) ρ' (lol [o1]) w' x ∧
    (∀ k o, lol [o1] k = some o → o.rel (Env.b ⟨w, ρ, lol [], ok⟩) ρ' (lol [o1]) w' (ρ' k)) ∧
    (∀ k o g, lol [o1] k = some o → o.live = true → ρ' k = some g → (w.heap.size ≤ g ∨ own ρ (lol []) g) ∧ g < w'.heap.size) ∧
    (∀ k k' o o' g, lol [o1] k = some o → lol [o1] k' = some o' → o.live = true → o'.live = true → ρ' k = some g → ρ' k' = some g → k = k') ∧
    Ext ρ (lol []) w ρ' (lol [o1]) w' ∧ w.heap.size ≤ w'.heap.size ∧ w'.os = w.os ∧ w'.tape = w.tape ∧ w'.output = w.output
  refine ⟨ρ', _, rfl, rfl, ?_, fun k o hk => ?_, fun k o g hk hl' hg => ?_, fun k k' o o' g hk hk' _ _ hg hg' => ?_, ⟨fun g hg _ => ⟨hbl.block g hg, fun q => by have := (hge (hown q)).1; omega⟩, fun g k hg _ => ⟨hbl.cell (p := ⟨g, k, none⟩) hg, fun q => by have := (hge (hown (own_of_ownc q))).1; omega⟩, fun id o hid => by simp [lol] at hid⟩, hbl.size, hbl.os, hbl.tape, hbl.output⟩
  · refine ⟨_, rfl, rfl, fun j hj => ?_⟩
    rcases j with _ | _ | j
    · rcases hmain with ⟨q1, q2, q3⟩ | ⟨g, cap, cur, q1, q2, q3, q4, q5, q6, q7, q8⟩
      · exact ⟨none, 0, o1, by rw [q2, q3]; rfl, by rw [q3]; exact Nat.le_refl _, rfl, Nat.le_refl _, fun _ => ⟨_, _, _, _, _, rfl, by rw [q3]; exact Nat.zero_le _, .inl ⟨q1, rfl, rfl, rfl⟩⟩⟩
      · exact ⟨_, cap, o1, q2, q5, rfl, Nat.le_refl _, fun _ => ⟨_, _, _, _, _, rfl, by rw [Nat.zero_add]; exact Nat.le_refl _, .inr ⟨g, cur, q1, fun _ => by rw [Nat.zero_mul], q4, by rw [Nat.zero_add]; exact q7.symm⟩⟩⟩
    · exact (rfl : Value.int .i64 e = _)
    · omega
  · obtain ⟨rfl, rfl⟩ := hin hk
    rcases hmain with ⟨q1, q2, q3⟩ | ⟨g, cap, cur, q1, q2, q3, q4, q5, q6, q7, q8⟩
    · exact .inl ⟨q1, q3⟩
    · refine .inr ⟨g, cur, cap, q1, q4, q7, q5, ⟨q6, fun h => by cases h⟩, fun i j hi hj => ?_⟩
      have hi : i < ps'.length := hi
      have hj : j < 4 := hj
      have hd : ds[i]? = some (ds.getD i undef) := by
        have : i < ds.length := by omega
        simp [List.getD_eq_getElem?_getD, this]
      have hpq : ps'[i]? = some (ps'.getD i (0, 0, 0, [])) := by simp [List.getD_eq_getElem?_getD, hi]
      have hx := pl_at pcs (s := 4) (fun _ => rfl) ps' ds i j _ _ hpq hd hj
      have hc : cur.getD (i * 4 + j) undef = (pcs (ps'.getD i (0, 0, 0, []), ds.getD i undef)).getD j undef := by
        rw [← q8, List.getElem?_take, if_pos (by omega)] at hx
        rw [Array.getD_eq_getD_getElem?, ← Array.getElem?_toList, hx]
        exact (List.getD_eq_getElem?_getD ..).symm
      show (cur.getD (i * 4 + j) undef).oneCell' = true ∧ T.rel _ w' (cellT pkK (ps'.getD i (0, 0, 0, [])) j) (cur.getD (i * 4 + j) undef)
      rw [hc]
      obtain ⟨r1, r2⟩ := d3 i hi
      rcases j with _ | _ | _ | _ | j
      · exact ⟨rfl, rfl⟩
      · exact ⟨rfl, rfl⟩
      · exact ⟨rfl, rfl⟩
      · refine ⟨r1, T.rel_mono (fun g' k' hg' hok => ⟨rfl, .inr (.inl hok.1), fun q => ?_⟩) r2⟩
        have := hown (own_of_ownc q)
        exact hok.2 (hpo _ this).symm
      · omega
  · obtain ⟨rfl, rfl⟩ := hin hk
    have := hge (show p = some g from hg)
    exact ⟨.inl this.1, this.2⟩
  · obtain ⟨rfl, rfl⟩ := hin hk
    obtain ⟨rfl, rfl⟩ := hin hk'
    rfl
end Go.Proofs.Ytahamggipcikgaa
