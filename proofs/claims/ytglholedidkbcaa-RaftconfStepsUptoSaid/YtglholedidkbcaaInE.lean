/-
  slices.Insert into a row of numbers that is handed over, as an entry: what stood in it, with others between.
-/
import Derived.Test.YtglholedidkbcaaCmL
namespace Go.Proofs.Ytglholedidkbcaa
open Go.RowKit Go.Sort Go.Shelf

theorem in_enters : Enters Try.prog 67 := ⟨_, Try.func67, by kernel_rfl, by kernel_rfl⟩
theorem in_args {vs : Array Value} (h : vs.size = 3) : vs = #[vs.getD 0 undef, vs.getD 1 undef, vs.getD 2 undef] := by
  apply Array.ext
  · simpa using h
  · intro i hi1 hi2
    have hi : i < 3 := by omega
    rcases i with _ | _ | _ | i
    · simp [Array.getD_eq_getD_getElem?, hi1]
    · simp [Array.getD_eq_getD_getElem?, hi1]
    · simp [Array.getD_eq_getD_getElem?, hi1]
    · omega
theorem lol_in {o1 o2 : Ob} {k : Nat} {o' : Ob} (h : lol [o1, o2] k = some o') : (k = 0 ∧ o' = o1) ∨ (k = 1 ∧ o' = o2) := by
  rcases k with _ | _ | k
  · exact .inl ⟨rfl, (Option.some.inj h).symm⟩
  · exact .inr ⟨rfl, (Option.some.inj h).symm⟩
  · simp [lol] at h
theorem lol_out {o1 o2 o3 : Ob} {k : Nat} {o' : Ob} (h : lol ([o1, o2] ++ [o3]) k = some o') : (k = 0 ∧ o' = o1) ∨ (k = 1 ∧ o' = o2) ∨ (k = 2 ∧ o' = o3) := by
  rcases k with _ | _ | _ | k
  · exact .inl ⟨rfl, (Option.some.inj h).symm⟩
  · exact .inr (.inl ⟨rfl, (Option.some.inj h).symm⟩)
  · exact .inr (.inr ⟨rfl, (Option.some.inj h).symm⟩)
  · simp [lol] at h
/-- A row of numbers. -/
abbrev roI (e : TypeId) (l : List Int) : Ob := .arr .own e 1 0 l.length (rowsT (.int .i64) l)
/-- Two rows are given away; what comes back lies in the first one's place, or in new memory. -/
theorem fc_row2 {ok : Nat → Nat → Prop} {ρ : Pl} {w w' : World} {e : TypeId} {l v l' : List Int} {g : Nat} {cs : Array Value} {x : Value}
    (hx : x = .slice (some ⟨g, 0, none⟩) l'.length cs.size) (hc : l'.length ≤ cs.size) (hmax : cs.size ≤ maxLen)
    (hat : w'.heap[g]? = some (.cells cs e (0, 0))) (hv : ∀ i, i < l'.length → cs.getD i undef = .int .i64 (l'.getD i 0))
    (hpo : ρ 0 = some g ∨ w.heap.size ≤ g)
    (hne : ∀ j, j < w.heap.size → ρ 0 ≠ some j → w'.heap[j]? = w.heap[j]?) (hz : w.heap.size ≤ w'.heap.size) (hos : w'.os = w.os) (ht : w'.tape = w.tape) (ho : w'.output = w.output) :
    ∃ ρ' y, Ending.returned x = .returned y ∧ ([Ob.gone 1, Ob.gone 1] : List Ob).length = ([roI e l, roI e v] : List Ob).length ∧
      (V.buf 2 0 0 l'.length).rel (Env.b ⟨w, ρ, lol [roI e l, roI e v], ok⟩) ρ' (lol ([.gone 1, .gone 1] ++ [roI e l'])) w' y ∧
      (∀ k o, lol ([.gone 1, .gone 1] ++ [roI e l']) k = some o → o.rel (Env.b ⟨w, ρ, lol [roI e l, roI e v], ok⟩) ρ' (lol ([.gone 1, .gone 1] ++ [roI e l'])) w' (ρ' k)) ∧
      (∀ k o g, lol ([.gone 1, .gone 1] ++ [roI e l']) k = some o → o.live = true → ρ' k = some g → (w.heap.size ≤ g ∨ own ρ (lol [roI e l, roI e v]) g) ∧ g < w'.heap.size) ∧
      (∀ k k' o o' g, lol ([.gone 1, .gone 1] ++ [roI e l']) k = some o → lol ([.gone 1, .gone 1] ++ [roI e l']) k' = some o' → o.live = true → o'.live = true → ρ' k = some g → ρ' k' = some g → k = k') ∧
      Ext ρ (lol [roI e l, roI e v]) w ρ' (lol ([.gone 1, .gone 1] ++ [roI e l'])) w' ∧ w.heap.size ≤ w'.heap.size ∧ w'.os = w.os ∧ w'.tape = w.tape ∧ w'.output = w.output := by
  have ownG : ∀ {g : Nat}, ρ 0 = some g → own ρ (lol [roI e l, roI e v]) g := fun h => ⟨0, _, rfl, rfl, h⟩
  have own2 : ∀ {j : Nat}, own (fun k => if k = 2 then some g else ρ k) (lol ([.gone 1, .gone 1] ++ [roI e l'])) j → j = g := fun ⟨id, o, a1, a2, a3⟩ => by
    rcases lol_out a1 with ⟨rfl, rfl⟩ | ⟨rfl, rfl⟩ | ⟨rfl, rfl⟩
    · cases a2
    · cases a2
    · exact (Option.some.inj a3).symm
  have hglt : g < w'.heap.size := (Array.getElem?_eq_some_iff.1 hat).1
  refine ⟨fun k => if k = 2 then some g else ρ k, x, rfl, rfl, ?_, fun k o hk => ?_, fun k o g' hk hl hg => ?_, fun k k' o o' g hk hk' h1 h2 _ _ => ?_, ⟨fun j hj hno => ?_, fun j k hj hno => ?_, fun id o hid => ?_⟩, hz, hos, ht, ho⟩
  · exact ⟨_, _, _, hx, hc, rfl, Nat.le_refl _, fun _ => ⟨_, _, _, _, _, rfl, by omega, .inr ⟨g, cs, rfl, fun _ => by simp, hat, by omega⟩⟩⟩
  · rcases lol_out hk with ⟨rfl, rfl⟩ | ⟨rfl, rfl⟩ | ⟨rfl, rfl⟩
    · trivial
    · trivial
    · refine .inr ⟨g, cs, cs.size, rfl, hat, by omega, hc, ⟨hmax, nofun⟩, fun i j hi hj => ?_⟩
      obtain rfl : j = 0 := by omega
      rw [Nat.mul_one, Nat.add_zero, hv i hi]
      exact ⟨rfl, rfl⟩
  · rcases lol_out hk with ⟨rfl, rfl⟩ | ⟨rfl, rfl⟩ | ⟨rfl, rfl⟩
    · cases hl
    · cases hl
    · have hg : some g = some g' := hg
      cases hg
      exact ⟨hpo.elim (fun h => .inr (ownG h)) .inl, hglt⟩
  · rcases lol_out hk with ⟨rfl, rfl⟩ | ⟨rfl, rfl⟩ | ⟨rfl, rfl⟩
    · cases h1
    · cases h1
    · rcases lol_out hk' with ⟨rfl, rfl⟩ | ⟨rfl, rfl⟩ | ⟨rfl, rfl⟩
      · cases h2
      · cases h2
      · rfl
  · refine ⟨hne j hj fun hq => hno (ownG hq), fun k => ?_⟩
    have := own2 k
    subst this
    rcases hpo with h | h
    · exact hno (ownG h)
    · omega
  · have hq : ρ 0 ≠ some j := fun hq => hno ⟨0, _, rfl, rfl, hq, Nat.zero_le _⟩
    refine ⟨World.cell?_of_block (hne j hj hq), fun k => ?_⟩
    have := own2 (own_of_ownc k)
    subst this
    rcases hpo with h | h
    · exact hq h
    · omega
  · rcases lol_in hid with ⟨rfl, rfl⟩ | ⟨rfl, rfl⟩
    · exact ⟨.gone 1, rfl, Nat.zero_le _, fun hv => by cases hv⟩
    · exact ⟨.gone 1, rfl, Nat.zero_le _, fun hv => by cases hv⟩
/-- Cells that are written one behind the other. -/
theorem setCells_at (g : Nat) (e : TypeId) : ∀ (vs : List Value) (o : Nat) (w : World) (cs : Array Value), w.heap[g]? = some (.cells cs e (0, 0)) →
    (∃ cs' : Array Value, (w.setCells g o vs).heap[g]? = some (.cells cs' e (0, 0)) ∧ cs'.size = cs.size ∧ ∀ q, q < cs.size → cs'.getD q undef = if o ≤ q ∧ q < o + vs.length then vs.getD (q - o) undef else cs.getD q undef) ∧
    (∀ j, j ≠ g → (w.setCells g o vs).heap[j]? = w.heap[j]?) ∧ (w.setCells g o vs).heap.size = w.heap.size ∧ (w.setCells g o vs).os = w.os ∧ (w.setCells g o vs).tape = w.tape ∧ (w.setCells g o vs).output = w.output
  | [], o, w, cs, h => ⟨⟨cs, h, rfl, fun q _ => by rw [if_neg (by simp)]⟩, fun _ _ => rfl, rfl, rfl, rfl, rfl⟩
  | v :: vs, o, w, cs, h => by
    have h1 : (w.setCell ⟨g, o, none⟩ v).heap[g]? = some (.cells (cs.setIfInBounds o v) e (0, 0)) := by
      show (w.heap.modify g _)[g]? = _
      rw [Array.getElem?_modify, if_pos rfl, h]
      rfl
    obtain ⟨⟨cs', a1, a2, a3⟩, b1, b2, b3, b4, b5⟩ := setCells_at g e vs (o + 1) (w.setCell ⟨g, o, none⟩ v) _ h1
    refine ⟨⟨cs', a1, by rw [a2]; simp, fun q hq => ?_⟩, fun j hj => ?_, by rw [World.setCells, b2]; show (w.heap.modify g _).size = _; simp, by rw [World.setCells, b3]; rfl, by rw [World.setCells, b4]; rfl, by rw [World.setCells, b5]; rfl⟩
    · rw [a3 q (by simpa using hq)]
      simp only [List.length_cons]
      by_cases c1 : q = o
      · subst c1
        rw [if_neg (by omega), if_pos (by omega), Nat.sub_self]
        simp [Array.getD_eq_getD_getElem?, hq]
      · by_cases c2 : o + 1 ≤ q ∧ q < o + 1 + vs.length
        · rw [if_pos c2, if_pos (by omega), show q - o = q - (o + 1) + 1 by omega]
          simp
        · rw [if_neg c2, if_neg (by omega)]
          simp [Array.getD_eq_getD_getElem?, Ne.symm c1]
    · rw [World.setCells, b1 j hj]
      show (w.heap.modify g _)[j]? = _
      rw [Array.getElem?_modify, if_neg (Ne.symm hj)]
/-- A row with others between. -/
def insI (l : List Int) (i : Nat) (v : List Int) : List Int := l.take i ++ v ++ l.drop i
theorem insI_len (l v : List Int) (i : Nat) (hi : i ≤ l.length) : (insI l i v).length = l.length + v.length := by
  unfold insI
  simp; omega
theorem insI_get (l v : List Int) (i : Nat) (hi : i ≤ l.length) (q : Nat) : (insI l i v).getD q 0 = if q < i then l.getD q 0 else if q < i + v.length then v.getD (q - i) 0 else l.getD (q - v.length) 0 := by
  unfold insI
  simp only [List.getD_eq_getElem?_getD]
  by_cases c1 : q < i
  · rw [if_pos c1, List.append_assoc, List.getElem?_append_left (by simp; omega), List.getElem?_take, if_pos c1]
  · rw [if_neg c1]
    by_cases c2 : q < i + v.length
    · rw [if_pos c2, List.getElem?_append_left (by simp; omega), List.getElem?_append_right (by simp; omega)]
      simp [show min i l.length = i by omega]
    · rw [if_neg c2, List.getElem?_append_right (by simp; omega), List.getElem?_drop]
      congr 2
      simp; omega
theorem enc_get (l : List Int) (q : Nat) (h : q < l.length) : (l.map (Value.int .i64)).getD q undef = .int .i64 (l.getD q 0) := by
  rw [List.getD_eq_getElem?_getD, List.getElem?_map, List.getD_eq_getElem?_getD, List.getElem?_eq_getElem h]
  rfl
/-- What is known of a row that came in. -/
theorem row_cells {b : Nat → Nat → Prop} {ρ : Pl} {O : Ow} {w : World} {e : TypeId} {l : List Int} {g : Nat} {cs : Array Value} (hr : (roI e l).rel b ρ O w (some g)) (hh : w.heap[g]? = some (.cells cs e (0, 0))) :
    l.length ≤ cs.size ∧ cs.size ≤ maxLen ∧ ∀ j, j < l.length → cs.getD j undef = .int .i64 (l.getD j 0) := by
  rcases hr with ⟨q1, _⟩ | ⟨g', cs', cap, q1, q2, q3, q4, q5, q6⟩
  · cases q1
  · cases q1
    rw [hh] at q2; cases q2
    have h1 : cs.size = cap * 1 := q3
    have h2 : l.length ≤ cap := q4
    have h3 : cap ≤ maxLen := q5.1
    refine ⟨by omega, by omega, fun j hj => ?_⟩
    have := (q6 j 0 hj (by omega)).2
    rw [Nat.mul_one, Nat.add_zero] at this
    exact this
theorem map_cells {w : World} {g : Nat} {e : TypeId} {l : List Int} {cs : Array Value} (hh : w.heap[g]? = some (.cells cs e (0, 0))) (h1 : l.length ≤ cs.size) (h2 : ∀ j, j < l.length → cs.getD j undef = .int .i64 (l.getD j 0)) (j : Nat) (x : Value) (hx : (l.map (Value.int .i64))[j]? = some x) : w.cell? ⟨g, 0 + j, none⟩ = some x := by
  have hj : j < l.length := by
    have := (List.getElem?_eq_some_iff.1 hx).1
    simpa using this
  rw [Nat.zero_add, cell_of_row w g j cs e (0, 0) hh, getD_some (by omega), h2 j hj]
  rw [← enc_get l j hj, List.getD_eq_getElem?_getD, hx]
  rfl
theorem one_cells (l : List Int) : ∀ x ∈ l.map (Value.int .i64), x.oneCell' = true := fun x hx => by
  obtain ⟨n, _, rfl⟩ := List.mem_map.1 hx
  rfl
theorem zeros_size (n : Nat) : (Builtin.zeroCells (Value.int .i64 0).cells n).size = n := by
  have : (Value.int .i64 0).cells.size = 1 := rfl
  simp [Builtin.zeroCells, this]
theorem fcInsert (l v : List Int) (i : Nat) (hi : i ≤ l.length) (hv : 0 < v.length) (hb : (l.length + v.length) * 8 ≤ 140737488355328) :
    FC Try.prog 67 [roI 3 l, roI 3 v] [.buf 0 0 0 l.length, .im (.val (.int .i64 i)), .buf 1 0 0 v.length] ⟨[.gone 1, .gone 1], [roI 3 (insI l i v)], .buf 2 0 0 (insI l i v).length⟩ := by
  refine ⟨in_enters, fun ok ρ w vs hgl h1 h2 h3 h4 h5 => ?_⟩
  have hlen := insI_len l v i hi
  have hml : maxLen = 9223372036854775807 := rfl
  -- what came in
  obtain ⟨A, c, o, k0, k1, k2, -, k3⟩ := h5 0 _ rfl
  obtain rfl : o = roI 3 l := (Option.some.inj k2).symm
  obtain ⟨_, _, _, _, _, ho, _, hp⟩ := k3 rfl
  clear k3
  cases ho
  have j0 : vs.getD 1 undef = .int .i64 i := h5 1 _ rfl
  obtain ⟨B, vc, o, m0, m1, m2, -, m3⟩ := h5 2 _ rfl
  obtain rfl : o = roI 3 v := (Option.some.inj m2).symm
  obtain ⟨_, _, _, _, _, ho, _, hq⟩ := m3 rfl
  clear m3
  cases ho
  rcases hq with ⟨_, _, rfl, _⟩ | ⟨vb, vcs, q1, q2, q3, q4⟩
  · omega
  have hB := q2 (.inr rfl)
  rw [Nat.zero_mul] at hB
  subst hB
  have hv1 := h1 1 _ rfl
  rw [q1] at hv1
  obtain ⟨v1, -, v3⟩ := row_cells hv1 q3
  have hvs := map_cells q3 v1 v3
  rw [in_args h4, k0, j0, m0]
  by_cases hroom : l.length + v.length ≤ c
  · -- in its place
    rcases hp with ⟨_, _, rfl, _⟩ | ⟨g, cs, p1, p2, p3, p4⟩
    · omega
    have hA := p2 (.inr rfl)
    rw [Nat.zero_mul] at hA
    subst hA
    have hl1 := h1 0 _ rfl
    rw [p1] at hl1
    obtain ⟨u1, u2, u3⟩ := row_cells hl1 p3
    have hc : cs.size = c := by omega
    have hvb : vb ≠ g := fun e => by
      have := h3 0 1 _ _ g rfl rfl rfl rfl p1 (by rw [q1, e])
      cases this
    have hglt : g < w.heap.size := (Array.getElem?_eq_some_iff.1 p3).1
    have hsp : ∀ j, j < cs.size → (w.cell? ⟨g, j, none⟩).isSome = true := fun j hj => by
      rw [cell_of_row w g j cs 3 (0, 0) p3, getD_some hj]; rfl
    have hfz : ∀ j, w.frozen? ⟨g, j, none⟩ = false := fun j => by simp [World.frozen?, p3]
    by_cases hend : i = l.length
    · subst hend
      refine (Any2.slices_Insert_int_end_room Try.insertA g 0 l.length c vb 0 v.length vc (v.map (Value.int .i64)) w hv hroom (by omega) (by simp) (fun j hj => hsp _ (by omega)) (fun j _ => hfz _) hvs (one_cells v)).mono ?_
      rintro e' w' ⟨rfl, rfl⟩
      obtain ⟨⟨cs', a1, a2, a3⟩, b1, b2, b3, b4, b5⟩ := setCells_at g 3 (v.map (Value.int .i64)) (0 + l.length) w cs p3
      refine fc_row2 (g := g) (cs := cs') (by rw [hlen, a2, hc]) (by omega) (by omega) a1 (fun q hq => ?_) (.inl p1) (fun j hj hn => b1 j fun e => hn (by rw [p1, e])) (by omega) b3 b4 b5
      rw [a3 q (by omega), insI_get l v _ hi]
      simp only [List.length_map, Nat.zero_add]
      by_cases c1 : q < l.length
      · rw [if_pos c1, if_neg (by omega), u3 q c1]
      · rw [if_neg c1, if_pos (by omega), if_pos (by omega), enc_get v _ (by omega)]
    · refine (Any2.slices_Insert_int_shift Try.insertA g 0 l.length c i vb 0 v.length vc (l.map (Value.int .i64)) (v.map (Value.int .i64)) w (by omega) hv hroom (by omega) hvb (by simp) (by simp)
        (map_cells p3 u1 u3) (fun j hj => hsp _ (by omega)) (fun j _ => hfz _) hvs (one_cells l) (one_cells v) 3 3 vcs.size cs.size (by simp [World.shape?, q3]) (by simp [World.shape?, p3]) (by omega) (by simp [World.frozen?, q3]) (by simp [World.frozen?, q3])).mono ?_
      rintro e' w' ⟨rfl, rfl⟩
      obtain ⟨⟨cs1, a1, a2, a3⟩, b1, b2, b3, b4, b5⟩ := setCells_at g 3 ((l.map (Value.int .i64)).drop i) (0 + (i + v.length)) w.drew cs p3
      obtain ⟨⟨cs2, d1, d2, d3⟩, e1, e2, e3, e4, e5⟩ := setCells_at g 3 (v.map (Value.int .i64)) (0 + i) _ cs1 a1
      refine fc_row2 (g := g) (cs := cs2) (by rw [hlen, d2, a2, hc]) (by omega) (by omega) d1 (fun q hq => ?_) (.inl p1) (fun j hj hn => ?_) (by rw [e2, b2]; exact Nat.le_refl _) (by rw [e3, b3]; rfl) (by rw [e4, b4]; rfl) (by rw [e5, b5]; rfl)
      · rw [d3 q (by omega), insI_get l v _ hi]
        simp only [List.length_map, Nat.zero_add]
        by_cases c1 : q < i
        · rw [if_pos c1, if_neg (by omega), a3 q (by omega), if_neg (by simp; omega), u3 q (by omega)]
        · rw [if_neg c1]
          by_cases c2 : q < i + v.length
          · rw [if_pos c2, if_pos (by omega), enc_get v _ (by omega)]
          · rw [if_neg c2, if_neg (by omega), a3 q (by omega), if_pos (by simp; omega), List.getD_eq_getElem?_getD, List.getElem?_drop, ← List.getD_eq_getElem?_getD, enc_get l _ (by omega)]
            congr 2; omega
      · have hjg : j ≠ g := fun e => hn (by rw [p1, e])
        rw [e1 j hjg, b1 j hjg]
        rfl
  · -- in new memory
    have hnone : A = none → l.length = 0 := fun hA => by
      rcases hp with ⟨_, _, rfl, _⟩ | ⟨g, cs, p1, p2, p3, p4⟩
      · omega
      · have := p2 (.inr rfl); rw [hA] at this; cases this
    have hcells : ∀ a, A = some a → ∃ g cs, a = ⟨g, 0, none⟩ ∧ w.heap[g]? = some (.cells cs 3 (0, 0)) ∧ l.length ≤ cs.size ∧ ∀ j, j < l.length → cs.getD j undef = .int .i64 (l.getD j 0) := fun a ha => by
      rcases hp with ⟨_, hA, _, _⟩ | ⟨g, cs, p1, p2, p3, p4⟩
      · rw [hA] at ha; cases ha
      · have hA := p2 (.inr rfl)
        rw [Nat.zero_mul, ha] at hA
        cases hA
        have hl1 := h1 0 _ rfl
        rw [p1] at hl1
        obtain ⟨u1, u2, u3⟩ := row_cells hl1 p3
        exact ⟨g, cs, rfl, p3, u1, u3⟩
    generalize hgc : grownCap w (l.length + v.length) c (Try.insertA_ren.t 3) = gc at *
    have hg1 : l.length + v.length ≤ gc := by rw [← hgc]; exact grownCap_ge _ _ _ _
    have hg2 : gc ≤ maxLen := by rw [← hgc]; exact grownCap_le_maxLen _ _ _ _ (by omega)
    by_cases hend : i = l.length
    · subst hend
      refine (Any2.slices_Insert_int_end_grow Try.insertA A l.length c vb 0 v.length vc (l.map (Value.int .i64)) (v.map (Value.int .i64)) w hv k1 (by omega) hb (by simp) (by simp) hnone (fun a ha j x hx => ?_) hvs (one_cells v)).mono ?_
      · obtain ⟨g, cs, rfl, p3, u1, u3⟩ := hcells a ha
        have := map_cells p3 u1 u3 j x hx
        rw [Nat.zero_add] at this
        cases j <;> simpa [Addr.add] using this
      rintro e' w' ⟨rfl, rfl⟩
      rw [hgc]
      generalize hcs : ((l.map (Value.int .i64) ++ v.map (Value.int .i64)).toArray ++ Builtin.zeroCells (Value.int .i64 0).cells (gc - (l.length + v.length))) = cs
      have hsz : cs.size = gc := by rw [← hcs, Array.size_append, zeros_size]; simp; omega
      refine fc_row2 (g := w.heap.size) (cs := cs) (by rw [hlen, hsz]) (by omega) (by omega) ?_ (fun q hq => ?_) (.inr (Nat.le_refl _)) (fun j hj _ => ?_) ?_ rfl rfl rfl
      · show (w.heap.push _)[w.heap.size]? = _
        rw [Array.getElem?_push_size]; rfl
      · rw [← hcs, insI_get l v _ hi, Array.getD_eq_getD_getElem?, Array.getElem?_append_left (by simp; omega)]
        simp only [List.getElem?_toArray]
        by_cases c1 : q < l.length
        · rw [if_pos c1, List.getElem?_append_left (by simpa using c1), ← List.getD_eq_getElem?_getD, enc_get l _ c1]
        · rw [if_neg c1, if_pos (by omega), List.getElem?_append_right (by simp; omega), ← List.getD_eq_getElem?_getD, List.length_map, enc_get v _ (by omega)]
      · show (w.heap.push _)[j]? = _
        rw [Array.getElem?_push, if_neg (by omega)]
      · show _ ≤ (w.heap.push _).size
        simp
    · rcases hp with ⟨_, _, rfl, _⟩ | ⟨g, cs0, p1, p2, p3, p4⟩
      · omega
      have hA := p2 (.inr rfl)
      rw [Nat.zero_mul] at hA
      subst hA
      have hl1 := h1 0 _ rfl
      rw [p1] at hl1
      obtain ⟨u1, u2, u3⟩ := row_cells hl1 p3
      refine (Any2.slices_Insert_int_grow Try.insertA g 0 l.length c i vb 0 v.length vc (l.map (Value.int .i64)) (v.map (Value.int .i64)) w (by omega) hv k1 (by omega) hb (by simp) (by simp) (map_cells p3 u1 u3) hvs (one_cells l) (one_cells v)).mono ?_
      rintro e' w' ⟨rfl, rfl⟩
      rw [hgc]
      generalize hcs : ((((l.map (Value.int .i64)).take i).toArray ++ Builtin.zeroCells (Value.int .i64 0).cells (l.length + v.length - i) ++ Builtin.zeroCells (Value.int .i64 0).cells (gc - (l.length + v.length)))) = cs
      have hsz : cs.size = gc := by rw [← hcs, Array.size_append, Array.size_append, zeros_size, zeros_size]; simp; omega
      have hat : (w.alloc (.cells cs (Try.insertA_ren.t 3))).drew.heap[w.heap.size]? = some (.cells cs 3 (0, 0)) := by
        show (w.heap.push _)[w.heap.size]? = _
        rw [Array.getElem?_push_size]; rfl
      obtain ⟨⟨cs1, a1, a2, a3⟩, b1, b2, b3, b4, b5⟩ := setCells_at w.heap.size 3 (v.map (Value.int .i64)) i _ cs hat
      obtain ⟨⟨cs2, d1, d2, d3⟩, e1, e2, e3, e4, e5⟩ := setCells_at w.heap.size 3 ((l.map (Value.int .i64)).drop i) (i + v.length) (((w.alloc (.cells cs (Try.insertA_ren.t 3))).drew.setCells w.heap.size i (v.map (Value.int .i64))).drew) cs1 a1
      refine fc_row2 (g := w.heap.size) (cs := cs2) (by rw [hlen, d2, a2, hsz]) (by omega) (by omega) d1 (fun q hq => ?_) (.inr (Nat.le_refl _)) (fun j hj _ => ?_) ?_ (by rw [e3]; exact b3) (by rw [e4]; exact b4) (by rw [e5]; exact b5)
      · rw [d3 q (by omega), insI_get l v _ hi]
        simp only [List.length_map, List.length_drop]
        by_cases c1 : q < i
        · rw [if_pos c1, if_neg (by omega), a3 q (by omega), if_neg (by simp; omega), ← hcs, Array.getD_eq_getD_getElem?, Array.getElem?_append_left (by rw [Array.size_append, zeros_size]; simp; omega), Array.getElem?_append_left (by simp; omega)]
          simp only [List.getElem?_toArray]
          rw [List.getElem?_take, if_pos c1, ← List.getD_eq_getElem?_getD, enc_get l _ (by omega)]
        · rw [if_neg c1]
          by_cases c2 : q < i + v.length
          · rw [if_pos c2, if_neg (by omega), a3 q (by omega), if_pos (by simp; omega), enc_get v _ (by omega)]
          · rw [if_neg c2, if_pos (by omega), List.getD_eq_getElem?_getD, List.getElem?_drop, ← List.getD_eq_getElem?_getD, enc_get l _ (by omega)]
            congr 2; omega
      · rw [e1 j (by omega)]
        show ((w.alloc _).drew.setCells _ _ _).heap[j]? = _
        rw [b1 j (by omega)]
        show (w.heap.push _)[j]? = _
        rw [Array.getElem?_push, if_neg (by omega)]
      · rw [e2]
        show _ ≤ ((w.alloc _).drew.setCells _ _ _).heap.size
        rw [b2]
        show _ ≤ (w.heap.push _).size
        simp
def pInsert (_ : Nat) : List Int × (Int × (List Int × Unit)) → Option ((Unit × (Unit × Unit)) × List Int) := fun x => bif decide ((0 : Int) ≤ x.2.1 ∧ Int.toNat x.2.1 ≤ x.1.length ∧ 0 < x.2.2.1.length ∧ (x.1.length + x.2.2.1.length) * 8 ≤ 140737488355328) then some (((), (), ()), insI x.1 (Int.toNat x.2.1) x.2.2.1) else none
def eInsert (fu : Nat) : Ent := ⟨67, .cons (.own .own 3 (.int .i64)) (.cons (.hole (.int .i64)) (.cons (.own .own 3 (.int .i64)) .nil)), .cons .dead (.cons .dead .nil), .own .own 3 (.int .i64), pInsert fu⟩
theorem gInsert (fu : Nat) : (eInsert fu).Good Try.prog := by
  rintro ⟨(l : List Int), (n : Int), (v : List Int), ⟨⟩⟩ ⟨⟨⟩, ⟨⟩, ⟨⟩⟩ z hp
  have hp' : (bif decide ((0 : Int) ≤ n ∧ Int.toNat n ≤ List.length l ∧ 0 < List.length v ∧ (List.length l + List.length v) * 8 ≤ 140737488355328) then some (((), (), ()), insI l (Int.toNat n) v) else none) = some (((), (), ()), z) := hp
  have hp' := cond_some hp'
  obtain ⟨-, rfl⟩ := Prod.mk.inj (Option.some.inj hp'.2)
  have hc : (0 : Int) ≤ n ∧ Int.toNat n ≤ List.length l ∧ 0 < List.length v ∧ (List.length l + List.length v) * 8 ≤ 140737488355328 := of_decide_eq_true hp'.1
  obtain ⟨h0, h1, h2, h3⟩ := hc
  obtain ⟨i, rfl⟩ : ∃ i : Nat, n = (i : Int) := ⟨Int.toNat n, by have : (Int.toNat n : Int) = n := Int.toNat_of_nonneg h0; exact this.symm⟩
  exact fcInsert l v i (by simpa using h1) h2 h3
end Go.Proofs.Ytglholedidkbcaa
