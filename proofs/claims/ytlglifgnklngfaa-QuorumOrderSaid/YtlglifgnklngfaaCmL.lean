/-
  slices.Sort of a row of numbers that is the caller's own, as an entry: the row holds what stood in it, in order.
-/
import Derived.Test.YtlglifgnklngfaaSh
import Derived.Test.YtlglifgnklngfaaDaL
namespace Go.Proofs.Ytlglifgnklngfaa
open Go.RowKit
section
open Go.RowKit Go.Sort

theorem lol_one' {o : Ob} {k : Nat} {o' : Ob} (h : lol [o] k = some o') : k = 0 ∧ o' = o := by
  cases k with
  | zero => exact ⟨rfl, (Option.some.inj h).symm⟩
  | succ k => simp [lol] at h
theorem so_args {vs : Array Value} (h : vs.size = 1) : vs = #[vs.getD 0 undef] := by
  apply Array.ext
  · simpa using h
  · intro i hi1 hi2
    obtain rfl : i = 0 := by simp at hi2; omega
    simp [Array.getD_eq_getD_getElem?, hi1]
theorem so_enters : Enters Try.prog 34 := ⟨_, Try.func34, by kernel_rfl, by kernel_rfl⟩
/-- In order. -/
def sortI (l : List Int) : List Int := l.mergeSort fun x y => decide (x ≤ y)
theorem sortI_len (l : List Int) : (sortI l).length = l.length := List.length_mergeSort l

theorem fcSort (e : TypeId) (l : List Int) (hlen : l.length < 4611686018427387904) :
    FC Try.prog 34 [.arr .own e 1 0 l.length (rowsT (.int .i64) l)] [.buf 0 0 0 l.length] ⟨[.arr .own e 1 0 (sortI l).length (rowsT (.int .i64) (sortI l))], [], .tup 0 (dl [] · |>.toV)⟩ := by
  refine ⟨so_enters, fun ok ρ w vs hgl h1 h2 h3 h4 h5 => ?_⟩
  obtain ⟨A, c, o, k0, k1, k2, -, k3⟩ := h5 0 _ rfl
  obtain ⟨-, rfl⟩ := lol_one' k2
  obtain ⟨_, _, _, _, _, ho, _, hp⟩ := k3 rfl
  clear k3
  cases ho
  have hold := h1 0 _ rfl
  rw [so_args h4, k0]
  rcases hp with ⟨p1, rfl, rfl, _⟩ | ⟨g, cs, p1, p2, p3, p4⟩
  · have hl : l.length = 0 := by omega
    obtain rfl := List.length_eq_zero_iff.1 hl
    have hs : sortI [] = [] := by simp [sortI]
    rw [hs]
    refine (AnyM.slices_Sort_int_none Try.sortA none 0 w).mono ?_
    rintro e' w' ⟨rfl, rfl⟩
    refine ⟨ρ, _, rfl, rfl, ⟨#[], rfl, rfl, fun j hj => by omega⟩, fun k o hk => ?_, fun k o g hk hl hg => ?_, fun k k' o o' g hk hk' _ _ _ _ => (lol_one' hk).1.trans (lol_one' hk').1.symm, Ext.refl, Nat.le_refl _, rfl, rfl, rfl⟩
    · obtain ⟨rfl, rfl⟩ := lol_one' hk
      exact .inl ⟨p1, rfl⟩
    · obtain ⟨rfl, rfl⟩ := lol_one' hk
      rw [p1] at hg; cases hg
  · have hA := p2 (.inr rfl)
    rw [Nat.zero_mul] at hA
    subst hA
    rcases hold with ⟨q1, _⟩ | ⟨g', cs', cap, q1, q2, q3, q4, q5, q6⟩
    · rw [p1] at q1; cases q1
    rw [p1] at q1; cases q1
    rw [p3] at q2; cases q2
    have hlt : g < w.heap.size := (Array.getElem?_eq_some_iff.1 p3).1
    have hcell : ∀ j, j < l.length → cs.getD j undef = .int .i64 (l.getD j 0) := fun j hj => by
      have := (q6 j 0 hj (by omega)).2
      rw [Nat.mul_one, Nat.add_zero] at this
      exact this
    have hcs : l.length ≤ cs.size := by
      have : cs.size = cap * 1 := q3
      have : l.length ≤ cap := q4
      omega
    have hH : Holds (Value.int .i64) w g 0 l.toArray := fun j hj => by
      have hj' : j < l.length := by simpa using hj
      refine ⟨?_, by simp [World.frozen?, p3]⟩
      rw [Nat.zero_add, cell_of_row w g j cs e (0, 0) p3, getD_some (by omega), hcell j hj']
      rw [List.getElem!_toArray, List.getElem!_eq_getElem?_getD, List.getD_eq_getElem?_getD]
      rfl
    refine (AnyM.slices_Sort_int Try.sortA g 0 c l w hH hlt hlen).mono ?_
    rintro e' w' ⟨rfl, n, os, rfl⟩
    have hsz : (l.mergeSort fun x y => decide (x ≤ y)).toArray.size = l.length := by simp [List.length_mergeSort]
    let cs' := putCells (Value.int .i64) 0 (l.mergeSort fun x y => decide (x ≤ y)).toArray cs
    have hcs' : cs'.size = cs.size := by simp [cs', putCells]
    have hat : (grow (putRow (Value.int .i64) (Sort.ahead w n) g 0 (l.mergeSort fun x y => decide (x ≤ y)).toArray) os).heap[g]? = some (.cells cs' e (0, 0)) := by
      rw [heap_grow_old _ _ (by show g < (Array.modify _ _ _).size; simpa using hlt)]
      show (w.heap.modify g _)[g]? = _
      rw [Array.getElem?_modify, if_pos rfl, p3]
      rfl
    have hne : ∀ j, j < w.heap.size → j ≠ g → (grow (putRow (Value.int .i64) (Sort.ahead w n) g 0 (l.mergeSort fun x y => decide (x ≤ y)).toArray) os).heap[j]? = w.heap[j]? := fun j hj hn => by
      rw [heap_grow_old _ _ (by show j < (Array.modify _ _ _).size; simpa using hj)]
      show (w.heap.modify g _)[j]? = _
      rw [Array.getElem?_modify, if_neg (Ne.symm hn)]
    have hbig : w.heap.size ≤ (grow (putRow (Value.int .i64) (Sort.ahead w n) g 0 (l.mergeSort fun x y => decide (x ≤ y)).toArray) os).heap.size := by
      rw [size_grow]
      show _ ≤ (Array.modify _ _ _).size + _
      simp [Sort.ahead]
    generalize hw' : grow (putRow (Value.int .i64) (Sort.ahead w n) g 0 (l.mergeSort fun x y => decide (x ≤ y)).toArray) os = w' at hat hne hbig ⊢
    have hos : w'.os = w.os ∧ w'.tape = w.tape ∧ w'.output = w.output := by rw [← hw']; exact ⟨rfl, rfl, rfl⟩
    have ownG : ∀ {f : Nat → Nat → T} {m : Nat}, own ρ (lol [.arr .own e 1 0 m f]) g := ⟨0, _, rfl, rfl, p1⟩
    have ownI : ∀ {f : Nat → Nat → T} {m j : Nat}, own ρ (lol [.arr .own e 1 0 m f]) j → j = g := fun ⟨id, o, a1, a2, a3⟩ => by
      obtain ⟨rfl, rfl⟩ := lol_one' a1
      rw [p1] at a3
      exact (Option.some.inj a3).symm
    have ext : Ext ρ (lol [.arr .own e 1 0 l.length (rowsT (.int .i64) l)]) w ρ (lol [.arr .own e 1 0 (sortI l).length (rowsT (.int .i64) (sortI l))]) w' := by
      refine ⟨fun j hj ho => ?_, fun j k hj ho => ?_, fun id o ho => ?_⟩
      · have hn : j ≠ g := fun e => ho (e ▸ ownG)
        exact ⟨hne j hj hn, fun k => hn (ownI k)⟩
      · have hn : j ≠ g := fun e => ho ⟨0, _, rfl, rfl, by rw [e]; exact p1, Nat.zero_le _⟩
        exact ⟨World.cell?_of_block (hne j hj hn), fun k => hn (ownI (own_of_ownc k))⟩
      · obtain ⟨rfl, rfl⟩ := lol_one' ho
        refine ⟨_, rfl, Nat.le_refl _, fun _ => ⟨rfl, ⟨rfl, rfl, by rw [sortI_len]; exact Nat.le_refl _⟩, fun g' cs1 e _ hg' hh => ?_⟩⟩
        rw [p1] at hg'
        cases hg'
        rw [p3] at hh
        cases hh
        exact ⟨cs', hat, hcs'⟩
    refine ⟨ρ, _, rfl, rfl, ⟨#[], rfl, rfl, fun j hj => by omega⟩, fun k o hk => ?_, fun k o g' hk hl hg => ?_, fun k k' o o' g hk hk' _ _ _ _ => (lol_one' hk).1.trans (lol_one' hk').1.symm, ext, hbig, hos.1, hos.2.1, hos.2.2⟩
    · obtain ⟨rfl, rfl⟩ := lol_one' hk
      refine .inr ⟨g, cs', cap, p1, hat, hcs'.trans q3, by rw [sortI_len]; exact q4, ⟨q5.1, nofun⟩, fun i j hi hj => ?_⟩
      obtain rfl : j = 0 := by omega
      rw [Nat.mul_one, Nat.add_zero]
      have hi' : i < l.length := by rw [← sortI_len]; exact hi
      have hv : cs'.getD i undef = .int .i64 ((sortI l).getD i 0) := by
        rw [Array.getD_eq_getD_getElem?]
        show ((putCells _ _ _ _)[i]?).getD undef = _
        rw [putCells, Array.getElem?_mapIdx, Array.getElem?_eq_getElem (by omega)]
        simp only [Option.map_some, Option.getD_some, Nat.zero_le, true_and, Nat.zero_add, Nat.sub_zero]
        rw [if_pos (by rw [hsz]; exact hi'), List.getElem!_toArray, List.getElem!_eq_getElem?_getD, List.getD_eq_getElem?_getD]
        rfl
      rw [hv]
      exact ⟨rfl, rfl⟩
    · obtain ⟨rfl, rfl⟩ := lol_one' hk
      rw [p1] at hg
      cases hg
      exact ⟨.inr ownG, Nat.lt_of_lt_of_le hlt hbig⟩
def pSort (_ : Nat) : List Int × Unit → Option ((List Int × Unit) × Unit) := fun x => bif decide (x.1.length < 4611686018427387904) then some ((sortI x.1, ()), ()) else none
def eSort (fu : Nat) : Ent := ⟨34, .cons (.own .own 3 (.int .i64)) .nil, .cons (.hole (.sl (.int .i64))) .nil, .tup 0 .nil, pSort fu⟩
theorem gSort (fu : Nat) : (eSort fu).Good Try.prog := by
  rintro ⟨l, ⟨⟩⟩ y z hp
  have hp' : (bif decide (l.length < 4611686018427387904) then some ((sortI l, ()), ()) else none) = some (y, z) := hp
  have hp' := cond_some hp'
  obtain ⟨rfl, rfl⟩ := Prod.mk.inj (Option.some.inj hp'.2)
  exact fcSort 3 l (by simpa using hp'.1)
end
section
open Go.RowKit Go.Sort Go.Shelf

theorem cm_enters : Enters Try.prog 35 := ⟨_, Try.func35, by kernel_rfl, by kernel_rfl⟩
theorem lol_two {o1 o2 : Ob} {k : Nat} {o' : Ob} (h : lol ([o1] ++ [o2]) k = some o') : (k = 0 ∧ o' = o1) ∨ (k = 1 ∧ o' = o2) := by
  rcases k with _ | _ | k
  · exact .inl ⟨rfl, (Option.some.inj h).symm⟩
  · exact .inr ⟨rfl, (Option.some.inj h).symm⟩
  · simp [lol] at h
/-- A row is given away; what comes back lies in its place. -/
theorem fc_row {ok : Nat → Nat → Prop} {ρ : Pl} {w w' : World} {e : TypeId} {l l' : List Int} {p : Option Nat} {x : Value} {A : Option Addr} {c : Nat}
    (hx : x = .slice A l'.length c) (hc : l'.length ≤ c)
    (hp : (p = none ∧ A = none ∧ c = 0 ∧ l'.length = 0) ∨ ∃ g cs cap, p = some g ∧ A = some ⟨g, 0, none⟩ ∧ w'.heap[g]? = some (.cells cs e (0, 0)) ∧ c = cs.size ∧ cs.size = cap ∧ l'.length ≤ cap ∧ cap ≤ maxLen ∧ ∀ i, i < l'.length → cs.getD i undef = .int .i64 (l'.getD i 0))
    (hpo : ∀ g, p = some g → ρ 0 = some g) (hlt : ∀ g, p = some g → g < w.heap.size)
    (hne : ∀ j, j < w.heap.size → ρ 0 ≠ some j → w'.heap[j]? = w.heap[j]?) (hz : w.heap.size ≤ w'.heap.size) (hos : w'.os = w.os) (ht : w'.tape = w.tape) (ho : w'.output = w.output) :
    ∃ ρ' y, Ending.returned x = .returned y ∧ ([Ob.gone 1] : List Ob).length = ([Ob.arr .own e 1 0 l.length (rowsT (.int .i64) l)] : List Ob).length ∧
      (V.buf 1 0 0 l'.length).rel (Env.b ⟨w, ρ, lol [.arr .own e 1 0 l.length (rowsT (.int .i64) l)], ok⟩) ρ' (lol ([.gone 1] ++ [.arr .own e 1 0 l'.length (rowsT (.int .i64) l')])) w' y ∧
      (∀ k o, lol ([.gone 1] ++ [.arr .own e 1 0 l'.length (rowsT (.int .i64) l')]) k = some o → o.rel (Env.b ⟨w, ρ, lol [.arr .own e 1 0 l.length (rowsT (.int .i64) l)], ok⟩) ρ' (lol ([.gone 1] ++ [.arr .own e 1 0 l'.length (rowsT (.int .i64) l')])) w' (ρ' k)) ∧
      (∀ k o g, lol ([.gone 1] ++ [.arr .own e 1 0 l'.length (rowsT (.int .i64) l')]) k = some o → o.live = true → ρ' k = some g → (w.heap.size ≤ g ∨ own ρ (lol [.arr .own e 1 0 l.length (rowsT (.int .i64) l)]) g) ∧ g < w'.heap.size) ∧
      (∀ k k' o o' g, lol ([.gone 1] ++ [.arr .own e 1 0 l'.length (rowsT (.int .i64) l')]) k = some o → lol ([.gone 1] ++ [.arr .own e 1 0 l'.length (rowsT (.int .i64) l')]) k' = some o' → o.live = true → o'.live = true → ρ' k = some g → ρ' k' = some g → k = k') ∧
      Ext ρ (lol [.arr .own e 1 0 l.length (rowsT (.int .i64) l)]) w ρ' (lol ([.gone 1] ++ [.arr .own e 1 0 l'.length (rowsT (.int .i64) l')])) w' ∧ w.heap.size ≤ w'.heap.size ∧ w'.os = w.os ∧ w'.tape = w.tape ∧ w'.output = w.output := by
  have ownI : ∀ {f : Nat → Nat → T} {m j : Nat}, own ρ (lol [.arr .own e 1 0 m f]) j → ρ 0 = some j := fun ⟨id, o, a1, a2, a3⟩ => by
    obtain ⟨rfl, rfl⟩ := lol_one' a1
    exact a3
  have ownG : ∀ {f : Nat → Nat → T} {m g : Nat}, ρ 0 = some g → own ρ (lol [.arr .own e 1 0 m f]) g := fun h => ⟨0, _, rfl, rfl, h⟩
  have own2 : ∀ {j : Nat}, own (fun k => if k = 1 then p else ρ k) (lol ([.gone 1] ++ [.arr .own e 1 0 l'.length (rowsT (.int .i64) l')])) j → p = some j := fun ⟨id, o, a1, a2, a3⟩ => by
    rcases lol_two a1 with ⟨rfl, rfl⟩ | ⟨rfl, rfl⟩
    · cases a2
    · exact a3
  refine ⟨fun k => if k = 1 then p else ρ k, x, rfl, rfl, ?_, fun k o hk => ?_, fun k o g hk hl hg => ?_, fun k k' o o' g hk hk' h1 h2 _ _ => ?_, ⟨fun j hj hno => ?_, fun j k hj hno => ?_, fun id o hid => ?_⟩, hz, hos, ht, ho⟩
  · refine ⟨A, c, _, hx, hc, rfl, Nat.le_refl _, fun _ => ⟨_, _, _, _, _, rfl, by omega, ?_⟩⟩
    rcases hp with ⟨p1, p2, p3, p4⟩ | ⟨g, cs, cap, p1, p2, p3, p4, p5, p6, p7, p8⟩
    · exact .inl ⟨p1, p2, p3, rfl⟩
    · exact .inr ⟨g, cs, p1, fun _ => by simp [p2], p3, by omega⟩
  · rcases lol_two hk with ⟨rfl, rfl⟩ | ⟨rfl, rfl⟩
    · trivial
    · rcases hp with ⟨p1, p2, p3, p4⟩ | ⟨g, cs, cap, p1, p2, p3, p4, p5, p6, p7, p8⟩
      · exact .inl ⟨p1, p4⟩
      · refine .inr ⟨g, cs, cap, p1, p3, by omega, p6, ⟨p7, nofun⟩, fun i j hi hj => ?_⟩
        obtain rfl : j = 0 := by omega
        rw [Nat.mul_one, Nat.add_zero, p8 i hi]
        exact ⟨rfl, rfl⟩
  · rcases lol_two hk with ⟨rfl, rfl⟩ | ⟨rfl, rfl⟩
    · cases hl
    · exact ⟨.inr (ownG (hpo g hg)), Nat.lt_of_lt_of_le (hlt g hg) hz⟩
  · rcases lol_two hk with ⟨rfl, rfl⟩ | ⟨rfl, rfl⟩
    · cases h1
    · rcases lol_two hk' with ⟨rfl, rfl⟩ | ⟨rfl, rfl⟩
      · cases h2
      · rfl
  · exact ⟨hne j hj fun hq => hno (ownG hq), fun k => hno (ownG (hpo j (own2 k)))⟩
  · have hq : ρ 0 ≠ some j := fun hq => hno ⟨0, _, rfl, rfl, hq, Nat.zero_le _⟩
    exact ⟨World.cell?_of_block (hne j hj hq), fun k => hq (hpo j (own2 (own_of_ownc k)))⟩
  · obtain ⟨rfl, rfl⟩ := lol_one' hid
    exact ⟨.gone 1, rfl, Nat.zero_le _, fun hv => by cases hv⟩

theorem fcCompact (e : TypeId) (l : List Int) (hlen : l.length ≤ 9223372036854775807) :
    FC Try.prog 35 [.arr .own e 1 0 l.length (rowsT (.int .i64) l)] [.buf 0 0 0 l.length] ⟨[.gone 1], [.arr .own e 1 0 (Lib.compact l).length (rowsT (.int .i64) (Lib.compact l))], .buf 1 0 0 (Lib.compact l).length⟩ := by
  refine ⟨cm_enters, fun ok ρ w vs hgl h1 h2 h3 h4 h5 => ?_⟩
  obtain ⟨A, c, o, k0, k1, k2, -, k3⟩ := h5 0 _ rfl
  obtain ⟨-, rfl⟩ := lol_one' k2
  obtain ⟨_, _, _, _, _, ho, _, hp⟩ := k3 rfl
  clear k3
  cases ho
  have hold := h1 0 _ rfl
  have hcl : (Lib.compact l).length ≤ l.length := by
    unfold Lib.compact Lib.compactUpTo
    rw [List.length_map]
    exact Nat.le_trans (List.length_filter_le _ _) (by simp)
  rw [so_args h4, k0]
  rcases hp with ⟨p1, rfl, rfl, _⟩ | ⟨g, cs, p1, p2, p3, p4⟩
  · have hl : l.length = 0 := by omega
    rw [show (#[Value.slice none l.length 0] : Array Value) = #[.slice none 0 0] by rw [hl]]
    refine (Any.slices_Compact_int_empty Try.compactA none 0 w).mono ?_
    rintro e' w' ⟨rfl, rfl⟩
    exact fc_row (p := none) (A := none) (c := 0) (by rw [show (Lib.compact l).length = 0 by omega]) (by omega) (.inl ⟨rfl, rfl, rfl, by omega⟩) (fun _ h => by cases h) (fun _ h => by cases h) (fun _ _ _ => rfl) (Nat.le_refl _) rfl rfl rfl
  · have hA := p2 (.inr rfl)
    rw [Nat.zero_mul] at hA
    subst hA
    rcases hold with ⟨q1, _⟩ | ⟨g', cs', cap, q1, q2, q3, q4, q5, q6⟩
    · rw [p1] at q1; cases q1
    rw [p1] at q1; cases q1
    rw [p3] at q2; cases q2
    have hlt : g < w.heap.size := (Array.getElem?_eq_some_iff.1 p3).1
    have hcell : ∀ j, j < l.length → cs.getD j undef = .int .i64 (l.getD j 0) := fun j hj => by
      have := (q6 j 0 hj (by omega)).2
      rw [Nat.mul_one, Nat.add_zero] at this
      exact this
    have hcs : l.length ≤ cs.size := by
      have : cs.size = cap * 1 := q3
      have : l.length ≤ cap := q4
      omega
    have hH : Holds (Value.int .i64) w g 0 l.toArray := fun j hj => by
      have hj' : j < l.length := by simpa using hj
      refine ⟨?_, by simp [World.frozen?, p3]⟩
      rw [Nat.zero_add, cell_of_row w g j cs e (0, 0) p3, getD_some (by omega), hcell j hj']
      rw [List.getElem!_toArray, List.getElem!_eq_getElem?_getD, List.getD_eq_getElem?_getD]
      rfl
    refine (Any.slices_Compact_int Try.compactA g 0 c l w hH hlen k1).mono ?_
    rintro e' w' ⟨rfl, n, rfl⟩
    generalize hd : (Lib.compact l ++ List.replicate (l.length - (Lib.compact l).length) 0 : List Int) = d
    have hdl : d.length = l.length := by rw [← hd]; simp; omega
    have hdg : ∀ i, i < (Lib.compact l).length → d.getD i 0 = (Lib.compact l).getD i 0 := fun i hi => by
      rw [← hd, List.getD_eq_getElem?_getD, List.getElem?_append_left hi, ← List.getD_eq_getElem?_getD]
    let cs' := putCells (Value.int .i64) 0 d.toArray cs
    have hcs' : cs'.size = cs.size := by simp [cs', putCells]
    have hat : (putRow (Value.int .i64) (Sort.ahead w n) g 0 d.toArray).heap[g]? = some (.cells cs' e (0, 0)) := by
      show (w.heap.modify g _)[g]? = _
      rw [Array.getElem?_modify, if_pos rfl, p3]
      rfl
    refine fc_row (p := some g) (A := some ⟨g, 0, none⟩) (c := c) rfl (by omega) (.inr ⟨g, cs', cap, rfl, rfl, hat, by omega, by omega, by have : l.length ≤ cap := q4; omega, q5.1, fun i hi => ?_⟩) (fun _ h => by cases h; exact p1) (fun _ h => by cases h; exact hlt) (fun j hj hn => ?_) (by show _ ≤ (Array.modify _ _ _).size; simp [Sort.ahead]) rfl rfl rfl
    · rw [← hdg i hi, Array.getD_eq_getD_getElem?]
      show ((putCells _ _ _ _)[i]?).getD undef = _
      rw [putCells, Array.getElem?_mapIdx, Array.getElem?_eq_getElem (by omega)]
      simp only [Option.map_some, Option.getD_some, Nat.zero_le, true_and, Nat.zero_add, Nat.sub_zero]
      rw [if_pos (by simp; omega), List.getElem!_toArray, List.getElem!_eq_getElem?_getD, List.getD_eq_getElem?_getD]
      rfl
    · show (w.heap.modify g _)[j]? = _
      rw [Array.getElem?_modify, if_neg (fun e => hn (by rw [p1, e]))]
def pCompact (_ : Nat) : List Int × Unit → Option ((Unit × Unit) × List Int) := fun x => bif decide (x.1.length ≤ 9223372036854775807) then some (((), ()), Lib.compact x.1) else none
def eCompact (fu : Nat) : Ent := ⟨35, .cons (.own .own 3 (.int .i64)) .nil, .cons .dead .nil, .own .own 3 (.int .i64), pCompact fu⟩
theorem gCompact (fu : Nat) : (eCompact fu).Good Try.prog := by
  rintro ⟨l, ⟨⟩⟩ ⟨⟨⟩, ⟨⟩⟩ z hp
  have hp' : (bif decide (l.length ≤ 9223372036854775807) then some (((), ()), Lib.compact l) else none) = some (((), ()), z) := hp
  have hp' := cond_some hp'
  obtain ⟨-, rfl⟩ := Prod.mk.inj (Option.some.inj hp'.2)
  exact fcCompact 3 l (by simpa using hp'.1)
end
end Go.Proofs.Ytlglifgnklngfaa
