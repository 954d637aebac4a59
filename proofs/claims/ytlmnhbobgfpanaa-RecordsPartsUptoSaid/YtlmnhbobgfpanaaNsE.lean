/-
  A map whose entries are rows of numbers, each one a row of its own: what a look-up and a store make of it; a loop over it.
-/
import Derived.Maps.OwnOps
import Derived.Maps.RangeWalk
import Derived.Test.YtlmnhbobgfpanaaChecked
import Derived.Test.YtlmnhbobgfpanaaDaL
namespace Go.Proofs.Ytlmnhbobgfpanaa
open Go.RowKit
section
abbrev KU : Tp := .int .u64
abbrev ns0 : Int × List Int := (0, [])
abbrev rowU (l : List Int) : List Value := l.map (Value.int .u64)
abbrev nsE : TypeId := 24
abbrev nsS : TypeId := 44
abbrev nsM : TypeId := 61
theorem nsUM : Try.prog.underlying nsM = some (.map nsE nsS) := Try.underlying61
theorem nsUS : Try.prog.underlying nsS = some (.slice nsE) := Try.underlying44
theorem nsUE : Try.prog.underlying nsE = some (.int .u64) := Try.underlying24
theorem nsZS : (Try.prog.info? nsS).map (fun i => i.zero) = some (some (.slice none 0 0)) := by kernel_rfl
def Grp (w : World) (base g : Nat) (m : List (Int × List Int)) : Prop :=
  ∃ es : Array MapEntry, w.heap[g]? = some (.map es es.size) ∧ es.size = m.length ∧ g < base ∧
    (∀ (i : Nat) (e : MapEntry), es[i]? = some e → e.key = .int .u64 (m.getD i ns0).1 ∧ e.born = i ∧ w.ownsRow base nsE 1 e.val (m.getD i ns0).2.length (rowU (m.getD i ns0).2)) ∧
    ∀ (i j : Nat) (a b : MapEntry), es[i]? = some a → es[j]? = some b → i ≠ j → a.val.ownBlock = none ∨ a.val.ownBlock ≠ b.val.ownBlock
section
variable {w w1 : World} {base g : Nat} {m : List (Int × List Int)}
theorem Grp.lt (h : Grp w base g m) : g < w.heap.size := by
  obtain ⟨es, h1, _⟩ := h
  exact (Array.getElem?_eq_some_iff.1 h1).1
theorem Grp.made (w : World) (base : Nat) (hb : w.heap.size < base) : Grp (w.alloc (.map #[] 0)) base w.heap.size [] :=
  ⟨#[], by show (w.heap.push _)[w.heap.size]? = _; simp, rfl, hb, fun i e h => by simp at h, fun i j a b h => by simp at h⟩
theorem Grp.kept {row : Option Nat} (h : Grp w base g m) (hg : w.grownBy w1 row) (hr : ∀ r, row = some r → r < base ∧ r ≠ g) : Grp w1 base g m := by
  have hl := h.lt
  obtain ⟨es, h1, h2, h3, h4, h5⟩ := h
  refine ⟨es, (hg.block g hl (fun e => (hr g e.symm).2 rfl)).trans h1, h2, h3, fun i e hi => ?_, h5⟩
  obtain ⟨q1, q2, q3⟩ := h4 i e hi
  refine ⟨q1, q2, q3.kept hg ?_⟩
  cases hb : e.val.ownBlock with
  | none => exact .inl rfl
  | some b =>
    refine .inr fun e1 => ?_
    have := (q3.lt b hb).1
    have := (hr b e1.symm).1
    omega
def Back (w : World) (base g : Nat) (m : List (Int × List Int)) (k : Int) (v : Value) : Prop :=
  ∀ w1 v' l', w.grownBy w1 v.ownBlock → w1.ownsRow base nsE 1 v' l'.length (rowU l') → (v'.ownBlock = v.ownBlock ∨ ∃ b, v'.ownBlock = some b ∧ w.heap.size ≤ b) →
    ∃ w2, (Instr.mapUpdate nsM (.map (some g)) (.int .u64 k) v').run Try.prog w1 = .ok () w2 ∧ Grp w2 base g (setM KU m k l') ∧ w1.grownBy w2 (some g)
theorem kuOk : kkOk (.int .u64) KU = true := by decide
theorem grp_set {es es' : Array MapEntry} {m' : List (Int × List Int)} (hb : w1.heap[g]? = some (.map es es.size)) (hgb : g < base)
    (hs : es'.size = m'.length)
    (h4 : ∀ (i : Nat) (e : MapEntry), es'[i]? = some e → e.key = .int .u64 (m'.getD i ns0).1 ∧ e.born = i ∧ w1.ownsRow base nsE 1 e.val (m'.getD i ns0).2.length (rowU (m'.getD i ns0).2))
    (h5 : ∀ (i j : Nat) (a b : MapEntry), es'[i]? = some a → es'[j]? = some b → i ≠ j → a.val.ownBlock = none ∨ a.val.ownBlock ≠ b.val.ownBlock) :
    Grp { w1 with heap := w1.heap.setIfInBounds g (.map es' es'.size) } base g m' ∧ w1.grownBy { w1 with heap := w1.heap.setIfInBounds g (.map es' es'.size) } (some g) := by
  have hset := MapKept.heap_set (o' := .map es' es'.size) hb
  have hg : w1.grownBy { w1 with heap := w1.heap.setIfInBounds g (.map es' es'.size) } (some g) := ⟨rfl, rfl, rfl, by simp, fun k _ hk => hset.2 k fun e => hk (by rw [e])⟩
  refine ⟨⟨es', hset.1, hs, hgb, fun i e hi => ?_, h5⟩, hg⟩
  obtain ⟨q1, q2, q3⟩ := h4 i e hi
  refine ⟨q1, q2, q3.kept hg ?_⟩
  cases hx : e.val.ownBlock with
  | none => exact .inl rfl
  | some b =>
    refine .inr fun e1 => ?_
    have := (q3.lt b hx).1
    cases e1
    omega
theorem grp_look (h : Grp w base g m) (k : Int) : ∃ v l, (∀ w', w'.heap[g]? = w.heap[g]? → (Instr.lookup nsM (.map (some g)) (.int .u64 k) false).run Try.prog w' = .ok v w') ∧ w.ownsRow base nsE 1 v l.length (rowU l) ∧ (lookM KU m k).getD [] = l ∧ Back w base g m k v := by
  have hl := h.lt
  obtain ⟨es, h1, h2, h3, h4, h5⟩ := h
  have hk : IsKk (.int .u64) (.int .u64 k) := by simp [IsKk, KK.desc, MapKept.IsKey]
  have ukey : Try.prog.underlying nsE = some (KK.int .u64).desc := nsUE
  obtain ⟨i0, hi0, hz0⟩ := Option.map_eq_some_iff.1 nsZS
  have hlen : ∀ {i : Nat} {e : MapEntry}, es[i]? = some e → i < m.length := fun he => by rw [← h2]; exact (Array.getElem?_eq_some_iff.1 he).1
  have key0 : ∀ (i : Nat) (e : MapEntry), es[i]? = some e → e.key = (fun i => Value.int .u64 (m.getD i ns0).1) i := fun i e he => (h4 i e he).1
  have kfind := mfind_is kuOk (α := List Int) k (fun i => Value.int .u64 (m.getD i ns0).1) m 0 (fun i p hp => by
    rw [Nat.zero_add, List.getD_eq_getElem?_getD, hp]; rfl)
  have kfind' : mfind (.int .u64 k) (fun i => Value.int .u64 (m.getD i ns0).1) es.toList.length 0 = if hasM KU m k = true then some (0 + idxM KU m k) else none := by
    rw [Array.length_toList, h2]; exact kfind
  rw [Nat.zero_add] at kfind'
  rcases findNow_is hk _ es.toList 0 (fun j e hj => by rw [Nat.zero_add]; exact key0 j e (by simpa using hj)) (fun j hj => by simp [IsKk, KK.desc, MapKept.IsKey]) with ⟨f1, f2⟩ | ⟨j, e0, f1, f2, f3, f4⟩
  · -- it is not there
    have hno : hasM KU m k = false := by
      rw [f1] at kfind'
      cases hh : hasM KU m k with
      | false => rfl
      | true => rw [hh] at kfind'; cases kfind'
    refine ⟨.slice none 0 0, [], ?_, World.ownsRow_nil _ _ _ _, by rw [(idxM_none hno).2]; rfl, fun w1 v' l' hg ho hloc => ?_⟩
    · intro w' hw'
      have hc := MapKept.run_checkKey (w := w') ukey hk es.isEmpty 9999
      have hf := MapKept.run_findKey (w := w') ukey f2
      simp only [Instr.lookup, Sem.run_bind, run_underlying nsUM, MapKept.run_getObj_map (hw'.trans h1), Result.andThen, hc, hf, run_zero hi0 hz0, Sem.run_pure]
      rfl
    · have hb1 : w1.heap[g]? = some (.map es es.size) := (hg.block g hl (fun e => by cases e)).trans h1
      have hc1 := MapKept.run_checkKey (w := w1) ukey hk false 9999
      have hf1 := MapKept.run_findKey (w := w1) ukey f2
      have hrun : (Instr.mapUpdate nsM (.map (some g)) (.int .u64 k) v').run Try.prog w1 = .ok () { w1 with heap := w1.heap.setIfInBounds g (.map (es.push { key := .int .u64 k, val := v', born := es.size }) (es.push { key := .int .u64 k, val := v', born := es.size }).size) } := by
        simp [Instr.mapUpdate, run_underlying nsUM, MapKept.run_getObj_map hb1, hc1, hf1, MapKept.run_setObj_map _ hb1, Result.andThen]
      refine ⟨_, hrun, grp_set hb1 h3 (by rw [setM_len, if_neg (by rw [hno]; simp)]; simp [h2]) (fun i e he => ?_) (fun i j a b ha hb hij => ?_)⟩
      · rw [setM_at (κ := KU) (α := List Int) ns0, if_neg (by rw [hno]; simp)]
        rcases push_at he with ⟨q1, q2⟩ | ⟨rfl, rfl⟩
        · rw [if_pos (hlen q2)]
          obtain ⟨r1, r2, r3⟩ := h4 i e q2
          refine ⟨r1, r2, r3.kept hg ?_⟩
          cases e.val.ownBlock with
          | none => exact .inl rfl
          | some b => exact .inr (fun e1 => by cases e1)
        · rw [if_neg (by omega), if_pos h2]
          exact ⟨rfl, rfl, ho⟩
      · have apart : ∀ (i : Nat) (e : MapEntry), es[i]? = some e → e.val.ownBlock = none ∨ (e.val.ownBlock ≠ v'.ownBlock) := fun i e he => by
          cases hx : e.val.ownBlock with
          | none => exact .inl rfl
          | some x =>
            have := ((h4 i e he).2.2.lt x hx).2
            rcases hloc with q | ⟨y, q, q'⟩
            · rw [q]; exact .inr (fun e1 => by cases e1)
            · rw [q]; exact .inr (fun e1 => by cases e1; omega)
        rcases push_at ha with ⟨q1, q2⟩ | ⟨rfl, rfl⟩
        · rcases push_at hb with ⟨r1, r2⟩ | ⟨rfl, rfl⟩
          · exact h5 i j a b q2 r2 hij
          · exact apart i a q2
        · rcases push_at hb with ⟨r1, r2⟩ | ⟨rfl, rfl⟩
          · show v'.ownBlock = none ∨ v'.ownBlock ≠ b.val.ownBlock
            cases hx : v'.ownBlock with
            | none => exact .inl rfl
            | some x =>
              rcases apart j b r2 with q | q
              · rw [q]; exact .inr (fun e1 => by cases e1)
              · rw [hx] at q; exact .inr (fun e1 => q e1.symm)
          · exact absurd rfl hij
  · -- it is there
    rw [Nat.zero_add] at f1 f4
    have hj : es[j]? = some e0 := by simpa using f2
    have hyes : hasM KU m k = true ∧ idxM KU m k = j := by
      rw [f1] at kfind'
      cases hh : hasM KU m k with
      | false => rw [hh] at kfind'; cases kfind'
      | true => rw [hh] at kfind'; cases kfind'; exact ⟨rfl, rfl⟩
    obtain ⟨hy, hji⟩ := hyes
    obtain ⟨r1, r2, r3⟩ := h4 j e0 hj
    refine ⟨e0.val, _, ?_, r3, by rw [lookM_some (κ := KU) (α := List Int) ns0 hy, hji]; rfl, fun w1 v' l' hg ho hloc => ?_⟩
    · intro w' hw'
      have hc := MapKept.run_checkKey (w := w') ukey hk es.isEmpty 9999
      have hf := MapKept.run_findKey (w := w') ukey f4
      simp only [Instr.lookup, Sem.run_bind, run_underlying nsUM, MapKept.run_getObj_map (hw'.trans h1), Result.andThen, hc, hf, Sem.run_pure]
      rfl
    · have hb1 : w1.heap[g]? = some (.map es es.size) := (hg.block g hl (fun e => by
        have := (r3.lt g e.symm).1
        omega)).trans h1
      have hc1 := MapKept.run_checkKey (w := w1) ukey hk false 9999
      have hf1 := MapKept.run_findKey (w := w1) ukey f4
      have hst := MapKept.run_keyThatStays (P := Try.prog) (w := w1) hk
      have hrun : (Instr.mapUpdate nsM (.map (some g)) (.int .u64 k) v').run Try.prog w1 = .ok () { w1 with heap := w1.heap.setIfInBounds g (.map (es.modify j fun e => { e with key := .int .u64 k, val := v' }) (es.modify j fun e => { e with key := .int .u64 k, val := v' }).size) } := by
        simp [Instr.mapUpdate, run_underlying nsUM, MapKept.run_getObj_map hb1, hc1, hf1, hj, f3, hst, MapKept.run_setObj_map _ hb1, Result.andThen]
      have apart : ∀ (i : Nat) (e : MapEntry), es[i]? = some e → i ≠ j → e.val.ownBlock = none ∨ (e.val.ownBlock ≠ v'.ownBlock) := fun i e he hij => by
        rcases hloc with q | ⟨y, q, q'⟩
        · rw [q]; exact h5 i j e e0 he hj hij
        · cases hx : e.val.ownBlock with
          | none => exact .inl rfl
          | some x =>
            have := ((h4 i e he).2.2.lt x hx).2
            rw [q]; exact .inr (fun e1 => by cases e1; omega)
      refine ⟨_, hrun, grp_set hb1 h3 (by rw [setM_len, if_pos hy]; simp [h2]) (fun i e he => ?_) (fun i i' a b ha hb hij => ?_)⟩
      · rw [setM_at (κ := KU) (α := List Int) ns0, if_pos hy, hji]
        obtain ⟨e1, q1, rfl⟩ := modify_at he
        by_cases hij : i = j
        · subst hij
          rw [hj] at q1; cases q1
          simp only [if_true]
          exact ⟨by rw [← f3]; exact r1, r2, ho⟩
        · simp only [if_neg hij]
          obtain ⟨s1, s2, s3⟩ := h4 i e1 q1
          exact ⟨s1, s2, s3.kept hg (h5 i j e1 e0 q1 hj hij)⟩
      · obtain ⟨a1, p1, rfl⟩ := modify_at ha
        obtain ⟨b1, p2, rfl⟩ := modify_at hb
        by_cases hi : i = j
        · by_cases hi' : i' = j
          · exact absurd (hi.trans hi'.symm) hij
          · simp only [if_pos hi, if_neg hi']
            cases hx : v'.ownBlock with
            | none => exact .inl rfl
            | some x =>
              rcases apart i' b1 p2 hi' with q | q
              · rw [q]; exact .inr (fun e1 => by cases e1)
              · rw [hx] at q; exact .inr (fun e1 => q e1.symm)
        · by_cases hi' : i' = j
          · simp only [if_neg hi, if_pos hi']
            exact apart i a1 p1 hi
          · simp only [if_neg hi, if_neg hi']
            exact h5 i i' a1 b1 p1 p2 hij

theorem own_set {e : TypeId} {b n c j : Nat} {xs : List Value} {u : Value} (h : w.ownsRow base e 1 (.slice (some ⟨b, 0, none⟩) n c) n xs) (_ : j < n) :
    (w.setCell ⟨b, j, none⟩ u).ownsRow base e 1 (.slice (some ⟨b, 0, none⟩) n c) n (xs.set j u) ∧ w.grownBy (w.setCell ⟨b, j, none⟩ u) (some b) := by
  obtain ⟨h1, h2⟩ := h
  refine ⟨⟨by rw [List.length_set]; exact h1, ?_⟩, rfl, rfl, rfl, by show _ ≤ (w.heap.modify b _).size; simp, fun k _ hk => Below.heap_setCell w _ u k (fun e => hk (by rw [e]))⟩
  rcases h2 with ⟨q, _⟩ | ⟨g', cap, cur, q1, q2, q3, q4, q5, q6, q7⟩
  · cases q
  · cases q1
    refine .inr ⟨b, c, cur.setIfInBounds j u, rfl, q2, ?_, q4, q5, by simpa using q6, ?_⟩
    · show (w.heap.modify b _)[b]? = _
      rw [Array.getElem?_modify, if_pos rfl, q3]
      rfl
    · rw [Array.toList_setIfInBounds, List.take_set, q7]
theorem own_cell {e : TypeId} {b n c j : Nat} {l : List Int} (h : w.ownsRow base e 1 (.slice (some ⟨b, 0, none⟩) n c) n (rowU l)) (hj : j < l.length) : w.cell? ⟨b, j, none⟩ = some (.int .u64 (l.getD j 0)) := by
  have := h.cells (g := b) rfl j (.int .u64 (l.getD j 0)) (by rw [List.getElem?_map, List.getD_eq_getElem?_getD, List.getElem?_eq_getElem hj]; rfl)
  rwa [Addr.add_lit, Nat.zero_add] at this
theorem own_frozen {e : TypeId} {b n c : Nat} {xs : List Value} (h : w.ownsRow base e 1 (.slice (some ⟨b, 0, none⟩) n c) n xs) (j : Nat) : w.frozen? ⟨b, j, none⟩ = false := by
  rcases h.2 with ⟨q, _⟩ | ⟨g', cap, cur, q1, q2, q3, _⟩
  · cases q
  · cases q1
    simp [World.frozen?, q3]
def minsL : List Int → List Int
  | [] => []
  | x :: l => (match minsL l with | [] => x | y :: _ => if y < x then y else x) :: minsL l
theorem minsL_len : ∀ l : List Int, (minsL l).length = l.length
  | [] => rfl
  | _ :: l => by simp [minsL, minsL_len l]
def stg (l : List Int) (t : Nat) : List Int := l.take t ++ minsL (l.drop t)
theorem stg_len (l : List Int) (t : Nat) : (stg l t).length = l.length := by
  unfold stg
  rw [List.length_append, minsL_len, List.length_take, List.length_drop]
  omega
theorem stg_zero (l : List Int) : stg l 0 = minsL l := by simp [stg]
theorem stg_start (l : List Int) : stg l (l.length - 1) = l := by
  unfold stg
  cases hl : l with
  | nil => rfl
  | cons a t =>
    rw [← hl]
    have h1 : (l.drop (l.length - 1)).length = 1 := by rw [List.length_drop, hl, List.length_cons]; omega
    obtain ⟨x, hx⟩ := List.length_eq_one_iff.1 h1
    have h2 : minsL (l.drop (l.length - 1)) = l.drop (l.length - 1) := by rw [hx]; rfl
    rw [h2, List.take_append_drop]
theorem stg_at (l : List Int) (j : Nat) (hj : j + 1 < l.length) : (stg l (j + 1)).getD j 0 = l.getD j 0 := by
  unfold stg
  rw [List.getD_eq_getElem?_getD, List.getElem?_append_left (by rw [List.length_take]; omega), List.getElem?_take, if_pos (by omega), ← List.getD_eq_getElem?_getD]
theorem stg_step (l : List Int) (j : Nat) (hj : j + 1 < l.length) : stg l j = (stg l (j + 1)).set j (if (stg l (j + 1)).getD (j + 1) 0 < (stg l (j + 1)).getD j 0 then (stg l (j + 1)).getD (j + 1) 0 else (stg l (j + 1)).getD j 0) := by
  rw [stg_at l j hj]
  unfold stg
  have hd : l.drop j = l.getD j 0 :: l.drop (j + 1) := by
    rw [List.drop_eq_getElem_cons (by omega), List.getD_eq_getElem?_getD, List.getElem?_eq_getElem (by omega)]
    rfl
  have ht : l.take (j + 1) = l.take j ++ [l.getD j 0] := by
    rw [List.take_add_one, List.getD_eq_getElem?_getD, List.getElem?_eq_getElem (by omega)]
    rfl
  have hm : (l.take (j + 1) ++ minsL (l.drop (j + 1))).getD (j + 1) 0 = (minsL (l.drop (j + 1))).getD 0 0 := by
    rw [List.getD_eq_getElem?_getD, List.getElem?_append_right (by rw [List.length_take]; omega), List.length_take, show j + 1 - min (j + 1) l.length = 0 by omega, ← List.getD_eq_getElem?_getD]
  rw [hm, hd, ht]
  simp only [minsL]
  cases hx : minsL (l.drop (j + 1)) with
  | nil =>
    have h1 := minsL_len (l.drop (j + 1))
    rw [hx, List.length_nil, List.length_drop] at h1
    omega
  | cons y t =>
    have hlen : (l.take j).length = j := by rw [List.length_take]; omega
    rw [List.append_assoc, List.set_append, if_neg (by omega), hlen, Nat.sub_self]
    rfl
def curOf (l0 : List (Int × List Int)) (seen : Array Nat) : List (Int × List Int) := l0.mapIdx fun i p => if seen.contains i = true then (p.1, minsL p.2) else p
theorem curOf_len (l0 : List (Int × List Int)) (seen : Array Nat) : (curOf l0 seen).length = l0.length := by simp [curOf]
theorem curOf_at {l0 : List (Int × List Int)} {seen : Array Nat} {i : Nat} (h : i < l0.length) : (curOf l0 seen).getD i ns0 = if seen.contains i = true then ((l0.getD i ns0).1, minsL (l0.getD i ns0).2) else l0.getD i ns0 := by
  unfold curOf
  rw [List.getD_eq_getElem?_getD, List.getElem?_mapIdx, List.getElem?_eq_getElem h, List.getD_eq_getElem?_getD, List.getElem?_eq_getElem h]
  rfl
theorem curOf_none (l0 : List (Int × List Int)) : curOf l0 #[] = l0 := by
  apply List.ext_getElem?
  intro i
  unfold curOf
  rw [List.getElem?_mapIdx]
  cases l0[i]? <;> simp
theorem curOf_all {l0 : List (Int × List Int)} {seen : Array Nat} (h : ∀ i, i < l0.length → seen.contains i = true) : curOf l0 seen = l0.map fun p => (p.1, minsL p.2) := by
  apply List.ext_getElem?
  intro i
  unfold curOf
  rw [List.getElem?_mapIdx, List.getElem?_map]
  cases hx : l0[i]? with
  | none => rfl
  | some p =>
    have : i < l0.length := (List.getElem?_eq_some_iff.1 hx).1
    simp only [Option.map_some, if_pos (h i this)]
def Rng (w : World) (base g r : Nat) (l0 : List (Int × List Int)) (seen : Array Nat) : Prop :=
  Grp w base g (curOf l0 seen) ∧ w.heap[r]? = some (.mapIter (some g) l0.length seen l0.length) ∧ ∀ i, seen.contains i = true → i < l0.length
theorem rng_made (h : Grp w base g m) : ∃ w', (Instr.range nsM (.map (some g))).run Try.prog w = .ok (.pointer (some ⟨w.heap.size, 0, none⟩)) w' ∧ Rng w' base g w.heap.size m #[] ∧ w.grownBy w' none ∧ w'.heap.size = w.heap.size + 1 := by
  have h' := h
  obtain ⟨es, h1, h2, h3, h4, h5⟩ := h
  refine ⟨_, run_range_map w nsM nsE nsS g es es.size nsUM h1, ⟨?_, ?_, by simp⟩, World.grownBy_alloc w _ none, by simp⟩
  · rw [curOf_none]
    exact h'.kept (World.grownBy_alloc w _ none) (by simp)
  · rw [← h2]
    exact (MapKept.heap_alloc w _).1
theorem rng_next {r : Nat} {l0 : List (Int × List Int)} {seen : Array Nat} (h : Rng w base g r l0 seen) (ty : TypeId) :
    ((Instr.next (.pointer (some ⟨r, 0, none⟩)) false ty).run Try.prog w = .ok (.tuple #[.bool false]) w ∧ Grp w base g (l0.map fun p => (p.1, minsL p.2))) ∨
    ∃ i key v w', i < l0.length ∧ (Instr.next (.pointer (some ⟨r, 0, none⟩)) false ty).run Try.prog w = .ok (.tuple #[.bool true, key, v]) w' ∧ w.grownBy w' (some r) ∧ w'.heap.size = w.heap.size ∧
      (Instr.entry (.pointer (some ⟨r, 0, none⟩))).run Try.prog w' = .ok (.tuple #[key, v]) w' ∧
      w'.ownsRow base nsE 1 v (l0.getD i ns0).2.length (rowU (l0.getD i ns0).2) ∧
      ∀ w2, w'.grownBy w2 v.ownBlock → w2.ownsRow base nsE 1 v (l0.getD i ns0).2.length (rowU (minsL (l0.getD i ns0).2)) → Rng w2 base g r l0 (seen.push i) ∧ w2.rangeLeft g r < w.rangeLeft g r := by
  obtain ⟨hG, hr, hsl⟩ := h
  have hlt := hG.lt
  obtain ⟨es, h1, h2, h3, h4, h5⟩ := hG
  rw [curOf_len] at h2
  have hne : r ≠ g := fun e => by rw [e, h1] at hr; cases hr
  have born : ∀ e ∈ es.toList, ∃ i, es[i]? = some e ∧ i < l0.length ∧ e.born = i := fun e he => by
    obtain ⟨i, hi⟩ := List.getElem?_of_mem he
    have hi' : es[i]? = some e := by simpa using hi
    exact ⟨i, hi', by rw [← h2]; exact (Array.getElem?_eq_some_iff.1 hi').1, (h4 i e hi').2.1⟩
  rcases run_next_at (P := Try.prog) w ty r g l0.length l0.length seen es es.size hr h1 (fun e he => by obtain ⟨i, _, q, q'⟩ := born e he; omega) (Nat.le_refl _) with ⟨h0, hrun⟩ | ⟨e, he, w1, hal, hrun⟩
  · refine .inl ⟨hrun, ?_⟩
    rw [← curOf_all (seen := seen) (fun i hi => ?_)]
    · exact ⟨es, h1, by rw [curOf_len]; exact h2, h3, h4, h5⟩
    · have hi' : i < es.size := by omega
      have := all_seen es seen h0 es[i] (by simp)
      rwa [(h4 i es[i] (by simp [hi'])).2.1] at this
  · obtain ⟨hem, hes⟩ := mem_left he
    obtain ⟨i, hi, hil, hb⟩ := born e hem
    rw [hb] at hes
    have hr1 : w1.heap[r]? = some (.mapIter (some g) l0.length seen l0.length) := by rcases hal with rfl | rfl <;> exact hr
    have hg1 : w1.heap[g]? = some (.map es es.size) := by rcases hal with rfl | rfl <;> exact h1
    have hset := MapKept.heap_set (o' := .mapIter (some g) l0.length (seen.push e.born) es.size) hr1
    obtain ⟨r1, r2, r3⟩ := h4 i e hi
    have hcur : (curOf l0 seen).getD i ns0 = l0.getD i ns0 := by rw [curOf_at hil, hes]; rfl
    rw [hcur] at r3
    have hgrow : w.grownBy (Go.ChangeMaps.setBlock w1 r (.mapIter (some g) l0.length (seen.push e.born) es.size)) (some r) := by
      rcases hal with rfl | rfl <;> exact ⟨rfl, rfl, rfl, by simp [Go.ChangeMaps.setBlock], fun k _ hk => hset.2 k (fun e1 => hk (by rw [e1]))⟩
    have rowne : ∀ {v : Value} {n : Nat} {xs : List Value}, w.ownsRow base nsE 1 v n xs → v.ownBlock = none ∨ v.ownBlock ≠ some r := fun {v n xs} q => by
      rcases q.2 with ⟨q, _⟩ | ⟨b, cap, cur, q, _, q', _⟩
      · rw [q]; exact .inl rfl
      · rw [q]
        refine .inr (fun e1 => ?_)
        cases e1
        rw [hr] at q'
        cases q'
    have hg2 : (Go.ChangeMaps.setBlock w1 r (.mapIter (some g) l0.length (seen.push e.born) es.size)).heap[g]? = some (.map es es.size) := (hset.2 g (fun e1 => hne e1.symm)).trans hg1
    have hr2 : (Go.ChangeMaps.setBlock w1 r (.mapIter (some g) l0.length (seen.push e.born) es.size)).heap[r]? = some (.mapIter (some g) l0.length (seen.push e.born) es.size) := hset.1
    have hnd : (es.toList.map (·.born)).Nodup := by
      have : es.toList.map (·.born) = List.range es.size := by
        apply List.ext_getElem?
        intro k
        rw [List.getElem?_map]
        by_cases hk : k < es.size
        · rw [List.getElem?_range hk, Array.getElem?_toList, Array.getElem?_eq_getElem hk]
          simp only [Option.map_some, (h4 k es[k] (by simp [hk])).2.1]
        · rw [List.getElem?_eq_none (by simpa using hk), List.getElem?_eq_none (by simpa using hk)]
          rfl
      rw [this]
      exact List.nodup_range
    refine .inr ⟨i, e.key, e.val, _, hil, hrun, hgrow, by rcases hal with rfl | rfl <;> simp [Go.ChangeMaps.setBlock], run_entry_at _ r g l0.length seen es es.size e hr2 hg2 hem hnd, r3.kept hgrow (rowne r3), fun w2 hw2 ho2 => ?_⟩
    have hg3 : w2.heap[g]? = some (.map es es.size) := (hw2.block g (Array.getElem?_eq_some_iff.1 hg2).1 (fun e1 => by
      have := (r3.lt g e1.symm).1
      omega)).trans hg2
    have hr3 : w2.heap[r]? = some (.mapIter (some g) l0.length (seen.push e.born) es.size) := (hw2.block r (Array.getElem?_eq_some_iff.1 hr2).1 (fun e1 => by
      rcases rowne r3 with q | q
      · rw [q] at e1; cases e1
      · exact q e1.symm)).trans hr2
    refine ⟨⟨⟨es, hg3, by rw [curOf_len]; exact h2, h3, fun i' e' hi' => ?_, h5⟩, by rw [← hb, ← h2]; rw [h2]; rw [hr3, h2], fun k hk => ?_⟩, ?_⟩
    · have hil' : i' < l0.length := by rw [← h2]; exact (Array.getElem?_eq_some_iff.1 hi').1
      obtain ⟨s1, s2, s3⟩ := h4 i' e' hi'
      rw [curOf_at hil', contains_push]
      by_cases hii : i' = i
      · subst hii
        rw [hi] at hi'; cases hi'
        rw [hcur] at s1
        simp only [beq_self_eq_true, Bool.or_true, if_true]
        exact ⟨s1, s2, by rw [minsL_len]; exact ho2⟩
      · rw [curOf_at hil'] at s1 s3
        have hbe : (i' == i) = false := by simp [hii]
        rw [hbe, Bool.or_false]
        exact ⟨s1, s2, (s3.kept hgrow (rowne s3)).kept hw2 (h5 i' i e' e hi' hi hii)⟩
    · rw [contains_push, Bool.or_eq_true] at hk
      rcases hk with hk | hk
      · exact hsl k hk
      · have : k = i := by simpa using hk
        omega
    · simp only [World.rangeLeft, hg3, hr3, h1, hr]
      exact left_shrinks es seen e he
end
end
section
section
variable {P : Program} {ops : Array Oper} {Q : Exit → Act → World → Prop}
theorem region_inv {id : Nat} {a : Act} {w : World} (hm : P.follows .mixedOrders = true) (hback : ∀ (i : Nat) (o : Oper), ops[i]? = some o → ∀ e ∈ o.after.toList, e.on < i)
    (I : Array Bool → Act → World → Prop) (h0 : I (Array.replicate ops.size false) a { w with drawn := w.drawn + 1 })
    (hstep : ∀ (L : Array Bool) (a : Act) (w : World) (i : Nat) (o : Oper), I L a w → L.size = ops.size → ops[i]? = some o → L.getD i false = false → (∀ e ∈ o.after.toList, Region.binds .any e = true → L.getD e.on false = true) → wpOp P ops Q i (fun a' w' => I (L.setIfInBounds i true) a' w') a w)
    (hend : ∀ L a w, I L a w → (∀ i, i < ops.size → L.getD i false = true) → Q .normal a w) : (Code.region id ops true).wp P Q a w := by
  have notready : ∀ (L : Array Bool), L.size = ops.size → Region.ready .any ops L = [] → ∀ i, i < ops.size → L.getD i false = true := by
    intro L hL hr i
    induction i using Nat.strongRecOn with
    | _ i ih =>
      intro hi
      have hlt : i < L.size := by omega
      cases hb : L.getD i true with
      | true => rw [Array.getD_eq_getD_getElem?, Array.getElem?_eq_getElem hlt] at hb ⊢; exact hb
      | false =>
        exfalso
        have : i ∈ Region.ready .any ops L := by
          unfold Region.ready
          refine List.mem_filter.2 ⟨List.mem_range.2 hi, ?_⟩
          have ho : ops[i]? = some ops[i] := Array.getElem?_eq_getElem hi
          simp only [hb, Bool.not_false, Bool.true_and, ho, Option.map_some, Option.getD_some]
          rw [← Array.all_toList, List.all_eq_true]
          intro e hemem
          have hlt := hback i _ ho e hemem
          rw [ih e.on hlt (by omega)]
          simp
        rw [hr] at this
        cases this
  have main : ∀ (fuel : Nat) (L : Array Bool) (a : Act) (w : World), L.size = ops.size → cnt L ops.size ≤ fuel → I L a w → wpAny P .any ops Q fuel L a w := by
    intro fuel
    induction fuel with
    | zero =>
      intro L a w hL hc h
      have hall := cnt_zero L ops.size (by omega)
      refine ⟨?_, hend L a w h fun i hi => ?_⟩
      · unfold Region.ready
        rw [List.filter_eq_nil_iff]
        intro i hi
        rw [hall i (List.mem_range.1 hi)]
        simp
      · have := hall i hi
        have hlt : i < L.size := by omega
        rw [Array.getD_eq_getD_getElem?, Array.getElem?_eq_getElem hlt] at this ⊢
        exact this
    | succ fuel ih =>
      intro L a w hL hc h
      refine ⟨fun hr => hend L a w h (notready L hL hr), fun i hi => ?_⟩
      unfold Region.ready at hi
      obtain ⟨hi1, hi2⟩ := List.mem_filter.1 hi
      have hlt : i < ops.size := List.mem_range.1 hi1
      have ho : ops[i]? = some ops[i] := Array.getElem?_eq_getElem hlt
      simp only [ho, Option.map_some, Option.getD_some, Bool.and_eq_true, Bool.not_eq_true'] at hi2
      obtain ⟨hi3, hi4⟩ := hi2
      have hlt' : i < L.size := by omega
      refine wpOp_mono (fun a' w' h' => ih (L.setIfInBounds i true) a' w' (by simpa using hL) ?_ h') (hstep L a w i _ h hL ho ?_ fun e he hb => ?_)
      · have := cnt_set L i hlt' hi3 ops.size
        rw [if_pos hlt] at this
        omega
      · rw [Array.getD_eq_getD_getElem?, Array.getElem?_eq_getElem hlt'] at hi3 ⊢
        exact hi3
      · rw [← Array.all_toList] at hi4
        have := List.all_eq_true.1 hi4 e he
        simpa [hb] using this
  refine wp_region_any hm (main ops.size _ a _ (by simp) ?_ h0)
  have : ∀ (k n : Nat), k ≤ n → cnt (Array.replicate n false) k ≤ k := fun k => by
    induction k with
    | zero => intro n _; exact Nat.le_refl _
    | succ k ih =>
      intro n hn
      simp only [cnt]
      have := ih n (by omega)
      split <;> omega
  exact this _ _ (Nat.le_refl _)
structure RegI (ops : Array Oper) (val : Nat → Value) (a0 : Act) (L : Array Bool) (a : Act) : Prop where
  size : a.tmps.size = a0.tmps.size
  df : a.defers = a0.defers
  old : ∀ t, (∀ (i : Nat) (o : Oper), ops[i]? = some o → o.dst = some t → L.getD i false = false) → a.tmps[t]? = a0.tmps[t]?
  new : ∀ (i : Nat) (o : Oper) (t : Nat), ops[i]? = some o → L.getD i false = true → o.dst = some t → a.tmps[t]? = some (val t)
theorem RegI.start {val : Nat → Value} {a0 : Act} {n : Nat} : RegI ops val a0 (Array.replicate n false) a0 :=
  ⟨rfl, rfl, fun _ _ => rfl, fun i o t _ h => by
    rw [Array.getD_eq_getD_getElem?, Array.getElem?_replicate] at h
    split at h <;> cases h⟩
theorem set_getD {L : Array Bool} {i j : Nat} (hi : i < L.size) : (L.setIfInBounds i true).getD j false = (L.getD j false || j == i) := by
  rw [Array.getD_eq_getD_getElem?, Array.getD_eq_getD_getElem?, Array.getElem?_setIfInBounds]
  by_cases h : i = j
  · subst h; simp [hi]
  · simp [h, Ne.symm h]
theorem RegI.put {val : Nat → Value} {a0 a : Act} {L : Array Bool} {i : Nat} {o : Oper} {v : Value} (h : RegI ops val a0 L a) (ho : ops[i]? = some o) (hL : L.size = ops.size)
    (hv : ∀ t, o.dst = some t → v = val t) (hd : ∀ t, o.dst = some t → t < a0.tmps.size) (hne : ∀ t, o.dst = some t → ∀ (j : Nat) (o' : Oper), ops[j]? = some o' → o'.dst = some t → j = i) : RegI ops val a0 (L.setIfInBounds i true) (a.put o.dst v) := by
  have hi : i < L.size := by rw [hL]; exact (Array.getElem?_eq_some_iff.1 ho).1
  cases hx : o.dst with
  | none =>
    refine ⟨h.size, h.df, fun t ht => h.old t fun j o' hj ho' => ?_, fun j o' t hj hl ho' => ?_⟩
    · have := ht j o' hj ho'
      rw [set_getD hi] at this
      exact (Bool.or_eq_false_iff.1 this).1
    · rw [set_getD hi, Bool.or_eq_true] at hl
      rcases hl with hl | hl
      · exact h.new j o' t hj hl ho'
      · have : j = i := by simpa using hl
        subst this
        rw [ho] at hj; cases hj
        rw [hx] at ho'; cases ho'
  | some d =>
    have hds : d < a.tmps.size := by rw [h.size]; exact hd d hx
    refine ⟨by show (a.tmps.setIfInBounds d v).size = _; simpa using h.size, h.df, fun t ht => ?_, fun j o' t hj hl ho' => ?_⟩
    · show (a.tmps.setIfInBounds d v)[t]? = _
      have : d ≠ t := fun e => by
        subst e
        have := ht i o ho hx
        rw [set_getD hi] at this
        simp at this
      rw [Array.getElem?_setIfInBounds, if_neg this]
      refine h.old t fun j o' hj ho' => ?_
      have := ht j o' hj ho'
      rw [set_getD hi] at this
      exact (Bool.or_eq_false_iff.1 this).1
    · show (a.tmps.setIfInBounds d v)[t]? = _
      rw [Array.getElem?_setIfInBounds]
      by_cases hdt : d = t
      · subst hdt
        rw [if_pos rfl, if_pos hds, hv d hx]
      · rw [if_neg hdt]
        rw [set_getD hi, Bool.or_eq_true] at hl
        rcases hl with hl | hl
        · exact h.new j o' t hj hl ho'
        · have : j = i := by simpa using hl
          subst this
          rw [ho] at hj; cases hj
          rw [hx] at ho'; cases ho'
          exact absurd rfl hdt
theorem RegI.val_mono {val val' : Nat → Value} {a0 a : Act} {L : Array Bool} (h : RegI ops val a0 L a) (hv : ∀ (i : Nat) (o : Oper) (t : Nat), ops[i]? = some o → L.getD i false = true → o.dst = some t → val' t = val t) : RegI ops val' a0 L a :=
  ⟨h.size, h.df, h.old, fun i o t ho hl hd => by rw [hv i o t ho hl hd]; exact h.new i o t ho hl hd⟩
def puts (a : Act) (val : Nat → Value) : List Nat → Act
  | [] => a
  | d :: l => puts (a.put (some d) (val d)) val l
theorem puts_at {val : Nat → Value} : ∀ (l : List Nat) (a : Act) (t : Nat), (puts a val l).tmps[t]? = if t ∈ l ∧ t < a.tmps.size then some (val t) else a.tmps[t]?
  | [], a, t => by simp [puts]
  | d :: l, a, t => by
    rw [puts, puts_at l _ t]
    have hs : (a.put (some d) (val d)).tmps.size = a.tmps.size := by show (a.tmps.setIfInBounds d _).size = _; simp
    have hg : (a.put (some d) (val d)).tmps[t]? = if d = t then (if d < a.tmps.size then some (val d) else none) else a.tmps[t]? := by
      show (a.tmps.setIfInBounds d _)[t]? = _
      rw [Array.getElem?_setIfInBounds]
    rw [hs, hg]
    by_cases h1 : t ∈ l ∧ t < a.tmps.size
    · rw [if_pos h1, if_pos ⟨List.mem_cons_of_mem _ h1.1, h1.2⟩]
    · rw [if_neg h1]
      by_cases h2 : d = t
      · subst h2
        by_cases h3 : d < a.tmps.size
        · simp [h3]
        · simp [h3]
      · rw [if_neg h2, if_neg]
        intro ⟨h3, h4⟩
        rcases List.mem_cons.1 h3 with h5 | h5
        · exact h2 h5.symm
        · exact h1 ⟨h5, h4⟩
theorem puts_df {val : Nat → Value} : ∀ (l : List Nat) (a : Act), (puts a val l).defers = a.defers
  | [], a => rfl
  | d :: l, a => by rw [puts, puts_df l]; rfl
theorem act_ext {a b : Act} (h1 : ∀ t : Nat, a.tmps[t]? = b.tmps[t]?) (h2 : a.defers = b.defers) : a = b := by
  cases a; cases b
  simp only at h1 h2
  rw [h2, Array.ext_getElem? h1]
theorem RegI.done {val : Nat → Value} {a0 a : Act} {L : Array Bool} {D : List Nat} (h : RegI ops val a0 L a) (hall : ∀ i, i < ops.size → L.getD i false = true) (hD : D = ops.toList.filterMap (·.dst)) (hs : ∀ t ∈ D, t < a0.tmps.size) : a = puts a0 val D := by
  refine act_ext (fun t => ?_) (h.df.trans (puts_df _ _).symm)
  rw [puts_at]
  by_cases ht : t ∈ D
  · rw [if_pos ⟨ht, hs t ht⟩]
    rw [hD, List.mem_filterMap] at ht
    obtain ⟨o, ho, hd⟩ := ht
    obtain ⟨i, hi⟩ := List.getElem?_of_mem ho
    have hi' : ops[i]? = some o := by simpa using hi
    exact h.new i o t hi' (hall i (Array.getElem?_eq_some_iff.1 hi').1) hd
  · rw [if_neg (fun e => ht e.1)]
    refine h.old t fun i o ho hd => absurd ?_ ht
    rw [hD, List.mem_filterMap]
    exact ⟨o, by simpa using Array.mem_of_getElem? ho, hd⟩
end
end
section
abbrev nsR : TypeId := 27
abbrev nsX : TypeId := 63
theorem nsIE : (Try.prog.info? nsE).map (fun i => (i.zero, i.size, i.bytes)) = some (some (.int .u64 0), 1, 8) := by kernel_rfl
def ns5_0 : Oper := { dst := some 19, op := Op.move (Operand.tmp 3), type := 57, pos := "records.go:125", after := #[], guard := none }
def ns5_1 : Oper := { dst := some 20, op := Op.nilCheck (Operand.tmp 19), type := 0, pos := "records.go:125", after := #[{ on := 0, ground := Ground.data }], guard := none }
def ns5_2 : Oper := { dst := some 21, op := Op.fieldAddr 63 (Operand.tmp 20) 2, type := 0, pos := "records.go:125", after := #[{ on := 1, ground := Ground.data }], guard := none }
def ns5_3 : Oper := { dst := some 22, op := Op.load 61 (Operand.tmp 21), type := 61, pos := "records.go:125", after := #[{ on := 2, ground := Ground.data }], guard := none }
def ns5_4 : Oper := { dst := some 23, op := Op.fieldAddr 27 (Operand.tmp 5) 3, type := 0, pos := "records.go:125", after := #[], guard := none }
def ns5_5 : Oper := { dst := some 24, op := Op.load 24 (Operand.tmp 23), type := 24, pos := "records.go:125", after := #[{ on := 4, ground := Ground.data }], guard := none }
def ns5_6 : Oper := { dst := some 25, op := Op.move (Operand.tmp 3), type := 57, pos := "records.go:125", after := #[], guard := none }
def ns5_7 : Oper := { dst := some 26, op := Op.nilCheck (Operand.tmp 25), type := 0, pos := "records.go:125", after := #[{ on := 6, ground := Ground.data }], guard := none }
def ns5_8 : Oper := { dst := some 27, op := Op.fieldAddr 63 (Operand.tmp 26) 2, type := 0, pos := "records.go:125", after := #[{ on := 7, ground := Ground.data }], guard := none }
def ns5_9 : Oper := { dst := some 28, op := Op.load 61 (Operand.tmp 27), type := 61, pos := "records.go:125", after := #[{ on := 8, ground := Ground.data }], guard := none }
def ns5_10 : Oper := { dst := some 29, op := Op.fieldAddr 27 (Operand.tmp 5) 3, type := 0, pos := "records.go:125", after := #[], guard := none }
def ns5_11 : Oper := { dst := some 30, op := Op.load 24 (Operand.tmp 29), type := 24, pos := "records.go:125", after := #[{ on := 10, ground := Ground.data }], guard := none }
def ns5_12 : Oper := { dst := some 31, op := Op.lookup 61 (Operand.tmp 28) (Operand.tmp 30) false, type := 44, pos := "records.go:125", after := #[{ on := 9, ground := Ground.data }, { on := 11, ground := Ground.data }], guard := none }
def ns5_13 : Oper := { dst := some 32, op := Op.fieldAddr 27 (Operand.tmp 5) 4, type := 0, pos := "records.go:125", after := #[], guard := none }
def ns5_14 : Oper := { dst := some 33, op := Op.load 24 (Operand.tmp 32), type := 24, pos := "records.go:125", after := #[{ on := 13, ground := Ground.data }], guard := none }
def ns5_15 : Oper := { dst := some 34, op := Op.buildSlice 44 1 #[(0, Operand.tmp 33)], type := 44, pos := "records.go:125", after := #[{ on := 14, ground := Ground.data }], guard := none }
def ns5_16 : Oper := { dst := some 35, op := Op.call { callee := Callee.builtin Builtin.append, args := #[Operand.tmp 31, Operand.tmp 34], argTypes := #[44, 44] }, type := 44, pos := "records.go:125", after := #[{ on := 12, ground := Ground.data }, { on := 15, ground := Ground.data }], guard := none }
def ns5_17 : Oper := { dst := none, op := Op.mapUpdate 61 (Operand.tmp 22) (Operand.tmp 24) (Operand.tmp 35), type := 0, pos := "records.go:125", after := #[{ on := 3, ground := Ground.data }, { on := 5, ground := Ground.data }, { on := 16, ground := Ground.data }, { on := 16, ground := Ground.chain }, { on := 0, ground := Ground.phase }, { on := 1, ground := Ground.phase }, { on := 2, ground := Ground.phase }, { on := 3, ground := Ground.phase }, { on := 4, ground := Ground.phase }, { on := 5, ground := Ground.phase }, { on := 6, ground := Ground.phase }, { on := 7, ground := Ground.phase }, { on := 8, ground := Ground.phase }, { on := 9, ground := Ground.phase }, { on := 10, ground := Ground.phase }, { on := 11, ground := Ground.phase }, { on := 12, ground := Ground.phase }, { on := 13, ground := Ground.phase }, { on := 14, ground := Ground.phase }, { on := 15, ground := Ground.phase }, { on := 16, ground := Ground.phase }], guard := none }
def ns5 : Array Oper := #[ns5_0, ns5_1, ns5_2, ns5_3, ns5_4, ns5_5, ns5_6, ns5_7, ns5_8, ns5_9, ns5_10, ns5_11, ns5_12, ns5_13, ns5_14, ns5_15, ns5_16, ns5_17]
theorem nsFa (b : Nat) (w : World) : (Instr.fieldAt nsX (.pointer (some ⟨b, 0, none⟩)) 2).run Try.prog w = .ok (.pointer (some ⟨b, 2, none⟩)) w := by kernel_rfl
theorem nsF3 (b : Nat) (w : World) : (Instr.fieldAt nsR (.pointer (some ⟨b, 0, none⟩)) 3).run Try.prog w = .ok (.pointer (some ⟨b, 3, none⟩)) w := by kernel_rfl
theorem nsF4 (b : Nat) (w : World) : (Instr.fieldAt nsR (.pointer (some ⟨b, 0, none⟩)) 4).run Try.prog w = .ok (.pointer (some ⟨b, 4, none⟩)) w := by kernel_rfl
theorem nsAM : aggT Try.prog nsM = some false := by kernel_rfl
theorem nsAE : aggT Try.prog nsE = some false := by kernel_rfl
theorem nsBs (x : Int) (w : World) : (Instr.buildSlice nsS 1 #[(0, .int .u64 x)]).run Try.prog w = .ok (.slice (some ⟨w.heap.size, 0, none⟩) 1 1) (w.alloc (.cells #[.int .u64 x] nsE)) := by kernel_rfl
def nsVal (bx xb g : Nat) (kp ks : Int) (v : Value) (H : Nat) (v' : Value) : Nat → Value
  | 19 => .pointer (some ⟨bx, 0, none⟩)
  | 20 => .pointer (some ⟨bx, 0, none⟩)
  | 21 => .pointer (some ⟨bx, 2, none⟩)
  | 22 => .map (some g)
  | 23 => .pointer (some ⟨xb, 3, none⟩)
  | 24 => .int .u64 kp
  | 25 => .pointer (some ⟨bx, 0, none⟩)
  | 26 => .pointer (some ⟨bx, 0, none⟩)
  | 27 => .pointer (some ⟨bx, 2, none⟩)
  | 28 => .map (some g)
  | 29 => .pointer (some ⟨xb, 3, none⟩)
  | 30 => .int .u64 kp
  | 31 => v
  | 32 => .pointer (some ⟨xb, 4, none⟩)
  | 33 => .int .u64 ks
  | 34 => .slice (some ⟨H, 0, none⟩) 1 1
  | _ => v'
theorem nsVal_v (bx xb g : Nat) (kp ks : Int) (v : Value) (H : Nat) (v' v'' : Value) (t : Nat) (ht : t < 35) (ht' : 19 ≤ t) : nsVal bx xb g kp ks v H v' t = nsVal bx xb g kp ks v H v'' t := by
  obtain ⟨j, rfl⟩ : ∃ j, t = 19 + j := ⟨t - 19, by omega⟩
  rcases j with _ | _ | _ | _ | _ | _ | _ | _ | _ | _ | _ | _ | _ | _ | _ | _ | j
  all_goals first | rfl | omega
def nsW (W1 W2 : World) (Ph3 : Value → World → Prop) (Ph4 : World → Prop) : Bool → Bool → Bool → Value → World → Prop
  | false, false, false, _, w => w = W1
  | true, false, false, _, w => w = W2
  | true, true, false, v', w => Ph3 v' w
  | true, true, true, _, w => Ph4 w
  | _, _, _, _, _ => False
section
variable {P : Program} {ops : Array Oper} {Q : Exit → Act → World → Prop} {w w' : World} {a : Act} {K : Act → World → Prop}
theorem wpOp_value {i : Nat} {o : Oper} {x : Value} (ho : ops[i]? = some o) (hg : o.guard = none) (hrun : (execOp a.eval o).run P w = .ok (.value x) w') (hK : K (a.put o.dst x) w') : wpOp P ops Q i K a w := by
  have hw : Region.wanted o (yielded ops a.tmps) = true := by simp [Region.wanted, hg]
  simp only [wpOp, ho, hw, if_true]
  refine .inl ?_
  unfold Oper.wp
  rw [hrun]
  exact hK
theorem wpOp_skip {i : Nat} {o : Oper} (ho : ops[i]? = some o) (hg : o.guard = none) (hrun : (execOp a.eval o).run P w = .ok .skip w') (hK : K (a.put o.dst undef) w') : wpOp P ops Q i K a w := by
  have hw : Region.wanted o (yielded ops a.tmps) = true := by simp [Region.wanted, hg]
  simp only [wpOp, ho, hw, if_true]
  refine .inl ?_
  unfold Oper.wp
  rw [hrun]
  exact hK
theorem eval_tmp {t : Nat} {x : Value} (h : a.tmps[t]? = some x) : a.eval (.tmp t) = x := by
  simp [Act.eval, Array.getD_eq_getD_getElem?, h]
end
theorem ns5_dst : ns5.toList.filterMap (·.dst) = List.range' 19 17 := by rfl
theorem ns5_back (i : Nat) (o : Oper) (ho : ns5[i]? = some o) (e : Edge) (he : e ∈ o.after.toList) : e.on < i := by
  have h : ns5.toList.zipIdx.all (fun p => p.1.after.toList.all fun e => decide (e.on < p.2)) = true := by rfl
  have hm : (o, i) ∈ ns5.toList.zipIdx := by
    rw [List.mem_zipIdx_iff_getElem?]
    simpa using ho
  have := List.all_eq_true.1 (List.all_eq_true.1 h _ hm) e he
  simpa using this
theorem ns5_at (i : Nat) (o : Oper) (t : Nat) (ho : ns5[i]? = some o) (hd : o.dst = some t) : t = 19 + i ∧ i < 17 := by
  have h : ns5.toList.zipIdx.all (fun p => match p.1.dst with | some t => decide (t = 19 + p.2 ∧ p.2 < 17) | none => true) = true := by rfl
  have hm : (o, i) ∈ ns5.toList.zipIdx := by
    rw [List.mem_zipIdx_iff_getElem?]
    simpa using ho
  have := List.all_eq_true.1 h _ hm
  simpa [hd] using this
theorem ns5_has (t : Nat) (ht : t < 17) : ∃ o, ns5[t]? = some o ∧ o.dst = some (19 + t) := by
  have h : (List.range 17).all (fun t => match ns5[t]? with | some o => decide (o.dst = some (19 + t)) | none => false) = true := by rfl
  have := List.all_eq_true.1 h t (List.mem_range.2 ht)
  cases hx : ns5[t]? with
  | none => rw [hx] at this; cases this
  | some o => rw [hx] at this; exact ⟨o, rfl, by simpa using this⟩
set_option maxRecDepth 100000 in
set_option maxHeartbeats 4000000 in
theorem ns_reg5 {Q : Exit → Act → World → Prop} (a0 : Act) (w : World) (base bx xb g : Nat) (kp ks : Int) (m : List (Int × List Int)) (cs : Array Value)
    (e3 : a0.tmps[3]? = some (.pointer (some ⟨bx, 0, none⟩))) (e5 : a0.tmps[5]? = some (.pointer (some ⟨xb, 0, none⟩))) (hs : 36 ≤ a0.tmps.size)
    (c2 : w.cell? ⟨bx, 2, none⟩ = some (.map (some g))) (c3 : w.cell? ⟨xb, 3, none⟩ = some (.int .u64 kp)) (c4 : w.cell? ⟨xb, 4, none⟩ = some (.int .u64 ks))
    (hx : w.heap[xb]? = some (.cells cs nsR (0, 0))) (hG : Grp w base g m) (hlen : ((lookM KU m kp).getD []).length ≤ 1048576) (hbx : bx < base) (_ : bx ≠ g) (hbs : base ≤ w.heap.size)
    (hQ : ∀ v v' w', Grp w' base g (setM KU m kp ((lookM KU m kp).getD [] ++ [ks])) → (∀ j, j < base → j ≠ g → w'.heap[j]? = w.heap[j]?) → w.heap.size ≤ w'.heap.size → w'.os = w.os → w'.tape = w.tape → w'.output = w.output →
      Q .normal (puts a0 (nsVal bx xb g kp ks v w.heap.size v') (List.range' 19 17)) w') : (Code.region 5 ns5 true).wp Try.prog Q a0 w := by
  have mixed : Try.prog.follows .mixedOrders = true := by kernel_rfl
  obtain ⟨i0, hi, hz0, hz1, hz2⟩ := info_parts nsIE
  obtain ⟨v, lv, hlook, hown, hat, hback⟩ := grp_look (w := { w with drawn := w.drawn + 1 }) (m := m) (base := base) (g := g) hG kp
  rw [hat] at hlen hQ
  obtain ⟨W1, hW1⟩ : ∃ W1 : World, W1 = { w with drawn := w.drawn + 1 } := ⟨_, rfl⟩
  rw [← hW1] at hlook hown hback
  have hh : W1.heap = w.heap := by rw [hW1]
  have hsz : W1.heap.size = w.heap.size := by rw [hh]
  replace c2 : W1.cell? ⟨bx, 2, none⟩ = some (.map (some g)) := by rw [hW1]; exact c2
  replace c3 : W1.cell? ⟨xb, 3, none⟩ = some (.int .u64 kp) := by rw [hW1]; exact c3
  replace c4 : W1.cell? ⟨xb, 4, none⟩ = some (.int .u64 ks) := by rw [hW1]; exact c4
  have hgl : g < W1.heap.size := by rw [hsz]; exact hG.lt
  have hgb : g < base := by obtain ⟨es, _, _, q, _⟩ := hG; exact q
  have hvne : ∀ {j : Nat}, j < base → v.ownBlock ≠ some j := fun hj e => by have := (hown.lt _ e).1; omega
  have hvx : v.ownBlock ≠ some xb := fun e => by
    rcases hown.2 with ⟨q, _⟩ | ⟨b, cap, cur, q, _, q', _⟩
    · rw [q] at e; cases e
    · rw [q] at e; cases e
      rw [hh, hx] at q'
      cases q'
  -- what is read is as it was, as long as nothing but v's row has turned
  let C : World → Prop := fun w' => w'.cell? ⟨bx, 2, none⟩ = some (.map (some g)) ∧ w'.cell? ⟨xb, 3, none⟩ = some (.int .u64 kp) ∧ w'.cell? ⟨xb, 4, none⟩ = some (.int .u64 ks) ∧ w'.heap[g]? = W1.heap[g]?
  have hC : ∀ w', W1.grownBy w' v.ownBlock → C w' := fun w' hg => ⟨hg.cell c2 (fun e => hvne hbx e.symm), hg.cell c3 (fun e => hvx e.symm), hg.cell c4 (fun e => hvx e.symm), hg.block g hgl (fun e => hvne hgb e.symm)⟩
  let W2 : World := W1.alloc (.cells #[.int .u64 ks] nsE)
  have g2 : W1.grownBy W2 v.ownBlock := World.grownBy_alloc _ _ _
  let Ph3 : Value → World → Prop := fun v' w' => W1.grownBy w' v.ownBlock ∧ w'.ownsRow base nsE 1 v' (lv ++ [ks]).length (rowU (lv ++ [ks])) ∧ (v'.ownBlock = v.ownBlock ∨ ∃ b, v'.ownBlock = some b ∧ W1.heap.size ≤ b)
  let Ph4 : World → Prop := fun w' => Grp w' base g (setM KU m kp (lv ++ [ks])) ∧ (∀ j, j < base → j ≠ g → w'.heap[j]? = w.heap[j]?) ∧ w.heap.size ≤ w'.heap.size ∧ w'.os = w.os ∧ w'.tape = w.tape ∧ w'.output = w.output
  have phC : ∀ {b15 b16 : Bool} {v' : Value} {w' : World}, nsW W1 W2 Ph3 Ph4 b15 b16 false v' w' → C w' := fun {b15 b16 v' w'} h => by
    cases b15 <;> cases b16
    · obtain rfl : w' = W1 := h
      exact hC _ (World.grownBy.refl _ _)
    · exact h.elim
    · obtain rfl : w' = W2 := h
      exact hC _ g2
    · exact hC _ h.1
  let V : Value → Nat → Value := nsVal bx xb g kp ks v w.heap.size
  refine region_inv mixed ns5_back (fun L a w' => ∃ v', RegI ns5 (V v') a0 L a ∧ nsW W1 W2 Ph3 Ph4 (L.getD 15 false) (L.getD 16 false) (L.getD 17 false) v' w' ∧ (L.getD 17 false = true → ∀ j, j < 18 → L.getD j false = true)) ?_ ?_ ?_
  · refine ⟨undef, RegI.start, hW1.symm, fun h => ?_⟩
    cases h
  · rintro L a w' i o ⟨v', hR, hP, hL17⟩ hLs ho hLi hdep
    have hi18 : i < 18 := (Array.getElem?_eq_some_iff.1 ho).1
    have b17 : L.getD 17 false = false := by
      cases hb : L.getD 17 false with
      | false => rfl
      | true => rw [hL17 hb i hi18] at hLi; cases hLi
    rw [b17] at hP
    obtain ⟨d2, d3, d4, dg⟩ := phC hP
    have hset : ∀ j, (L.setIfInBounds i true).getD j false = (L.getD j false || j == i) := fun j => set_getD (by rw [hLs]; exact hi18)
    have hval : ∀ t, t < 17 → L.getD t false = true → a.tmps[19 + t]? = some (V v' (19 + t)) := fun t ht hl => by
      obtain ⟨o', h1, h2⟩ := ns5_has t ht
      exact hR.new t o' _ h1 hl h2
    have hold : ∀ t, t < 19 → a.tmps[t]? = a0.tmps[t]? := fun t ht => hR.old t fun j o' hj hd => by
      have := (ns5_at j o' t hj hd).1
      omega
    have s3 := eval_tmp ((hold 3 (by omega)).trans e3)
    have s5 := eval_tmp ((hold 5 (by omega)).trans e5)
    have next : ∀ {x : Value}, i < 15 → x = V v' (19 + i) → ∃ v'', RegI ns5 (V v'') a0 (L.setIfInBounds i true) (a.put o.dst x) ∧ nsW W1 W2 Ph3 Ph4 ((L.setIfInBounds i true).getD 15 false) ((L.setIfInBounds i true).getD 16 false) ((L.setIfInBounds i true).getD 17 false) v'' w' ∧
        ((L.setIfInBounds i true).getD 17 false = true → ∀ j, j < 18 → (L.setIfInBounds i true).getD j false = true) := fun {x} hi15 hx => by
      refine ⟨v', hR.put ho hLs (fun t ht => ?_) (fun t ht => ?_) (fun t ht j o' hj hj' => ?_), ?_, ?_⟩
      · rw [(ns5_at i o t ho ht).1]; exact hx
      · obtain ⟨e, hi17⟩ := ns5_at i o t ho ht
        rw [e]
        exact Nat.lt_of_lt_of_le (by omega : 19 + i < 36) hs
      · have := ns5_at i o t ho ht; have := ns5_at j o' t hj hj'; omega
      · rw [hset, hset, hset, b17]
        have q15 : (15 == i) = false := by simp; omega
        have q16 : (16 == i) = false := by simp; omega
        have q17 : (17 == i) = false := by simp; omega
        rw [q15, q16, q17, Bool.or_false, Bool.or_false, Bool.or_false]
        exact hP
      · rw [hset, b17]
        have q17 : (17 == i) = false := by simp; omega
        rw [q17]
        intro h; cases h
    have ho' := ho
    have dep : ∀ n, (⟨n, .data⟩ : Edge) ∈ o.after.toList → n < 17 → a.eval (.tmp (19 + n)) = V v' (19 + n) := fun n hn hl => eval_tmp (hval n hl (hdep _ hn rfl))
    match i, ho with
    | 0, ho =>
      obtain rfl : o = ns5_0 := (Option.some.inj ho).symm
      exact wpOp_value (x := V v' 19) ho' rfl (by simp [execOp, ns5_0, s3, V, nsVal]) (next (by omega) rfl)
    | 1, ho =>
      obtain rfl : o = ns5_1 := (Option.some.inj ho).symm
      have q0 := dep 0 (by simp [ns5_1]) (by omega)
      exact wpOp_value (x := V v' 20) ho' rfl (by simp [execOp, ns5_1, q0, V, nsVal]) (next (by omega) rfl)
    | 2, ho =>
      obtain rfl : o = ns5_2 := (Option.some.inj ho).symm
      have q0 := dep 1 (by simp [ns5_2]) (by omega)
      exact wpOp_value (x := V v' 21) ho' rfl (by simp [execOp, ns5_2, q0, V, nsVal, nsFa, Result.andThen]) (next (by omega) rfl)
    | 3, ho =>
      obtain rfl : o = ns5_3 := (Option.some.inj ho).symm
      have q0 := dep 2 (by simp [ns5_3]) (by omega)
      exact wpOp_value (x := V v' 22) ho' rfl (by simp [execOp, ns5_3, q0, V, nsVal, Instr.loadAt, Instr.sureAddr, run_loadVar_one nsAM _ d2, Result.andThen]) (next (by omega) rfl)
    | 4, ho =>
      obtain rfl : o = ns5_4 := (Option.some.inj ho).symm
      exact wpOp_value (x := V v' 23) ho' rfl (by simp [execOp, ns5_4, s5, V, nsVal, nsF3, Result.andThen]) (next (by omega) rfl)
    | 5, ho =>
      obtain rfl : o = ns5_5 := (Option.some.inj ho).symm
      have q0 := dep 4 (by simp [ns5_5]) (by omega)
      exact wpOp_value (x := V v' 24) ho' rfl (by simp [execOp, ns5_5, q0, V, nsVal, Instr.loadAt, Instr.sureAddr, run_loadVar_one nsAE _ d3, Result.andThen]) (next (by omega) rfl)
    | 6, ho =>
      obtain rfl : o = ns5_6 := (Option.some.inj ho).symm
      exact wpOp_value (x := V v' 25) ho' rfl (by simp [execOp, ns5_6, s3, V, nsVal]) (next (by omega) rfl)
    | 7, ho =>
      obtain rfl : o = ns5_7 := (Option.some.inj ho).symm
      have q0 := dep 6 (by simp [ns5_7]) (by omega)
      exact wpOp_value (x := V v' 26) ho' rfl (by simp [execOp, ns5_7, q0, V, nsVal]) (next (by omega) rfl)
    | 8, ho =>
      obtain rfl : o = ns5_8 := (Option.some.inj ho).symm
      have q0 := dep 7 (by simp [ns5_8]) (by omega)
      exact wpOp_value (x := V v' 27) ho' rfl (by simp [execOp, ns5_8, q0, V, nsVal, nsFa, Result.andThen]) (next (by omega) rfl)
    | 9, ho =>
      obtain rfl : o = ns5_9 := (Option.some.inj ho).symm
      have q0 := dep 8 (by simp [ns5_9]) (by omega)
      exact wpOp_value (x := V v' 28) ho' rfl (by simp [execOp, ns5_9, q0, V, nsVal, Instr.loadAt, Instr.sureAddr, run_loadVar_one nsAM _ d2, Result.andThen]) (next (by omega) rfl)
    | 10, ho =>
      obtain rfl : o = ns5_10 := (Option.some.inj ho).symm
      exact wpOp_value (x := V v' 29) ho' rfl (by simp [execOp, ns5_10, s5, V, nsVal, nsF3, Result.andThen]) (next (by omega) rfl)
    | 11, ho =>
      obtain rfl : o = ns5_11 := (Option.some.inj ho).symm
      have q0 := dep 10 (by simp [ns5_11]) (by omega)
      exact wpOp_value (x := V v' 30) ho' rfl (by simp [execOp, ns5_11, q0, V, nsVal, Instr.loadAt, Instr.sureAddr, run_loadVar_one nsAE _ d3, Result.andThen]) (next (by omega) rfl)
    | 12, ho =>
      obtain rfl : o = ns5_12 := (Option.some.inj ho).symm
      have q0 := dep 9 (by simp [ns5_12]) (by omega)
      have q1 := dep 11 (by simp [ns5_12]) (by omega)
      exact wpOp_value (x := V v' 31) ho' rfl (by simp [execOp, ns5_12, q0, q1, V, nsVal, hlook w' dg, Result.andThen]) (next (by omega) rfl)
    | 13, ho =>
      obtain rfl : o = ns5_13 := (Option.some.inj ho).symm
      exact wpOp_value (x := V v' 32) ho' rfl (by simp [execOp, ns5_13, s5, V, nsVal, nsF4, Result.andThen]) (next (by omega) rfl)
    | 14, ho =>
      obtain rfl : o = ns5_14 := (Option.some.inj ho).symm
      have q0 := dep 13 (by simp [ns5_14]) (by omega)
      exact wpOp_value (x := V v' 33) ho' rfl (by simp [execOp, ns5_14, q0, V, nsVal, Instr.loadAt, Instr.sureAddr, run_loadVar_one nsAE _ d4, Result.andThen]) (next (by omega) rfl)
    | 15, ho =>
      obtain rfl : o = ns5_15 := (Option.some.inj ho).symm
      have q0 := dep 14 (by simp [ns5_15]) (by omega)
      rw [hLi] at hP
      cases hb : L.getD 16 false with
      | true => rw [hb] at hP; exact hP.elim
      | false =>
      rw [hb] at hP
      obtain rfl : w' = W1 := hP
      refine wpOp_value ho' rfl (w' := W2) (x := .slice (some ⟨w.heap.size, 0, none⟩) 1 1) (by simp [execOp, ns5_15, q0, V, nsVal, nsBs, Result.andThen, W2, hsz]) ⟨v', hR.put ho' hLs (fun t ht => ?_) (fun t ht => ?_) (fun t ht j o' hj hj' => ?_), ?_, ?_⟩
      · cases ht; rfl
      · cases ht; exact Nat.lt_of_lt_of_le (by decide : 34 < 36) hs
      · have := ns5_at _ _ t ho' ht; have := ns5_at j o' t hj hj'; omega
      · rw [hset, hset, hset, b17, hb, hLi]
        exact rfl
      · rw [hset, b17]
        intro h; cases h
    | 16, ho =>
      obtain rfl : o = ns5_16 := (Option.some.inj ho).symm
      have q0 := dep 12 (by simp [ns5_16]) (by omega)
      have q1 := dep 15 (by simp [ns5_16]) (by omega)
      have l15 := hdep ⟨15, .data⟩ (by simp [ns5_16]) rfl
      rw [hLi, l15] at hP
      obtain rfl : w' = W2 := hP
      obtain ⟨v2, w2, hr, h2, h3, -, h5⟩ := run_append_own_at (P := Try.prog) W2 base nsS ns5_16.type nsE i0 (.int .u64 0) 1 8 nsUS hi hz0 hz1 hz2 rfl (by decide) v lv.length (rowU lv) (hown.alloc _) ⟨w.heap.size, 0, none⟩ 1 1 [.int .u64 ks] rfl
        (by rw [← hsz]; exact cell_one_new _ _ _) (ints_oneCell .u64 [ks]) (by unfold maxLen; omega) (by omega) (by show base ≤ (W1.heap.push _).size; simp; omega)
      refine wpOp_value ho' rfl (w' := w2) (x := v2) (by simp only [execOp, ns5_16, resolve, invoke, builtin, Sem.run_bind, Sem.run_pure, Result.andThen_ok, List.map_toArray, List.map_cons, List.map_nil, q0, q1, V, nsVal]; exact hr ▸ rfl) ⟨v2, ?_, ?_, ?_⟩
      · refine RegI.put (hR.val_mono fun j o' t hj hl hd => ?_) ho' hLs (fun t ht => ?_) (fun t ht => ?_) (fun t ht j o' hj hj' => ?_)
        · have := ns5_at j o' t hj hd
          refine nsVal_v _ _ _ _ _ _ _ _ _ _ ?_ (by omega)
          have : j ≠ 16 := fun e => by rw [e, hLi] at hl; cases hl
          omega
        · cases ht; rfl
        · cases ht; exact Nat.lt_of_lt_of_le (by decide : 35 < 36) hs
        · have := ns5_at _ _ t ho' ht; have := ns5_at j o' t hj hj'; omega
      · rw [hset, hset, hset, b17, l15, hLi]
        refine ⟨g2.trans h3, by simpa using h2, ?_⟩
        rcases h5 with h5 | h5
        · exact .inl h5
        · exact .inr ⟨_, h5, by show _ ≤ (W1.heap.push _).size; simp⟩
      · rw [hset, b17]
        intro h; cases h
    | 17, ho =>
      obtain rfl : o = ns5_17 := (Option.some.inj ho).symm
      have q0 := dep 3 (by simp [ns5_17]) (by omega)
      have q1 := dep 5 (by simp [ns5_17]) (by omega)
      have q2 := dep 16 (by simp [ns5_17]) (by omega)
      have lall : ∀ j, j < 17 → L.getD j false = true := fun j hj => hdep ⟨j, .phase⟩ (by
        rcases j with _ | _ | _ | _ | _ | _ | _ | _ | _ | _ | _ | _ | _ | _ | _ | _ | _ | j
        all_goals first | (simp [ns5_17]; done) | omega) rfl
      rw [lall 15 (by omega), lall 16 (by omega)] at hP
      obtain ⟨p1, p2, p3⟩ : Ph3 v' w' := hP
      obtain ⟨w2, hrun, r1, r2⟩ := hback w' v' (lv ++ [ks]) p1 p2 p3
      refine wpOp_skip ho' rfl (w' := w2) (by simp [execOp, ns5_17, q0, q1, q2, V, nsVal, hrun, Result.andThen]) ⟨v', hR.put ho' hLs (fun t ht => ?_) (fun t ht => ?_) (fun t ht j o' hj hj' => ?_), ?_, ?_⟩
      · cases ht
      · cases ht
      · cases ht
      · rw [hset, hset, hset, lall 15 (by omega), lall 16 (by omega), b17]
        refine ⟨r1, fun j hj hjg => ?_, ?_, ?_, ?_, ?_⟩
        · have hj1 : j < W1.heap.size := by omega
          rw [r2.block j (Nat.lt_of_lt_of_le hj1 p1.size) (fun e => hjg (by cases e; rfl)), p1.block j hj1 (fun e => hvne hj e.symm), hh]
        · have := r2.size; have := p1.size; omega
        · rw [r2.os, p1.os, hW1]
        · rw [r2.tape, p1.tape, hW1]
        · rw [r2.output, p1.output, hW1]
      · intro _ j hj
        rw [hset]
        by_cases hj17 : j = 17
        · subst hj17; simp
        · rw [lall j (by omega)]; rfl
    | n + 18, ho => omega
  · rintro L a w' ⟨v', hR, hP, -⟩ hall
    have h15 := hall 15 (by decide)
    have h16 := hall 16 (by decide)
    have h17 := hall 17 (by decide)
    rw [h15, h16, h17] at hP
    obtain ⟨p1, p2, p3, p4, p5, p6⟩ : Ph4 w' := hP
    rw [hR.done hall ns5_dst.symm (fun t ht => by rw [List.mem_range'_1] at ht; omega)]
    exact hQ v v' w' p1 p2 p3 p4 p5 p6
end
section
theorem nsBuild (A : Option Addr) (n c g : Nat) (w : World) : (Instr.build nsX #[(0, .slice A n c), (2, .map (some g))]).run Try.prog w = .ok (.agg #[.slice A n c, .slice none 0 0, .map (some g)]) w := by kernel_rfl
section
variable {P : Program} (w : World) {ops : Array Oper} {rest : List Oper} {o : Oper} {a : Act} {Q : Exit → Act → World → Prop}
theorem ns_range (hg : o.guard = none) (x : Operand) (hop : o.op = .range nsM x) (base g : Nat) (m : List (Int × List Int)) (hx : a.eval x = .map (some g)) (h : Grp w base g m)
    (hK : ∀ w', Rng w' base g w.heap.size m #[] → w.grownBy w' none → w'.heap.size = w.heap.size + 1 → wpList Try.prog ops Q rest (a.put o.dst (.pointer (some ⟨w.heap.size, 0, none⟩))) w') : wpList Try.prog ops Q (o :: rest) a w := by
  refine wpList_plain hg fun K' hK' => ?_
  obtain ⟨w', hrun, h1, h2, h3⟩ := rng_made h
  unfold Oper.wp
  simp [execOp, hop, hx, hrun, Result.andThen]
  exact hK' _ _ (hK w' h1 h2 h3)
theorem ns_next (hg : o.guard = none) (x : Operand) (hop : o.op = .next x false) (base g r : Nat) (l0 : List (Int × List Int)) (seen : Array Nat) (hx : a.eval x = .pointer (some ⟨r, 0, none⟩)) (h : Rng w base g r l0 seen)
    (hDone : Grp w base g (l0.map fun p => (p.1, minsL p.2)) → wpList Try.prog ops Q rest (a.put o.dst (.tuple #[.bool false])) w)
    (hMore : ∀ (i : Nat) (lv : List Int) (key v : Value) (w' : World), i < l0.length → w.grownBy w' (some r) → w'.heap.size = w.heap.size → (Instr.entry (.pointer (some ⟨r, 0, none⟩))).run Try.prog w' = .ok (.tuple #[key, v]) w' →
      w'.ownsRow base nsE 1 v lv.length (rowU lv) →
      (∀ w2, w'.grownBy w2 v.ownBlock → w2.ownsRow base nsE 1 v lv.length (rowU (minsL lv)) → Rng w2 base g r l0 (seen.push i) ∧ w2.rangeLeft g r < w.rangeLeft g r) →
      wpList Try.prog ops Q rest (a.put o.dst (.tuple #[.bool true, key, v])) w') : wpList Try.prog ops Q (o :: rest) a w := by
  refine wpList_plain hg fun K' hK' => ?_
  unfold Oper.wp
  rcases rng_next h o.type with ⟨hrun, h1⟩ | ⟨i, key, v, w', hi, hrun, h1, h2, h3, h4, h5⟩
  · simp [execOp, hop, hx, hrun, Result.andThen]
    exact hK' _ _ (hDone h1)
  · simp [execOp, hop, hx, hrun, Result.andThen]
    exact hK' _ _ (hMore i _ key v w' hi h1 h2 h3 h4 h5)
end
def grpP (l : List (Int × Int)) : List (Int × List Int) := l.foldl (fun m x => setM KU m x.1 ((lookM KU m x.1).getD [] ++ [x.2])) []
theorem grpP_succ (l : List (Int × Int)) (k : Nat) (hk : k < l.length) : grpP (l.take (k + 1)) = setM KU (grpP (l.take k)) (l.getD k (0, 0)).1 ((lookM KU (grpP (l.take k)) (l.getD k (0, 0)).1).getD [] ++ [(l.getD k (0, 0)).2]) := by
  have : l.take (k + 1) = l.take k ++ [l.getD k (0, 0)] := by
    rw [List.take_add_one, List.getD_eq_getElem?_getD, List.getElem?_eq_getElem hk]
    rfl
  rw [this]
  unfold grpP
  rw [List.foldl_append]
  rfl
theorem ns_look_set (k : Int) (v : List Int) (k' : Int) : ∀ m : List (Int × List Int), lookM KU (setM KU m k v) k' = if k' = k then some v else lookM KU m k'
  | [] => by
    show cond ((k' : Int) == k) (some v) none = _
    by_cases h : k' = k
    · rw [if_pos h, show (k' == k) = true by simp [h]]; rfl
    · rw [if_neg h, show (k' == k) = false by simp [h]]; rfl
  | p :: m => by
    show lookM KU (cond ((k : Int) == p.1) ((p.1, v) :: m) (p :: setM KU m k v)) k' = _
    by_cases h : k = p.1
    · rw [show ((k : Int) == p.1) = true by simp [h]]
      show cond ((k' : Int) == p.1) (some v) (lookM KU m k') = if k' = k then some v else cond ((k' : Int) == p.1) (some p.2) (lookM KU m k')
      by_cases h' : k' = k
      · rw [if_pos h', show ((k' : Int) == p.1) = true by simp [h', h]]; rfl
      · rw [if_neg h', show ((k' : Int) == p.1) = false by simp [← h, h']]; rfl
    · rw [show ((k : Int) == p.1) = false by simp [h]]
      show cond ((k' : Int) == p.1) (some p.2) (lookM KU (setM KU m k v) k') = if k' = k then some v else cond ((k' : Int) == p.1) (some p.2) (lookM KU m k')
      rw [ns_look_set k v k' m]
      by_cases h' : k' = k
      · rw [if_pos h', if_pos h', show ((k' : Int) == p.1) = false by simp [h', h]]; rfl
      · rw [if_neg h']; rw [if_neg h']
theorem grpP_lens (l : List (Int × Int)) (k : Nat) (q : Int) (hk : k ≤ l.length) : ((lookM KU (grpP (l.take k)) q).getD []).length ≤ k := by
  induction k generalizing q with
  | zero => simp [grpP, lookM]
  | succ k ih =>
    rw [grpP_succ l k (by omega), ns_look_set]
    split
    · have := ih (l.getD k (0, 0)).1 (by omega)
      simp only [Option.getD_some, List.length_append, List.length_cons, List.length_nil]
      omega
    · have := ih q (by omega)
      omega
set_option maxHeartbeats 4000000 in
set_option maxRecDepth 100000 in
theorem ns_walk (A : Option Addr) (n c : Nat) (l : List (Int × Int)) (w : World) (hl : l.length = n) (hn : n ≤ 1048576)
    (hA : ∀ k, k < n → ∃ b off x s v1 v2 v3, A = some ⟨b, off, none⟩ ∧ b < w.heap.size ∧ w.cell? ⟨b, off + k * 5, none⟩ = some (.int .u64 x) ∧ w.cell? ⟨b, off + k * 5 + 1, none⟩ = some (.string s) ∧ w.cell? ⟨b, off + k * 5 + 2, none⟩ = some (.slice v1 v2 v3) ∧
      w.cell? ⟨b, off + k * 5 + 3, none⟩ = some (.int .u64 (l.getD k (0, 0)).1) ∧ w.cell? ⟨b, off + k * 5 + 4, none⟩ = some (.int .u64 (l.getD k (0, 0)).2)) :
    Calls Try.prog 30 #[.slice A n c] w fun e w' => e = .returned (.pointer (some ⟨w.heap.size + 1, 0, none⟩)) ∧ Below w.heap.size w w' ∧
      w'.heap[w.heap.size + 1]? = some (.cells #[.slice A n c, .slice none 0 0, .map (some w.heap.size)] nsX (0, 0)) ∧ Grp w' (w.heap.size + 2) w.heap.size ((grpP l).map fun p => (p.1, minsL p.2)) := by
  have hmm := @run_makeMap Try.prog
  have hbuild := nsBuild A n c
  obtain ⟨i0, hi, hz0, hz1, hz2⟩ := info_parts nsIE
  go_enter Try.func30, Try.ntmps30
  go_wp2
  go_loopw [15] (fun i wr => ∃ k : Nat, k ≤ n ∧ i = .int .i64 k ∧ Grp wr (w.heap.size + 2) w.heap.size (grpP (l.take k)) ∧ wr.heap[w.heap.size + 1]? = some (.cells #[.slice A n c, .slice none 0 0, .map (some w.heap.size)] nsX (0, 0)) ∧ Below w.heap.size w wr ∧ w.heap.size + 2 ≤ wr.heap.size)
    (fun i _ => n - (intOf i).toNat)
  case atStart =>
    refine ⟨0, Nat.zero_le _, rfl, (Grp.made w _ (by omega)).kept (World.grownBy_alloc _ _ none) (by simp), ?_, ((Below.refl _ _).alloc (Nat.le_refl _) _).alloc (by simp) _, by simp⟩
    have e := Array.getElem?_push_size (xs := w.heap.push (.map #[] 0)) (x := Obj.cells #[.slice A n c, .slice none 0 0, .map (some w.heap.size)] nsX (0, 0))
    rw [Array.size_push] at e
    exact e
  case round =>
    obtain ⟨k, hk, rfl, hG, hbox, hbl, hsz⟩ := hrel
    have c2 : wr.cell? ⟨w.heap.size + 1, 2, none⟩ = some (.map (some w.heap.size)) := by simp [World.cell?, hbox]
    have HB := (show Hid _ from hbox)
    clear hbox
    by_cases hkn : k < n
    · obtain ⟨b, off, x, s, v1, v2, v3, rfl, hb, d0, d1, d2, d3, d4⟩ := hA k hkn
      clear hA
      rw [← hbl.cell (by exact hb)] at d0 d1 d2 d3 d4
      obtain ⟨kp, hkp⟩ : ∃ kp, (l.getD k (0, 0)).1 = kp := ⟨_, rfl⟩
      obtain ⟨ks, hks⟩ : ∃ ks, (l.getD k (0, 0)).2 = ks := ⟨_, rfl⟩
      rw [hkp] at d3
      rw [hks] at d4
      go_wp2
      refine ns_reg5 _ _ (w.heap.size + 2) (w.heap.size + 1) wr.heap.size w.heap.size kp ks (grpP (l.take k)) #[.int .u64 x, .string s, .slice v1 v2 v3, .int .u64 kp, .int .u64 ks] rfl rfl (by simp) ?_ ?_ ?_ ?_ ?_ ?_ (by omega) (by omega) ?_ ?_
      · exact (World.cell?_of_block (Below.heap_alloc wr _ _ (by show w.heap.size + 1 < _; omega))).trans c2
      · simp
      · simp
      · show (wr.heap.push _)[wr.heap.size]? = _
        simp
      · exact hG.kept (World.grownBy_alloc _ _ none) (by simp)
      · exact Nat.le_trans (grpP_lens l k kp (by omega)) (by omega)
      · simp; omega
      · intro v v' w2 hG2 hkeep hsz2 hos ht hout
        have hsz3 : wr.heap.size + 1 ≤ w2.heap.size := by simpa using hsz2
        clear hsz2
        simp only [puts, List.range', nsVal, Act.put, List.setIfInBounds_toArray, List.set_cons_succ, List.set_cons_zero]
        go_wp2
        go_roundw
        case rel =>
          refine ⟨k + 1, by omega, by go_num, ?_, ?_, ?_, by omega⟩
          · rw [grpP_succ l k (by omega), hkp, hks]
            exact hG2
          · rw [hkeep _ (by omega) (by omega), Below.heap_alloc wr _ _ (by omega)]
            exact HB.out
          · refine ⟨hos.trans hbl.os, ht.trans hbl.tape, hout.trans hbl.output, by omega, fun j hj => ?_⟩
            rw [hkeep j (by omega) (by omega), Below.heap_alloc wr _ _ (by omega)]
            exact hbl.block j hj
        case measure => simp [intOf]; omega
    · clear hA
      have hkn' : k = n := by omega
      subst hkn'
      rw [List.take_of_length_le (by omega)] at hG
      go_wp2_with (first
        | (at_range; refine ns_range _ rfl _ rfl (w.heap.size + 2) w.heap.size _ rfl hG ?_; intro w0 hrg0 hg0 hs0)
        | go_in)
      go_frame
      have HB0 : Hid (w0.heap[w.heap.size + 1]? = some (.cells #[.slice A k c, .slice none 0 0, .map (some w.heap.size)] nsX (0, 0))) := (hg0.block _ (by omega) (by simp)).trans HB.out
      have hbl0 : Below w.heap.size w w0 := hbl.grown hg0 (by omega) (by simp)
      clear hg0 hs0 HB c2 hbl hG
      generalize wr.heap.size = r at *
      go_loopw [] (fun wr => ∃ seen, Rng wr (w.heap.size + 2) w.heap.size r (grpP l) seen ∧ Hid (wr.heap[w.heap.size + 1]? = some (.cells #[.slice A k c, .slice none 0 0, .map (some w.heap.size)] nsX (0, 0))) ∧ Below w.heap.size w wr)
        (fun wr => wr.rangeLeft w.heap.size r)
      case atStart => exact ⟨_, hrg0, HB0, hbl0⟩
      case round =>
        obtain ⟨seen, hR, hbox, hbl⟩ := hrel
        go_wp2_with (first
          | (at_next; refine ns_next _ rfl _ rfl (w.heap.size + 2) w.heap.size r (grpP l) seen rfl hR ?_ ?_)
          | go_in)
        · intro hGd
          go_wp2
          go_ret
          exact ⟨rfl, hbl, hbox.out, hGd⟩
        · intro i lv key v w1 hil hg1 hs1 hen hown hback
          obtain ⟨N, hN⟩ : ∃ N, lv.length = N := ⟨_, rfl⟩
          rw [hN] at hown hback
          obtain ⟨V, cv, rfl, hN63, hV⟩ : ∃ V cv, v = .slice V N cv ∧ N ≤ 9223372036854775807 ∧ (0 < N → ∃ b, V = some ⟨b, 0, none⟩ ∧ w.heap.size + 2 ≤ b) := by
            rcases hown.2 with ⟨q, q'⟩ | ⟨b, cap, cur, q, q1, q2, q3, q4, _⟩
            · exact ⟨none, 0, by rw [q']; exact q, by omega, fun h => by omega⟩
            · exact ⟨_, _, q, Nat.le_trans q3 q4, fun _ => ⟨b, rfl, q1⟩⟩
          have hrow0 : w1.ownsRow (w.heap.size + 2) nsE 1 (.slice V N cv) N (rowU (stg lv (((N : Int) - 2) + 1).toNat)) := by
            have : (((N : Int) - 2) + 1).toNat = lv.length - 1 := by omega
            rw [this, stg_start]
            exact hown
          have HG1 : Hid (wr.grownBy w1 (some r)) := hg1
          have hrl : Hid (r < wr.heap.size) := (Array.getElem?_eq_some_iff.1 hR.2.1).1
          have HI : Hid (∀ w2, w1.grownBy w2 (Value.slice V N cv).ownBlock → w2.ownsRow (w.heap.size + 2) nsE 1 (.slice V N cv) N (rowU (minsL lv)) → Rng w2 (w.heap.size + 2) w.heap.size r (grpP l) (seen.push i) ∧ w2.rangeLeft w.heap.size r < wr.rangeLeft w.heap.size r) := hback
          clear hg1 hs1 hback hown hR hrg0 HB0 hbl0
          go_wp2
          clear hen
          go_loopw [8] (fun iv w2 => ∃ j : Int, -2 ≤ j ∧ j ≤ (N : Int) - 2 ∧ iv = .int .i64 j ∧ Hid (w1.grownBy w2 (Value.slice V N cv).ownBlock) ∧ Hid (w2.ownsRow (w.heap.size + 2) nsE 1 (.slice V N cv) N (rowU (stg lv (j + 1).toNat))))
            (fun iv _ => ((intOf iv) + 2).toNat)
          case atStart => exact ⟨(N : Int) - 2, by omega, by omega, rfl, World.grownBy.refl _ _, hrow0⟩
          case round =>
            obtain ⟨j, hj1, hj2, rfl, hgr, how⟩ := hrel
            clear hrow0
            by_cases hj0 : 0 ≤ j
            · obtain ⟨b, rfl, hb2⟩ := hV (by omega)
              obtain ⟨jn, rfl⟩ : ∃ jn : Nat, j = jn := ⟨j.toNat, by omega⟩
              have hlen := stg_len lv (jn + 1)
              have how' := how.out
              rw [show ((jn : Int) + 1).toNat = jn + 1 by omega] at how'
              obtain ⟨x, hx⟩ : ∃ x, (stg lv (jn + 1)).getD jn 0 = x := ⟨_, rfl⟩
              obtain ⟨y, hy⟩ : ∃ y, (stg lv (jn + 1)).getD (jn + 1) 0 = y := ⟨_, rfl⟩
              have d0 := own_cell (j := jn) how' (by omega)
              have d1 := own_cell (j := jn + 1) how' (by omega)
              have d2 := own_frozen how' jn
              rw [hx] at d0
              rw [hy] at d1
              have HX : Hid _ := hx
              have HY : Hid _ := hy
              have HO : Hid _ := how'
              clear hx hy how'
              go_wp2
              go_region
              obtain ⟨t1, t2⟩ := own_set (u := .int .u64 (if y < x then y else x)) HO.out (j := jn) (by omega)
              have T1 := (show Hid _ from t1)
              have T2 := (show Hid _ from t2)
              clear t1 t2
              go_wp2
              go_roundw
              case rel =>
                refine ⟨(jn : Int) - 1, by omega, by omega, by go_num, ?_, ?_⟩
                · have q := hgr.out.trans T2.out
                  exact ⟨q.os, q.tape, q.output, q.size, q.block⟩
                have e1 : (((jn : Int) - 1) + 1).toNat = jn := by omega
                rw [e1, stg_step lv jn (by omega), HX.out, HY.out]
                have e2 : (rowU (stg lv (jn + 1))).set jn (.int .u64 (if y < x then y else x)) = rowU ((stg lv (jn + 1)).set jn (if y < x then y else x)) := (List.map_set ..).symm
                rw [← e2]
                exact T1.out
              case measure => simp [intOf]; omega
            · have e1 : (j + 1).toNat = 0 := by omega
              have how' := how.out
              rw [e1, stg_zero] at how'
              have hlo : Hid (∀ q, q < w.heap.size + 2 → some q ≠ (Value.slice V N cv).ownBlock) := fun q hq e => by have := (how'.lt q e.symm).1; omega
              obtain ⟨q1, q2⟩ := HI.out wr hgr.out how'
              have Q1 := (show Hid _ from q1)
              have Q2 := (show Hid _ from q2)
              clear q1 q2 how'
              go_wp2
              go_roundw
              case rel =>
                have g1 := HG1.out
                have g2 := hgr.out
                refine ⟨_, Q1.out, ?_, ?_⟩
                · refine (g2.block _ ?_ (hlo.out _ (by omega))).trans ((g1.block _ ?_ (fun e => by cases e; omega)).trans hbox.out)
                  · have := g1.size
                    have := hrl.out
                    omega
                  · have := hrl.out
                    omega
                · have hr' := hrl.out
                  have hs1 := g1.size
                  refine (hbl.grown g1 (by omega) (fun q e => by cases e; omega)).grown g2 (by omega) (fun q e => ?_)
                  rcases Nat.lt_or_ge q (w.heap.size + 2) with hq | hq
                  · exact absurd e.symm (hlo.out q hq)
                  · omega
              case measure => exact Q2.out
end
section
abbrev TRec : Tp := .pair (.int .u64) (.pair .str (.pair (.sl .any (.int .u8)) (.pair (.int .u64) (.int .u64))))
def grpM (l : List (den TRec)) : List (Int × List Int) := l.foldl (fun m x => setM (.int .u64) m x.2.2.2.1 ((lookM (.int .u64) m x.2.2.2.1).getD [] ++ [x.2.2.2.2])) []
def lowM (l : List (den TRec)) : List (Int × List Int) := (grpM l).map fun p => (p.1, minsL p.2)
def pNewSrc (_ : Nat) : List (den TRec) × Unit → Option (Unit × (List (den TRec) × (Unit × (List (Int × List Int) × Unit)))) := fun x => bif decide (x.1.length ≤ 1048576) then some ((), (x.1, (), lowM x.1, ())) else none
def eNewSrc (fu : Nat) : Ent := ⟨30, .cons (.hole (.sl .any TRec)) .nil, .nil, .box nsX 3 (.cons (.hole (.sl .any TRec)) (.cons .nils (.cons (.mown false (.int .u64) (.sl .any (.int .u64))) .nil))), pNewSrc fu⟩
def ksOf (x : den TRec) : Int × Int := (x.2.2.2.1, x.2.2.2.2)
theorem grpM_is (l : List (den TRec)) : grpM l = grpP (l.map ksOf) := by
  unfold grpM grpP
  rw [List.foldl_map]
  rfl
theorem ns_enters : Enters Try.prog 30 := ⟨_, Try.func30, by kernel_rfl, by kernel_rfl⟩
theorem ns_args {vs : Array Value} (h : vs.size = 1) : vs = #[vs.getD 0 undef] := by
  apply Array.ext
  · simpa using h
  · intro i hi1 hi2
    have hi : i = 0 := by omega
    subst hi
    simp [Array.getD_eq_getD_getElem?, hi1]
theorem ns_cells {ok : Sees} {w : World} {l : List (den TRec)} {A : Option Addr}
    (hf : ∀ i j, i < l.length → j < 5 → ∃ ad u, A = some ad ∧ Okw ok w .any ad.block (ad.off + (i * 5 + j)) ∧ w.cell? (ad.add (i * 5 + j)) = some u ∧ u.oneCell' = true ∧ (rowsT TRec l i j).rel ok w u) (k : Nat) (hk : k < l.length) :
    ∃ b off x s v1 v2 v3, A = some ⟨b, off, none⟩ ∧ b < w.heap.size ∧ w.cell? ⟨b, off + k * 5, none⟩ = some (.int .u64 x) ∧ w.cell? ⟨b, off + k * 5 + 1, none⟩ = some (.string s) ∧ w.cell? ⟨b, off + k * 5 + 2, none⟩ = some (.slice v1 v2 v3) ∧
      w.cell? ⟨b, off + k * 5 + 3, none⟩ = some (.int .u64 ((l.map ksOf).getD k (0, 0)).1) ∧ w.cell? ⟨b, off + k * 5 + 4, none⟩ = some (.int .u64 ((l.map ksOf).getD k (0, 0)).2) := by
  obtain ⟨ad, u, hA, -, hc, -, -⟩ := hf 0 0 (by omega) (by omega)
  have e0 := cell_addr hc
  have ea : ad = ⟨ad.block, ad.off, none⟩ := by
    rw [block_add, off_add] at e0
    exact e0
  have key : ∀ j, j < 5 → ∃ u, w.cell? ⟨ad.block, ad.off + k * 5 + j, none⟩ = some u ∧ (rowsT TRec l k j).rel ok w u := fun j hj => by
    obtain ⟨ad', u', hA', -, hc', -, hr'⟩ := hf k j hk hj
    rw [hA] at hA'
    cases hA'
    have e := cell_addr hc'
    rw [block_add, off_add] at e
    rw [e] at hc'
    exact ⟨u', by rw [Nat.add_assoc]; exact hc', hr'⟩
  have hm : (l.map ksOf).getD k (0, 0) = ksOf (l.getD k (dflt TRec)) := by
    rw [List.getD_eq_getElem?_getD, List.getElem?_map, List.getD_eq_getElem?_getD, List.getElem?_eq_getElem hk]
    rfl
  obtain ⟨u0, c0, r0⟩ := key 0 (by omega)
  obtain ⟨u1, c1, r1⟩ := key 1 (by omega)
  obtain ⟨u2, c2, r2⟩ := key 2 (by omega)
  obtain ⟨u3, c3, r3⟩ := key 3 (by omega)
  obtain ⟨u4, c4, r4⟩ := key 4 (by omega)
  obtain ⟨v1, v3, r2, -⟩ := r2
  have r0 : u0 = .int .u64 (l.getD k (dflt TRec)).1 := r0
  have r1 : u1 = .string (l.getD k (dflt TRec)).2.1 := r1
  have r3 : u3 = .int .u64 (l.getD k (dflt TRec)).2.2.2.1 := r3
  have r4 : u4 = .int .u64 (l.getD k (dflt TRec)).2.2.2.2 := r4
  subst r0 r1 r2 r3 r4
  rw [hm]
  exact ⟨_, _, _, _, _, _, _, by rw [hA, ea], World.block_lt_of_cell? w _ c0, c0, c1, c2, c3, c4⟩
set_option maxRecDepth 100000 in
theorem gNewSrc (fu : Nat) : (eNewSrc fu).Good Try.prog := by
  rintro ⟨(l : List (den TRec)), ⟨⟩⟩ y z hp
  by_cases hl : l.length ≤ 1048576
  case neg =>
    have : pNewSrc fu (l, ()) = none := by simp [pNewSrc, hl]
    rw [show (eNewSrc fu).p (l, ()) = none from this] at hp
    cases hp
  have hp' : pNewSrc fu (l, ()) = some ((), (l, (), lowM l, ())) := by simp [pNewSrc, hl]
  rw [show (eNewSrc fu).p (l, ()) = _ from hp'] at hp
  obtain ⟨rfl, rfl⟩ := Prod.mk.inj (Option.some.inj hp)
  clear hp hp'
  refine ⟨ns_enters, fun ok ρ w vs _ hgl h1 h2 h3 h4 h5 => ?_⟩
  obtain ⟨A, c, e0, hn, hf⟩ : (T.sl .any 5 l.length (rowsT TRec l)).rel (okb ok ρ (lol [])) w (vs.getD 0 undef) := h5 0 _ rfl
  rw [ns_args h4, e0]
  refine (ns_walk A l.length c (l.map ksOf) w (by simp) hl (ns_cells hf)).mono ?_
  rintro e' w' ⟨rfl, hbl, hbox, hG⟩
  rw [← grpM_is, show ((grpM l).map fun p => (p.1, minsL p.2)) = lowM l from rfl] at hG
  obtain ⟨es, m1, m2, m3, m4, m5⟩ := hG
  let o1 : Ob := (DOb.var nsX 3 (dl [DV.im (.sl .any TRec) l, .raw (.slice none 0 0), .mp 1])).toOb
  let o2 : Ob := (DOb.map false (.int .u64) (.sl .any (.int .u64)) (lowM l)).toOb
  let ρ' : Pl := fun k => if k = 0 then some (w.heap.size + 1) else if k = 1 then some w.heap.size else ρ k
  have hin : ∀ {k : Nat} {o : Ob}, lol [o1, o2] k = some o → (k = 0 ∧ o = o1) ∨ (k = 1 ∧ o = o2) := fun {k o} h => by
    rcases k with _ | _ | k
    · exact .inl ⟨rfl, (Option.some.inj h).symm⟩
    · exact .inr ⟨rfl, (Option.some.inj h).symm⟩
    · simp [lol] at h
  have hown : ∀ {g : Nat}, own ρ' (lol [o1, o2]) g → w.heap.size ≤ g ∧ g < w.heap.size + 2 := fun {g} ⟨id, o, a1, a2, a3⟩ => by
    rcases hin a1 with ⟨rfl, rfl⟩ | ⟨rfl, rfl⟩
    · have : some (w.heap.size + 1) = some g := a3
      cases this
      omega
    · have : some w.heap.size = some g := a3
      cases this
      omega
  have hlt1 : w.heap.size + 1 < w'.heap.size := (Array.getElem?_eq_some_iff.1 hbox).1
  have hmono : ∀ q g k, g < w.heap.size → okb ok ρ (lol []) q g k → look w' g k = look w g k ∧ okb (Env.b ⟨w, ρ, lol [], ok, nobody⟩) ρ' (lol [o1, o2]) q g k := fun _ g k hg hk =>
    ⟨look_of_block (hbl.block g hg), .inl hk.1, fun q => by have := (hown (own_of_ownc q)).1; omega⟩
  show ∃ ρ' x, Ending.returned (Value.pointer (some ⟨w.heap.size + 1, 0, none⟩)) = .returned x ∧ ([] : List Ob).length = ([] : List Ob).length ∧
    (V.ptr 0 0 0 0).rel (Env.b ⟨w, ρ, lol [], ok, nobody⟩) ρ' (lol [o1, o2]) w' x ∧
    (∀ k o, lol [o1, o2] k = some o → o.rel (Env.b ⟨w, ρ, lol [], ok, nobody⟩) ρ' (lol [o1, o2]) w' (ρ' k)) ∧
    (∀ k o g, lol [o1, o2] k = some o → o.live = true → ρ' k = some g → (w.heap.size ≤ g ∨ own ρ (lol []) g) ∧ g < w'.heap.size) ∧
    (∀ k k' o o' g, lol [o1, o2] k = some o → lol [o1, o2] k' = some o' → o.live = true → o'.live = true → ρ' k = some g → ρ' k' = some g → k = k') ∧
    Ext ρ (lol []) w ρ' (lol [o1, o2]) w' ∧ w.heap.size ≤ w'.heap.size ∧ w'.os = w.os ∧ w'.tape = w.tape ∧ w'.output = w.output
  refine ⟨ρ', _, rfl, rfl, ?_, fun k o hk => ?_, fun k o g hk hl' hg => ?_, fun k k' o o' g hk hk' _ _ hg hg' => ?_, ⟨fun g hg _ => ⟨hbl.block g hg, fun q => by have := (hown q).1; omega⟩, fun g k hg _ => ⟨look_of_block (hbl.block g hg), fun q => by have := (hown (own_of_ownc q)).1; omega⟩, fun id o hid => by simp [lol] at hid⟩, hbl.size, hbl.os, hbl.tape, hbl.output⟩
  · exact ⟨_, o1, rfl, rfl, Nat.le_refl _, fun _ _ => ⟨_, rfl, by simp⟩⟩
  · rcases hin hk with ⟨rfl, rfl⟩ | ⟨rfl, rfl⟩
    · refine ⟨_, _, rfl, hbox, rfl, fun j hj => ?_⟩
      rcases j with _ | _ | _ | j
      · exact ⟨rfl, T.rel_mono hmono (⟨A, c, rfl, hn, hf⟩ : (T.sl .any 5 l.length (rowsT TRec l)).rel (okb ok ρ (lol [])) w (.slice A l.length c))⟩
      · exact ⟨rfl, rfl⟩
      · exact ⟨rfl, _, o2, rfl, rfl, fun _ => rfl⟩
      · omega
    · refine ⟨_, es, rfl, ?_, m2, fun i e he => ?_⟩
      · rw [m1, m2]
      · obtain ⟨q1, q2, q3⟩ := m4 i e he
        refine ⟨q1, q2, ?_⟩
        show (T.sl .any 1 ((lowM l).getD i ns0).2.length (fun a b => cellT KU (((lowM l).getD i ns0).2.getD a 0) b)).rel _ w' e.val
        obtain ⟨_, r⟩ := q3
        rcases r with ⟨r1, r2⟩ | ⟨b, cap, cur, r1, r2, r3, r4, r5, r6, r7⟩
        · refine ⟨none, 0, by rw [r1, r2], by omega, fun a b ha _ => by omega⟩
        · refine ⟨_, cap, r1, r4, fun a j ha hj => ?_⟩
          obtain rfl : j = 0 := by omega
          have hc := own_cell (j := a) (r1 ▸ (m4 i e he).2.2) ha
          refine ⟨_, .int .u64 (((lowM l).getD i ns0).2.getD a 0), rfl, ⟨⟨.inr ⟨rfl, .inl (by show w.heap.size ≤ b; omega)⟩, fun q => ?_⟩, nofun⟩, ?_, rfl, rfl⟩
          · have : b < w.heap.size + 2 := (hown (own_of_ownc q)).2
            omega
          · rw [Addr.add_lit, Nat.zero_add, Nat.mul_one, Nat.add_zero]
            exact hc
  · rcases hin hk with ⟨rfl, rfl⟩ | ⟨rfl, rfl⟩
    · have : some (w.heap.size + 1) = some g := hg
      cases this
      exact ⟨.inl (by omega), hlt1⟩
    · have : some w.heap.size = some g := hg
      cases this
      exact ⟨.inl (Nat.le_refl _), by omega⟩
  · rcases hin hk with ⟨rfl, rfl⟩ | ⟨rfl, rfl⟩ <;> rcases hin hk' with ⟨rfl, rfl⟩ | ⟨rfl, rfl⟩
    · rfl
    · have a1 : some (w.heap.size + 1) = some g := hg
      have a2 : some w.heap.size = some g := hg'
      have := Option.some.inj (a1.trans a2.symm)
      omega
    · have a1 : some (w.heap.size + 1) = some g := hg'
      have a2 : some w.heap.size = some g := hg
      have := Option.some.inj (a1.trans a2.symm)
      omega
    · rfl
end
end Go.Proofs.Ytlmnhbobgfpanaa
