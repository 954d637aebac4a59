/-
  Arguments by their types: what came in, as trees.
-/
import Derived.Test.YtahamggipcikgaaTrW
import Derived.OpenShut
import Derived.ChangeArms
import Derived.SizedLaws
namespace Go.Proofs.Ytahamggipcikgaa
open Go.RowKit

/-- Types of arguments. -/
inductive Ty where
  | bool | str | txt
  | int (k : IntKind)
  | sl (bytes : Nat) (e : Ty)
  | unit
  | pair (a b : Ty)
  | st (f : Ty)

def Ty.size : Ty → Nat
  | .unit => 0
  | .pair a b => a.size + b.size
  | .st f => f.size
  | _ => 1

/-- It is the type of that number in the program; or the fields from an offset on. -/
def Ty.chk (P : Program) : Ty → TypeId ⊕ (List Field × Nat) → Bool
  | .bool, .inl t => (match P.underlying t with
    | some .bool => true
    | _ => false)
  | .str, .inl t => (match P.underlying t with
    | some .string => true
    | _ => false)
  | .int k, .inl t => (match P.underlying t with
    | some (.int k') => decide (k' = k)
    | _ => false)
  | .sl b e, .inl t => (match P.underlying t with
    | some (.slice u) => P.bytesOf u == b && (P.cellsOf u == e.size && e.chk P (.inl u))
    | _ => false)
  | .st f, .inl t => (match P.underlying t with
    | some (.struct fs) => P.cellsOf t == f.size && f.chk P (.inr (fs.toList, 0))
    | _ => false)
  | .unit, .inr (l, _) => l.isEmpty
  | .pair a b, .inr (x :: l, off) => x.offset == off && (P.cellsOf x.type == a.size && (a.chk P (.inl x.type) && b.chk P (.inr (l, off + a.size))))
  | _, _ => false

/-- The tree of a slice whose elements' cells are those. -/
def slT (size n : Nat) (f : Nat → List T) : T := .sl size n (if size = 1 then fun i _ => (f i).getD 0 (.val undef) else fun i j => (f i).getD j (.val undef))

def memTop : Nat := 140737488351232

def Ty.has : Ty → List T → Prop
  | .bool, ts => ∃ b, ts = [.val (.bool b)]
  | .str, ts => ∃ s : ByteArray, ts = [.val (.string s)] ∧ s.size ≤ memTop
  | .txt, ts => ∃ s : ByteArray, ts = [.val (.string s)] ∧ s.size ≤ 1048576
  | .int k, ts => ∃ z, ts = [.val (.int k z)] ∧ k.min ≤ z ∧ z ≤ k.max
  | .sl b e, ts => ∃ n f, ts = [slT e.size n f] ∧ n * b ≤ memTop ∧ n ≤ 9223372036854775807 ∧ ∀ i, e.has (f i)
  | .unit, ts => ts = []
  | .pair a b, ts => ∃ x y, ts = x ++ y ∧ a.has x ∧ b.has y
  | .st f, ts => f.has ts

theorem Ty.has_len : ∀ {ty : Ty} {ts : List T}, ty.has ts → ts.length = ty.size
  | .bool, _, ⟨_, e⟩ => by subst e; rfl
  | .str, _, ⟨_, e, _⟩ => by subst e; rfl
  | .txt, _, ⟨_, e, _⟩ => by subst e; rfl
  | .int _, _, ⟨_, e, _⟩ => by subst e; rfl
  | .sl _ _, _, ⟨_, _, e, _⟩ => by subst e; rfl
  | .unit, _, e => by cases e; rfl
  | .pair a b, _, ⟨x, y, e, h1, h2⟩ => by subst e; simp [Ty.size, Ty.has_len h1, Ty.has_len h2]
  | .st f, _, h => Ty.has_len (ty := f) h

theorem Ty.has_some : ∀ ty : Ty, ∃ ts, ty.has ts
  | .bool => ⟨_, false, rfl⟩
  | .str => ⟨_, ByteArray.empty, rfl, Nat.zero_le _⟩
  | .txt => ⟨_, ByteArray.empty, rfl, Nat.zero_le _⟩
  | .int k => ⟨_, 0, rfl, by cases k <;> decide, by cases k <;> decide⟩
  | .sl b e => let ⟨ts, h⟩ := Ty.has_some e; ⟨_, 0, fun _ => ts, rfl, by simp, by omega, fun _ => h⟩
  | .unit => ⟨[], rfl⟩
  | .pair a b => let ⟨x, h⟩ := Ty.has_some a; let ⟨y, g⟩ := Ty.has_some b; ⟨x ++ y, x, y, rfl, h, g⟩
  | .st f => let ⟨x, h⟩ := Ty.has_some f; ⟨x, h⟩

/-- Whatever families of trees of the type. -/
def Ty.allF : Ty → (ι : Type) → ((ι → List T) → Prop) → Prop
  | .bool, ι, K => ∀ b : ι → Bool, K fun i => [.val (.bool (b i))]
  | .str, ι, K => ∀ s : ι → ByteArray, (∀ i, (s i).size ≤ memTop) → K fun i => [.val (.string (s i))]
  | .txt, ι, K => ∀ s : ι → ByteArray, (∀ i, (s i).size ≤ 1048576) → K fun i => [.val (.string (s i))]
  | .int k, ι, K => ∀ z : ι → Int, (∀ i, k.min ≤ z i ∧ z i ≤ k.max) → K fun i => [.val (.int k (z i))]
  | .sl b e, ι, K => ∀ n : ι → Nat, (∀ i, n i * b ≤ memTop ∧ n i ≤ 9223372036854775807) → e.allF (ι × Nat) fun f => K fun i => [slT e.size (n i) fun a => f (i, a)]
  | .unit, _, K => K fun _ => []
  | .pair a b, ι, K => a.allF ι fun x => b.allF ι fun y => K fun i => x i ++ y i
  | .st f, ι, K => f.allF ι K

/-- Whatever trees of the type. -/
def Ty.all : Ty → (List T → Prop) → Prop
  | .bool, K => ∀ b : Bool, K [.val (.bool b)]
  | .str, K => ∀ s : ByteArray, s.size ≤ memTop → K [.val (.string s)]
  | .txt, K => ∀ s : ByteArray, s.size ≤ 1048576 → K [.val (.string s)]
  | .int k, K => ∀ z : Int, k.min ≤ z → z ≤ k.max → K [.val (.int k z)]
  | .sl b e, K => ∀ n : Nat, n * b ≤ memTop → n ≤ 9223372036854775807 → e.allF Nat fun f => K [slT e.size n f]
  | .unit, K => K []
  | .pair a b, K => a.all fun x => b.all fun y => K (x ++ y)
  | .st f, K => f.all K

theorem Ty.allF_of : ∀ {ty : Ty} {ι : Type} {K : (ι → List T) → Prop} {F : ι → List T}, ty.allF ι K → (∀ i, ty.has (F i)) → K F
  | .bool, _, K, F, h, hF => by
    have e : F = fun i => [.val (.bool (Classical.choose (hF i)))] := funext fun i => Classical.choose_spec (hF i)
    rw [e]; exact h _
  | .str, _, K, F, h, hF => by
    have e : F = fun i => [.val (.string (Classical.choose (hF i)))] := funext fun i => (Classical.choose_spec (hF i)).1
    rw [e]; exact h _ fun i => (Classical.choose_spec (hF i)).2
  | .txt, _, K, F, h, hF => by
    have e : F = fun i => [.val (.string (Classical.choose (hF i)))] := funext fun i => (Classical.choose_spec (hF i)).1
    rw [e]; exact h _ fun i => (Classical.choose_spec (hF i)).2
  | .int k, _, K, F, h, hF => by
    have e : F = fun i => [.val (.int k (Classical.choose (hF i)))] := funext fun i => (Classical.choose_spec (hF i)).1
    rw [e]; exact h _ fun i => (Classical.choose_spec (hF i)).2
  | .sl b e, ι, K, F, h, hF => by
    let n : ι → Nat := fun i => Classical.choose (hF i)
    have h1 : ∀ i, ∃ f, F i = [slT e.size (n i) f] ∧ n i * b ≤ memTop ∧ n i ≤ 9223372036854775807 ∧ ∀ a, e.has (f a) := fun i => Classical.choose_spec (hF i)
    let f : ι × Nat → List T := fun p => Classical.choose (h1 p.1) p.2
    have h2 : ∀ i, F i = [slT e.size (n i) fun a => f (i, a)] ∧ n i * b ≤ memTop ∧ n i ≤ 9223372036854775807 ∧ ∀ a, e.has (f (i, a)) := fun i => Classical.choose_spec (h1 i)
    have eF : F = fun i => [slT e.size (n i) fun a => f (i, a)] := funext fun i => (h2 i).1
    rw [eF]
    exact Ty.allF_of (ty := e) (K := fun f => K fun i => [slT e.size (n i) fun a => f (i, a)]) (h n fun i => ⟨(h2 i).2.1, (h2 i).2.2.1⟩) fun p => (h2 p.1).2.2.2 p.2
  | .unit, _, K, F, h, hF => by
    have e : F = fun _ => [] := funext fun i => hF i
    rw [e]; exact h
  | .pair a b, ι, K, F, h, hF => by
    let x : ι → List T := fun i => Classical.choose (hF i)
    have h1 : ∀ i, ∃ y, F i = x i ++ y ∧ a.has (x i) ∧ b.has y := fun i => Classical.choose_spec (hF i)
    let y : ι → List T := fun i => Classical.choose (h1 i)
    have h2 : ∀ i, F i = x i ++ y i ∧ a.has (x i) ∧ b.has (y i) := fun i => Classical.choose_spec (h1 i)
    have e : F = fun i => x i ++ y i := funext fun i => (h2 i).1
    rw [e]
    exact Ty.allF_of (ty := b) (K := fun y => K fun i => x i ++ y i) (Ty.allF_of (ty := a) (K := fun x => b.allF ι fun y => K fun i => x i ++ y i) h fun i => (h2 i).2.1) fun i => (h2 i).2.2
  | .st f, _, K, F, h, hF => Ty.allF_of (ty := f) h hF

theorem Ty.all_of : ∀ {ty : Ty} {K : List T → Prop} {ts : List T}, ty.all K → ty.has ts → K ts
  | .bool, K, _, h, ⟨b, e⟩ => by subst e; exact h b
  | .str, K, _, h, ⟨s, e, hs⟩ => by subst e; exact h s hs
  | .txt, K, _, h, ⟨s, e, hs⟩ => by subst e; exact h s hs
  | .int k, K, _, h, ⟨z, e, h1, h2⟩ => by subst e; exact h z h1 h2
  | .sl b e, K, _, h, ⟨n, f, e', h1, h2, h3⟩ => by subst e'; exact Ty.allF_of (ty := e) (K := fun f => K [slT e.size n f]) (h n h1 h2) h3
  | .unit, K, _, h, e => by cases e; exact h
  | .pair a b, K, _, h, ⟨x, y, e, h1, h2⟩ => by subst e; exact Ty.all_of (ty := b) (K := fun y => K (x ++ y)) (Ty.all_of (ty := a) (K := fun x => b.all fun y => K (x ++ y)) h h1) h2
  | .st f, K, _, h, hf => Ty.all_of (ty := f) h hf

section
variable {H : Type} {enc : TypeId × Value → H} {P : Program} {W : World} {base : Nat} {sp : Nat → Bool} {held : Bool}

/-- No part is larger than what a process reaches. -/
def Small (P : Program) (t : TypeId) (d : DataW H) : Prop := ∀ n ∈ d.weights P t, n ≤ reachBytes
theorem reach_eq : reachBytes = memTop := by decide

/-- Cells that are those trees. -/
def Cells (ok : Nat → Nat → Prop) (W : World) (ts : List T) (cs : List Value) : Prop := cs.length = ts.length ∧ ∀ j, j < ts.length → (cs.getD j undef).oneCell' = true ∧ (ts.getD j (.val undef)).rel ok W (cs.getD j undef)

theorem Cells.one {ok : Nat → Nat → Prop} {t : T} {c : Value} (h1 : c.oneCell' = true) (h : t.rel ok W c) : Cells ok W [t] [c] :=
  ⟨rfl, fun j hj => by obtain rfl : j = 0 := by simp at hj; omega
                       exact ⟨h1, h⟩⟩

theorem Cells.append {ok : Nat → Nat → Prop} {x y : List T} {a b : List Value} (h : Cells ok W x a) (g : Cells ok W y b) : Cells ok W (x ++ y) (a ++ b) := by
  refine ⟨by simp [h.1, g.1], fun j hj => ?_⟩
  by_cases hx : j < x.length
  · have := h.2 j hx
    simpa only [List.getD_eq_getElem?_getD, List.getElem?_append_left hx, List.getElem?_append_left (h.1 ▸ hx)] using this
  · have hj' : j - x.length < y.length := by simp at hj; omega
    have := g.2 (j - x.length) hj'
    have ha : a.length ≤ j := by have := h.1; omega
    simpa only [List.getD_eq_getElem?_getD, List.getElem?_append_right (by omega : x.length ≤ j), List.getElem?_append_right ha, h.1] using this

theorem weightsAll_mem {e : TypeId} : ∀ {l : List (DataW H)} {d : DataW H}, d ∈ l → ∀ n ∈ d.weights P e, n ∈ DataW.weightsAll P e l
  | x :: l, d, hd, n, hn => by
    simp only [DataW.weightsAll, List.mem_append]
    rcases List.mem_cons.1 hd with rfl | h
    · exact .inl hn
    · exact .inr (weightsAll_mem h n hn)

/-- The fields from one on. -/
def FieldsAt (enc : TypeId × Value → H) (P : Program) (W : World) (base : Nat) (sp : Nat → Bool) (held : Bool) (m : Nat) (cs : List Value) : List Field → List (DataW H × List MemPlace) → Prop
  | [], [] => True
  | f :: l, x :: r => DataW.trod enc P W base sp held m f.type ((cs.drop f.offset).take (P.cellsOf f.type)) = some x ∧ FieldsAt enc P W base sp held m cs l r
  | _, _ => False

theorem fieldsAt_of {m : Nat} {cs : List Value} : ∀ {l : List Field} {r : List (DataW H × List MemPlace)}, r.length = l.length →
    (∀ (i : Nat) (f : Field), l[i]? = some f → DataW.trod enc P W base sp held m f.type ((cs.drop f.offset).take (P.cellsOf f.type)) = r[i]?) → FieldsAt enc P W base sp held m cs l r
  | [], [], _, _ => trivial
  | [], _ :: _, h, _ => by simp at h
  | _ :: _, [], h, _ => by simp at h
  | f :: l, x :: r, h, hf => ⟨by simpa using hf 0 f rfl, fieldsAt_of (by simpa using h) fun i g hg => by simpa using hf (i + 1) g (by simpa using hg)⟩

theorem trod_has : ∀ {ty : Ty},
    (∀ {t : TypeId} {fuel : Nat} {cs : List Value} {x : DataW H × List MemPlace}, ty.chk P (.inl t) = true → Small P t x.1 → DataW.trod enc P W base sp held fuel t cs = some x →
      ∃ ts, ty.has ts ∧ Cells (fun b _ => b < W.heap.size) W ts cs) ∧
    (∀ {l : List Field} {off m : Nat} {cs : List Value} {r : List (DataW H × List MemPlace)}, ty.chk P (.inr (l, off)) = true → cs.length = off + ty.size → FieldsAt enc P W base sp held m cs l r →
      (∀ n ∈ DataW.weightsEach P (l.map (·.type)) (r.map (·.1)), n ≤ reachBytes) → ∃ ts, ty.has ts ∧ Cells (fun b _ => b < W.heap.size) W ts (cs.drop off)) := by
  intro ty
  induction ty with
  | bool =>
    refine ⟨fun {t fuel cs x} hc _ h => ?_, fun {l off m cs r} hc => absurd (show false = true from hc) Bool.false_ne_true⟩
    have hu : P.underlying t = some .bool := by
      simp only [Ty.chk] at hc
      split at hc
      · assumption
      · cases hc
    obtain ⟨b, rfl, _⟩ := DataW.trod_bool hu h
    exact ⟨_, ⟨b, rfl⟩, .one rfl rfl⟩
  | str =>
    refine ⟨fun {t fuel cs x} hc hs h => ?_, fun {l off m cs r} hc => absurd (show false = true from hc) Bool.false_ne_true⟩
    have hu : P.underlying t = some .string := by
      simp only [Ty.chk] at hc
      split at hc
      · assumption
      · cases hc
    obtain ⟨s, rfl, rfl, hm⟩ := DataW.trod_string hu h
    refine ⟨_, ⟨s, rfl, ?_⟩, .one rfl rfl⟩
    have := hs s.data.toList.length (by simp [DataW.weights])
    rw [reach_eq] at this
    simpa using this
  | txt => exact ⟨fun hc => absurd (show false = true from hc) Bool.false_ne_true, fun hc => absurd (show false = true from hc) Bool.false_ne_true⟩
  | int k =>
    refine ⟨fun {t fuel cs x} hc _ h => ?_, fun {l off m cs r} hc => absurd (show false = true from hc) Bool.false_ne_true⟩
    have hu : P.underlying t = some (.int k) := by
      simp only [Ty.chk] at hc
      split at hc
      · rename_i k' e
        have := of_decide_eq_true hc
        subst this
        exact e
      · cases hc
    obtain ⟨z, rfl, _, hw⟩ := DataW.trod_int hu h
    exact ⟨_, ⟨z, rfl, by simpa [Lit.wf] using hw⟩, .one rfl rfl⟩
  | sl b e ih =>
    refine ⟨fun {t fuel cs x} hc hs h => ?_, fun {l off m cs r} hc => absurd (show false = true from hc) Bool.false_ne_true⟩
    simp only [Ty.chk] at hc
    split at hc
    · rename_i u hu
      simp only [Bool.and_eq_true, beq_iff_eq] at hc
      obtain ⟨h1, h2, h3⟩ := hc
      obtain ⟨z, hz⟩ := Ty.has_some e
      rcases DataW.trod_slice hu h with ⟨rfl, _⟩ | ⟨a, len, cap, elems, rest, n, _, rfl, rfl, _, hl, hm, hlen, hel, _, _⟩
      · exact ⟨_, ⟨0, fun _ => z, rfl, by simp, by omega, fun _ => hz⟩, .one rfl ⟨none, 0, rfl, Nat.le_refl _, fun i j hi => absurd hi (Nat.not_lt_zero _)⟩⟩
      · have hw : ∀ (i : Nat) (y : DataW H × List MemPlace), elems[i]? = some y → Small P u y.1 := fun i y hy k hk => hs k (by
          simp only [DataW.weights, hu, List.mem_cons, List.mem_append]
          exact .inr (.inl (weightsAll_mem (List.mem_map.2 ⟨y, List.mem_of_getElem? hy, rfl⟩) k hk)))
        have each : ∀ i, ∃ ts, e.has ts ∧ (i < len → ∀ j, j < e.size → ∃ v, W.cell? (a.add (i * e.size + j)) = some v ∧ v.oneCell' = true ∧ (ts.getD j (.val undef)).rel (fun b _ => b < W.heap.size) W v) := by
          intro i
          by_cases hi : i < len
          · have hy := hel i hi
            rw [List.getElem?_eq_getElem (by omega), Option.bind_eq_some_iff] at hy
            obtain ⟨cs', hcs, ht⟩ := hy
            obtain ⟨ts, t1, t2⟩ := ih.1 h3 (hw i _ (List.getElem?_eq_getElem (by omega))) ht
            refine ⟨ts, t1, fun _ j hj => ?_⟩
            obtain ⟨_, c1, c2⟩ := World.cells?_some hcs
            have hj' := c2 j (by omega)
            rw [Addr.add_add, List.getElem?_eq_getElem (by omega), h2] at hj'
            obtain ⟨g1, g2⟩ := t2.2 j (by rw [Ty.has_len t1]; exact hj)
            refine ⟨_, hj', ?_⟩
            have e1 : cs'.getD j undef = cs'[j]'(by omega) := by simp [List.getD_eq_getElem?_getD, List.getElem?_eq_getElem (show j < cs'.length by omega)]
            rw [e1] at g1 g2
            exact ⟨g1, g2⟩
          · exact ⟨z, hz, fun h => absurd h hi⟩
        let f : Nat → List T := fun i => Classical.choose (each i)
        have hf : ∀ i, e.has (f i) ∧ _ := fun i => Classical.choose_spec (each i)
        refine ⟨_, ⟨len, f, rfl, ?_, ?_, fun i => (hf i).1⟩, .one rfl ⟨some a, cap, rfl, hl, fun i j hi hj => ?_⟩⟩
        · have := hs ((elems.map (·.1)).length + (rest.map (·.1)).length |> (· * P.bytesOf u)) (by simp [DataW.weights, hu])
          rw [reach_eq, h1] at this
          simp only [List.length_map, hlen] at this
          exact Nat.le_trans (Nat.mul_le_mul_right _ (Nat.le_add_right _ _)) this
        · unfold maxLen at hm; omega
        · obtain ⟨v, v1, v2, v3⟩ := (hf i).2 hi j hj
          refine ⟨a, v, rfl, by have := World.block_lt_of_cell? W _ v1; rwa [show (a.add (i * e.size + j)).block = a.block by unfold Addr.add; split <;> rfl] at this, v1, v2, ?_⟩
          by_cases hz : e.size = 1
          · obtain rfl : j = 0 := by omega
            simp only [hz, if_true]; exact v3
          · simp only [hz, if_false]; exact v3
    · simp at hc
  | unit =>
    refine ⟨fun {t fuel cs x} hc => absurd (show false = true from hc) Bool.false_ne_true, fun {l off m cs r} hc hcs _ _ => ?_⟩
    refine ⟨[], rfl, ?_, fun j hj => absurd hj (Nat.not_lt_zero _)⟩
    simp [Ty.size] at hcs
    simp [hcs]
  | pair a b iha ihb =>
    refine ⟨fun {t fuel cs x} hc => absurd (show false = true from hc) Bool.false_ne_true, fun {l off m cs r} hc hcs hf hw => ?_⟩
    match l, r, hf with
    | y :: l, x :: r, ⟨h1, h2⟩ =>
      simp only [Ty.chk, Bool.and_eq_true, beq_iff_eq] at hc
      obtain ⟨rfl, c1, c2, c3⟩ := hc
      simp only [Ty.size] at hcs
      simp only [List.map_cons, DataW.weightsEach, List.mem_append] at hw
      obtain ⟨ts, t1, t2⟩ := iha.1 c2 (fun n hn => hw n (.inl hn)) h1
      obtain ⟨us, u1, u2⟩ := ihb.2 c3 (by omega) h2 (fun n hn => hw n (.inr hn))
      refine ⟨ts ++ us, ⟨ts, us, rfl, t1, u1⟩, ?_⟩
      have := t2.append u2
      rw [c1, ← List.drop_drop, List.take_append_drop] at this
      exact this
    | [], [], _ => simp [Ty.chk] at hc
  | st f ih =>
    refine ⟨fun {t fuel cs x} hc hs h => ?_, fun {l off m cs r} hc => absurd (show false = true from hc) Bool.false_ne_true⟩
    simp only [Ty.chk] at hc
    split at hc
    · rename_i fs hu
      simp only [Bool.and_eq_true, beq_iff_eq] at hc
      obtain ⟨xs, n, _, rfl, hl, hlen, hf⟩ := DataW.trod_struct hu h
      have := ih.2 hc.2 (by rw [hl, hc.1, Nat.zero_add]) (fieldsAt_of (by simpa using hlen) fun i g hg => hf i g (by simpa using hg)) (fun n hn => hs n (by simpa [DataW.weights, hu] using hn))
      simpa [Ty.has] using this
    · simp at hc
end
/-- The bounds of the kinds of numbers. -/
theorem kindBounds : IntKind.i8.min = -128 ∧ IntKind.i8.max = 127 ∧ IntKind.i16.min = -32768 ∧ IntKind.i16.max = 32767 ∧ IntKind.i32.min = -2147483648 ∧ IntKind.i32.max = 2147483647 ∧ IntKind.i64.min = -9223372036854775808 ∧ IntKind.i64.max = 9223372036854775807 ∧ IntKind.u8.min = 0 ∧ IntKind.u8.max = 255 ∧ IntKind.u16.min = 0 ∧ IntKind.u16.max = 65535 ∧ IntKind.u32.min = 0 ∧ IntKind.u32.max = 4294967295 ∧ IntKind.u64.min = 0 ∧ IntKind.u64.max = 18446744073709551615 ∧ memTop = 140737488351232 := by decide
end Go.Proofs.Ytahamggipcikgaa
