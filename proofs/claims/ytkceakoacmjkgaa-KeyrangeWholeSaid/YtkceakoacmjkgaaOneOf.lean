/-
  Plain facts: of ranges that are whole each key lies within just one; they stay whole when one is parted.
-/
import Derived.Test.YtkceakoacmjkgaaFind
import Derived.Test.YtkceakoacmjkgaaListsW
namespace Go.Proofs.Ytkceakoacmjkgaa
open Go.RowKit

/-- Ranges fit from place i on, behind an end. -/
def okF (rs : Nat → ByteArray × ByteArray) (n : Nat) : Nat → Nat → ByteArray → Prop
  | 0, _, e => n ≠ 0 ∧ ky e = []
  | f + 1, i, e => chk (rs i).1 (rs i).2 = 0 ∧ ky (rs i).1 = ky e ∧ (i + 1 < n → ky (rs i).2 ≠ []) ∧ okF rs n f (i + 1) (rs i).2

theorem bad_iff (rs : Nat → ByteArray × ByteArray) (n i : Nat) (e : ByteArray) : bad rs n i e = false ↔ ky (rs i).1 = ky e ∧ (i + 1 < n → ky (rs i).2 ≠ []) := by
  unfold bad
  rw [eq_ky, empty_ky]
  by_cases h : ky (rs i).1 = ky e <;> by_cases g : i + 1 < n <;> by_cases u : ky (rs i).2 = [] <;> simp [h, g, u]

theorem wholeF_iff (rs : Nat → ByteArray × ByteArray) (n : Nat) : ∀ (f i : Nat) (e : ByteArray), (wholeF rs n f i e).1 = 0 ↔ okF rs n f i e
  | 0, _, e => by
    unfold wholeF okF
    rw [empty_ky]
    by_cases h : n = 0 <;> by_cases g : ky e = [] <;> simp [h, g]
  | f + 1, i, e => by
    unfold wholeF okF
    cases a : chk (rs i).1 (rs i).2 == 0
    · rw [if_neg Bool.false_ne_true]
      simp only [beq_eq_false_iff_ne] at a
      exact ⟨fun h => absurd h a, fun h => absurd h.1 a⟩
    · rw [if_pos rfl]
      simp only [beq_iff_eq] at a
      cases b : bad rs n i e
      · rw [if_neg Bool.false_ne_true, wholeF_iff rs n f]
        obtain ⟨b1, b2⟩ := (bad_iff rs n i e).1 b
        exact ⟨fun h => ⟨a, b1, b2, h⟩, fun h => h.2.2.2⟩
      · rw [if_pos rfl]
        refine ⟨fun h => absurd (show (133 : Int) = 0 from h) (by decide), fun h => ?_⟩
        rw [(bad_iff rs n i e).2 ⟨h.2.1, h.2.2.1⟩] at b
        cases b

/-- A key below an end lies within none of what follows. -/
theorem none_below {rs : Nat → ByteArray × ByteArray} {n : Nat} {key : ByteArray} : ∀ (f i : Nat) (e : ByteArray), i + f = n → okF rs n f i e → ky key < ky e → ∀ c, i ≤ c → c < n → has (rs c).1 (rs c).2 key = false
  | 0, i, e, hf, _, _, c, h1, h2 => absurd h1 (by omega)
  | f + 1, i, e, hf, h, hlt, c, h1, h2 => by
    obtain ⟨a, b, d, r⟩ := h
    by_cases e1 : c = i
    · subst e1
      cases u : has (rs c).1 (rs c).2 key
      · rfl
      · obtain ⟨_, _, g, _⟩ := (has_iff _ _ _).1 u
        exact absurd (b ▸ hlt) g
    · have hne := d (by omega)
      obtain ⟨_, _, g⟩ := (chk_iff _ _).1 a
      exact none_below f (i + 1) _ (by omega) r (lt_lt hlt (b ▸ g.resolve_left hne)) c (by omega) h2

theorem just_one {rs : Nat → ByteArray × ByteArray} {n : Nat} {key : ByteArray} (hs : key.size ≤ 32) : ∀ (f i : Nat) (e : ByteArray), i + f = n → okF rs n f i e → (i = 0 ∨ ky e ≠ []) → ¬ ky key < ky e →
    ∃ j, i ≤ j ∧ j < n ∧ has (rs j).1 (rs j).2 key = true ∧ ∀ c, i ≤ c → c < n → c ≠ j → has (rs c).1 (rs c).2 key = false
  | 0, i, e, hf, h, h0, _ => by
    obtain ⟨a, b⟩ := h
    rcases h0 with h0 | h0
    · exact absurd (by omega) a
    · exact absurd b h0
  | f + 1, i, e, hf, h, h0, hge => by
    obtain ⟨a, b, d, r⟩ := h
    by_cases g : ky (rs i).2 = [] ∨ ky key < ky (rs i).2
    · refine ⟨i, Nat.le_refl _, by omega, (has_iff _ _ _).2 ⟨a, hs, b ▸ hge, g⟩, fun c h1 h2 h3 => ?_⟩
      have hne := d (by omega)
      exact none_below f (i + 1) _ (by omega) r (g.resolve_left hne) c (by omega) h2
    · have g1 : ky (rs i).2 ≠ [] := fun u => g (.inl u)
      have g2 : ¬ ky key < ky (rs i).2 := fun u => g (.inr u)
      obtain ⟨j, j1, j2, j3, j4⟩ := just_one hs f (i + 1) _ (by omega) r (.inr g1) g2
      refine ⟨j, by omega, j2, j3, fun c h1 h2 h3 => ?_⟩
      by_cases e1 : c = i
      · subst e1
        cases u : has (rs c).1 (rs c).2 key
        · rfl
        · exact absurd ((has_iff _ _ _).1 u).2.2.2 g
      · exact j4 c (by omega) h2 h3

theorem findF_of {rs : Nat → ByteArray × ByteArray} {key : ByteArray} {j : Nat} (hj : has (rs j).1 (rs j).2 key = true) : ∀ (f i : Nat), i ≤ j → j < i + f → (∀ c, i ≤ c → c < j → has (rs c).1 (rs c).2 key = false) → findF rs key f i = ((j : Int), true)
  | 0, i, h1, h2, _ => absurd h1 (by omega)
  | f + 1, i, h1, h2, h => by
    unfold findF
    by_cases e : i = j
    · rw [e, if_pos hj]
    · rw [if_neg (by rw [h i (Nat.le_refl _) (by omega)]; exact Bool.false_ne_true)]
      exact findF_of hj f (i + 1) (by omega) (by omega) fun c hc hcj => h c (by omega) hcj

/-- What the law asks first. -/
theorem whole_find {rs : Nat → ByteArray × ByteArray} {n : Nat} {key : ByteArray} (hw : (whole rs n).1 = 0) (hs : key.size ≤ 32) :
    ∃ j, j < n ∧ find rs n key = ((j : Int), true) ∧ ∀ c, c < n → has (rs c).1 (rs c).2 key = decide (c = j) := by
  have h := (wholeF_iff rs n n 0 ⟨#[]⟩).1 hw
  obtain ⟨j, _, j2, j3, j4⟩ := just_one (key := key) hs n 0 _ (by omega) h (.inl rfl) (not_lt_nil _)
  refine ⟨j, j2, findF_of j3 n 0 (Nat.zero_le _) (by omega) fun c _ hc => j4 c (Nat.zero_le _) (by omega) (by omega), fun c hc => ?_⟩
  by_cases e : c = j
  · subst e; simp [j3]
  · simp [e, j4 c (Nat.zero_le _) hc e]

/-- Ranges of which one is parted. -/
def cutAt (rs : Nat → ByteArray × ByteArray) (j : Nat) (k : ByteArray) (i : Nat) : ByteArray × ByteArray :=
  if i < j then rs i else if i = j then ((rs j).1, k) else if i = j + 1 then (k, (rs j).2) else rs (i - 1)

theorem cut_after {rs : Nat → ByteArray × ByteArray} {n j : Nat} {k : ByteArray} : ∀ (f i : Nat) (e : ByteArray), j < i → okF rs n f i e → okF (cutAt rs j k) (n + 1) f (i + 1) e
  | 0, _, _, _, h => ⟨by omega, h.2⟩
  | f + 1, i, e, hi, h => by
    obtain ⟨a, b, d, r⟩ := h
    have e1 : cutAt rs j k (i + 1) = rs i := by unfold cutAt; rw [if_neg (by omega), if_neg (by omega), if_neg (by omega)]; rfl
    unfold okF
    rw [e1]
    exact ⟨a, b, fun g => d (by omega), cut_after f (i + 1) _ (by omega) r⟩

theorem cut_ok {rs : Nat → ByteArray × ByteArray} {n j : Nat} {k : ByteArray} (hj : j < n) (hs : splitE (rs j).1 (rs j).2 k = 0) : ∀ (f i : Nat) (e : ByteArray), i + f = n → i ≤ j → okF rs n f i e → okF (cutAt rs j k) (n + 1) (f + 1) i e
  | 0, i, e, hf, hi, _ => absurd hj (by omega)
  | f + 1, i, e, hf, hi, h => by
    obtain ⟨a, b, d, r⟩ := h
    by_cases e1 : i = j
    · subst e1
      obtain ⟨p1, p2, p3⟩ := split_parts hs
      have c0 : cutAt rs i k i = ((rs i).1, k) := by unfold cutAt; rw [if_neg (by omega), if_pos rfl]
      have c1 : cutAt rs i k (i + 1) = (k, (rs i).2) := by unfold cutAt; rw [if_neg (by omega), if_neg (by omega), if_pos rfl]
      unfold okF
      rw [c0]
      refine ⟨p1, b, fun _ => p3, ?_⟩
      unfold okF
      rw [c1]
      exact ⟨p2, rfl, fun g => d (by omega), cut_after f (i + 1) _ (by omega) r⟩
    · have c0 : cutAt rs j k i = rs i := by unfold cutAt; rw [if_pos (by omega)]
      unfold okF
      rw [c0]
      exact ⟨a, b, fun _ => d (by omega), cut_ok hj hs f (i + 1) _ (by omega) (by omega) r⟩

theorem whole_cut {rs : Nat → ByteArray × ByteArray} {n j : Nat} {k : ByteArray} (hj : j < n) (hw : (whole rs n).1 = 0) (hs : splitE (rs j).1 (rs j).2 k = 0) : (whole (cutAt rs j k) (n + 1)).1 = 0 :=
  (wholeF_iff _ _ _ _ _).2 (cut_ok hj hs n 0 _ (by omega) (Nat.zero_le _) ((wholeF_iff _ _ _ _ _).1 hw))

/-! ### Their cells -/
theorem rcells_same {rs rs' : Nat → ByteArray × ByteArray} : ∀ n, (∀ i, i < n → rs i = rs' i) → rcells rs n = rcells rs' n
  | 0, _ => rfl
  | n + 1, h => by rw [rcells, rcells, rcells_same n fun i hi => h i (by omega), h n (by omega)]
theorem rcells_split (rs : Nat → ByteArray × ByteArray) (k : Nat) : ∀ m, rcells rs (k + m) = rcells rs k ++ rcells (fun i => rs (i + k)) m
  | 0 => by rw [Nat.add_zero, rcells, List.append_nil]
  | m + 1 => by rw [← Nat.add_assoc, rcells, rcells_split rs k m, rcells, List.append_assoc, Nat.add_comm m k]
theorem rcells_drop (rs : Nat → ByteArray × ByteArray) (n k : Nat) (h : k ≤ n) : (rcells rs n).drop (k * 2) = rcells (fun i => rs (i + k)) (n - k) := by
  rw [show n = k + (n - k) by omega, rcells_split, List.drop_append_of_le_length (by rw [rcells_length]; omega), List.drop_of_length_le (by rw [rcells_length]; omega), Nat.add_sub_cancel_left]
  rfl
theorem rcells_cut (rs : Nat → ByteArray × ByteArray) (n j : Nat) (k : ByteArray) (hj : j < n) :
    rcells (cutAt rs j k) (n + 1) = rcells rs j ++ [.string (rs j).1, .string k, .string k, .string (rs j).2] ++ rcells (fun i => rs (i + (j + 1))) (n - (j + 1)) := by
  rw [show n + 1 = (j + 2) + (n - (j + 1)) by omega, rcells_split]
  congr 1
  · rw [rcells, rcells, rcells_same (rs' := rs) j fun i hi => by unfold cutAt; rw [if_pos hi]]
    have c0 : cutAt rs j k j = ((rs j).1, k) := by unfold cutAt; rw [if_neg (by omega), if_pos rfl]
    have c1 : cutAt rs j k (j + 1) = (k, (rs j).2) := by unfold cutAt; rw [if_neg (by omega), if_neg (by omega), if_pos rfl]
    rw [c0, c1, List.append_assoc]
    rfl
  · exact rcells_same _ fun i _ => by
      unfold cutAt
      rw [if_neg (by omega), if_neg (by omega), if_neg (by omega)]
      congr 1
end Go.Proofs.Ytkceakoacmjkgaa
